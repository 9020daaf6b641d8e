/- The walk of quoinlaw07.StepTimes: it answers true for every text and every question. -/
import Derived.Test.YtbkhbnmihnomaaaAwk
namespace Go.Proofs.Ytbkhbnmihnomaaa
open Go.RowKit

theorem below_drewN (w : World) (n : Nat) : Below w.heap.size w (w.drewN n) := ⟨rfl, rfl, rfl, Nat.le_refl _, fun _ _ => rfl⟩
theorem wn_lo (l : List UInt8) (want : Int) (n k q : Nat) (hw : -1 ≤ want) (hk : k ≤ 6) : -1 ≤ wn l want n k q := by
  unfold wn; split
  · exact hw
  · rw [if_neg (by omega), if_neg (by omega)]; omega
theorem wn_hi (l : List UInt8) (want : Int) (n k q : Nat) (hw : want ≤ 9223372036854775807) (hk : k ≤ 6) (hq : q ≤ 140737488355328) : wn l want n k q ≤ 9223372036854775807 := by
  unfold wn; split
  · exact hw
  · rw [if_neg (by omega), if_neg (by omega)]; omega
/-- how far the loop has come: i motions, the last one to q, with the column wv wanted -/
def Gone (l : List UInt8) (p : Nat) (want : Int) (k i q : Nat) (wv : Int) : Prop := (i = 0 ∧ q = p ∧ wv = want) ∨ (0 < i ∧ tgt l p want i false k = some q ∧ wv = wn l want i k q)
theorem Gone.wv {l : List UInt8} {p : Nat} {want : Int} {k i q : Nat} {wv : Int} (h : Gone l p want k i q wv) (hk : k = 5 ∨ k = 6) : wv = want := by
  rcases h with ⟨_, _, h⟩ | ⟨_, _, h⟩
  · exact h
  · rw [h]; unfold wn; rw [if_pos hk]
theorem Gone.step {l : List UInt8} {p : Nat} {want : Int} {k i q q' : Nat} {wv : Int} (hp : p ≤ l.length) (hk1 : 1 ≤ k) (hk6 : k ≤ 6) (h : Gone l p want k i q wv) (h' : tgt l q wv 1 false k = some q') : Gone l p want k (i + 1) q' (wn l wv 1 k q') := by
  have e1 : tgt l q want 1 false k = some q' := by rw [← h']; exact tgt_want hk6 (fun hh => (h.wv hh).symm)
  have e2 : wn l wv 1 k q' = wn l want (i + 1) k q' := by
    rw [wn_more l want (i + 1) 1 k q' hk6]
    unfold wn
    split
    · rename_i hh; exact h.wv hh
    · rfl
  refine .inr ⟨by omega, ?_, e2⟩
  rcases h with ⟨rfl, rfl, _⟩ | ⟨hi, ht, _⟩
  · exact e1
  · exact tgt_more hp hk1 hk6 hi ht e1
theorem Gone.lo {l : List UInt8} {p : Nat} {want : Int} {k i q : Nat} {wv : Int} (h : Gone l p want k i q wv) (hw : -1 ≤ want) (hk : k ≤ 6) : -1 ≤ wv := by
  rcases h with ⟨_, _, h⟩ | ⟨_, _, h⟩
  · rw [h]; exact hw
  · rw [h]; exact wn_lo l want i k q hw hk
theorem Gone.hi {l : List UInt8} {p : Nat} {want : Int} {k i q : Nat} {wv : Int} (h : Gone l p want k i q wv) (hw : want ≤ 9223372036854775807) (hk : k ≤ 6) (hq : q ≤ 140737488355328) : wv ≤ 9223372036854775807 := by
  rcases h with ⟨_, _, h⟩ | ⟨_, _, h⟩
  · rw [h]; exact hw
  · rw [h]; exact wn_hi l want i k q hw hk hq

set_option maxHeartbeats 2000000 in
theorem times_other (ao : Option Addr) (n c : Nat) (i want cnt : Int) (l : List UInt8) (s : ByteArray) (w : World) (hi1 : -9223372036854775808 ≤ i) (hi2 : i ≤ 9223372036854775807) (hw2 : want ≤ 9223372036854775807) (hc1 : -9223372036854775808 ≤ cnt) (hc2 : cnt ≤ 9223372036854775807) (HT : Hid (Tx w ao n c l)) (h1 : (s.toList == [104]) = false) (h2 : (s.toList == [108]) = false) (h3 : (s.toList == [32]) = false) (h4 : (s.toList == [8]) = false) (h5 : (s.toList == [106]) = false) (h6 : (s.toList == [107]) = false) :
    Calls Try.prog 4 #[.slice ao n c, .agg #[.int .i64 i, .int .i64 want, .int .i64 cnt, .string s]] w fun e w' => e = .returned (.bool true) ∧ Below w.heap.size w w' := by
  have hbig : (n : Int) ≤ 140737488355328 := by have := HT.out.big; omega
  have hn0 : (0 : Int) ≤ (n : Int) := by omega
  have hlen := Hid.mk' HT.out.len
  go_enter Try.func4, Try.ntmps4
  go_wp2_with fail
  refine (awake_any _).mono ?_
  rintro e w1 ⟨rfl, hb1⟩
  have m0 : w1.cell? ⟨w.heap.size, 0, none⟩ = some (.int .i64 i) := by rw [(bcell hb1).1 _ _ (by simp)]; simp [go_sem]
  have m1 : w1.cell? ⟨w.heap.size, 1, none⟩ = some (.int .i64 want) := by rw [(bcell hb1).1 _ _ (by simp)]; simp [go_sem]
  have m2 : w1.cell? ⟨w.heap.size, 2, none⟩ = some (.int .i64 cnt) := by rw [(bcell hb1).1 _ _ (by simp)]; simp [go_sem]
  have m3 : w1.cell? ⟨w.heap.size, 3, none⟩ = some (.string s) := by rw [(bcell hb1).1 _ _ (by simp)]; simp [go_sem]
  have B1 := Hid.mk' (bT (bAlloc (Below.refl _ _) _) hb1)
  clear hb1
  go_wp2_with fail
  go_quiet (fail)
  have B2 := Hid.mk' (bT B1.out (below_drewN w1 nq))
  generalize w1.drewN nq = w2 at *
  clear m0 m1 m2 m3 B1
  have T2 := Hid.mk' (HT.out.keep B2.out)
  go_wp2_with fail
  refine (place_any i ((n : Int) + 1) _ hi1 hi2 (by omega) (by omega)).mono ?_
  rintro e w9 ⟨rfl, hw⟩
  have hq := hw.symm
  subst hq
  clear hw
  obtain ⟨p0, hp0, hp1⟩ : ∃ p0 : Nat, plc i ((n : Int) + 1) = (p0 : Int) ∧ p0 ≤ n := by
    have h1 := plc_lo (i := i) (n := (n : Int) + 1) (by omega)
    have h2 := plc_hi (i := i) (n := (n : Int) + 1) (by omega)
    exact ⟨(plc i ((n : Int) + 1)).toNat, by omega, by omega⟩
  rw [hp0]
  clear hp0
  go_wp2_with fail
  refine (rest_at8 hp1 T2).mono ?_
  rintro e w9 ⟨rfl, hw⟩
  have hq := hw.symm
  subst hq
  clear hw
  have hp : rs l p0 ≤ n := by have := rs_le (l := l) (i := p0) (by rw [hlen.out]; exact hp1); omega
  generalize rs l p0 = p at *
  clear hp1
  go_wp2_with fail
  refine (place_any cnt 40 _ hc1 hc2 (by omega) (by omega)).mono ?_
  rintro e w9 ⟨rfl, hw⟩
  have hq := hw.symm
  subst hq
  clear hw
  obtain ⟨N0, hN0, hN1⟩ : ∃ N0 : Nat, plc cnt 40 = (N0 : Int) ∧ N0 < 40 := by
    have h1 := plc_lo (i := cnt) (n := 40) (by omega)
    have h2 := plc_hi (i := cnt) (n := 40) (by omega)
    exact ⟨(plc cnt 40).toNat, by omega, by omega⟩
  rw [hN0]
  clear hN0
  have hN2 : (N0 : Int) + 1 ≤ 40 := by omega
  have hN3 : (0 : Int) ≤ (N0 : Int) := by omega
  go_wp2_with fail
  refine (move_any ao n c p want ((N0 : Int) + 1) l s _ hw2 T2).mono ?_
  rintro e w3 ⟨rfl, hb3⟩
  rw [mvE_def]
  have hE := mv_err l p want ((N0 : Int) + 1) s
  generalize mv l p want ((N0 : Int) + 1) s = A at *
  have B3 := Hid.mk' (bT B2.out hb3)
  clear hb3
  obtain ⟨a1, a2, a3, a4, a5⟩ := A
  rcases hE with rfl | rfl | rfl
  · go_wp2
    go_ret
    exact ⟨rfl, bAlloc B3.out _⟩
  · go_wp2
    go_ret
    exact ⟨rfl, bAlloc B3.out _⟩
  · go_wp2
    go_ret
    exact ⟨rfl, bAlloc B3.out _⟩


set_option maxRecDepth 4000 in
set_option maxHeartbeats 4000000 in
theorem times_1 (ao : Option Addr) (n c : Nat) (i want cnt : Int) (l : List UInt8) (s : ByteArray) (w : World) (hi1 : -9223372036854775808 ≤ i) (hi2 : i ≤ 9223372036854775807) (hw2 : want ≤ 9223372036854775807) (hc1 : -9223372036854775808 ≤ cnt) (hc2 : cnt ≤ 9223372036854775807) (HT : Hid (Tx w ao n c l)) (hk : kn s = 1) :
    Calls Try.prog 4 #[.slice ao n c, .agg #[.int .i64 i, .int .i64 want, .int .i64 cnt, .string s]] w fun e w' => e = .returned (.bool true) ∧ Below w.heap.size w w' := by
  obtain ⟨q1, q2, q3, q4, q5, q6, q7, q8, q9, q10, q11, q12, q13, q14, q15, q16⟩ : (s.toList == [104]) = true ∧ (s.toList == [108]) = false ∧ (s.toList == [32]) = false ∧ (s.toList == [8]) = false ∧ (s.toList == [106]) = false ∧ (s.toList == [107]) = false ∧ (s.toList == [43]) = false ∧ (s.toList == [13]) = false ∧ (s.toList == [45]) = false ∧ (s.toList == [95]) = false ∧ (s.toList == [48]) = false ∧ (s.toList == [94]) = false ∧ (s.toList == [36]) = false ∧ (s.toList == [124]) = false ∧ (s.toList == [71]) = false ∧ (s.toList == [103, 103]) = false := kn_rules s 1 hk
  clear q7 q8 q9 q10 q11 q12 q13 q14 q15 q16
  have HK := Hid.mk' hk
  clear hk
  have hbig : (n : Int) ≤ 140737488355328 := by have := HT.out.big; omega
  have hn0 : (0 : Int) ≤ (n : Int) := by omega
  have hlen := Hid.mk' HT.out.len
  go_enter Try.func4, Try.ntmps4
  go_wp2_with fail
  refine (awake_any _).mono ?_
  rintro e w1 ⟨rfl, hb1⟩
  have m0 : w1.cell? ⟨w.heap.size, 0, none⟩ = some (.int .i64 i) := by rw [(bcell hb1).1 _ _ (by simp)]; simp [go_sem]
  have m1 : w1.cell? ⟨w.heap.size, 1, none⟩ = some (.int .i64 want) := by rw [(bcell hb1).1 _ _ (by simp)]; simp [go_sem]
  have m2 : w1.cell? ⟨w.heap.size, 2, none⟩ = some (.int .i64 cnt) := by rw [(bcell hb1).1 _ _ (by simp)]; simp [go_sem]
  have m3 : w1.cell? ⟨w.heap.size, 3, none⟩ = some (.string s) := by rw [(bcell hb1).1 _ _ (by simp)]; simp [go_sem]
  have B1 := Hid.mk' (bT (bAlloc (Below.refl _ _) _) hb1)
  clear hb1
  go_wp2_with fail
  go_quiet (fail)
  have B2 := Hid.mk' (bT B1.out (below_drewN w1 nq))
  generalize w1.drewN nq = w2 at *
  clear m0 m1 m2 m3 B1
  have T2 := Hid.mk' (HT.out.keep B2.out)
  go_wp2_with fail
  refine (place_any i ((n : Int) + 1) _ hi1 hi2 (by omega) (by omega)).mono ?_
  rintro e w9 ⟨rfl, hw⟩
  have hq := hw.symm
  subst hq
  clear hw
  obtain ⟨p0, hp0, hp1⟩ : ∃ p0 : Nat, plc i ((n : Int) + 1) = (p0 : Int) ∧ p0 ≤ n := by
    have h1 := plc_lo (i := i) (n := (n : Int) + 1) (by omega)
    have h2 := plc_hi (i := i) (n := (n : Int) + 1) (by omega)
    exact ⟨(plc i ((n : Int) + 1)).toNat, by omega, by omega⟩
  rw [hp0]
  clear hp0
  go_wp2_with fail
  refine (rest_at8 hp1 T2).mono ?_
  rintro e w9 ⟨rfl, hw⟩
  have hq := hw.symm
  subst hq
  clear hw
  have hp : rs l p0 ≤ n := by have := rs_le (l := l) (i := p0) (by rw [hlen.out]; exact hp1); omega
  generalize rs l p0 = p at *
  clear hp1
  go_wp2_with fail
  refine (place_any cnt 40 _ hc1 hc2 (by omega) (by omega)).mono ?_
  rintro e w9 ⟨rfl, hw⟩
  have hq := hw.symm
  subst hq
  clear hw
  obtain ⟨N0, hN0, hN1⟩ : ∃ N0 : Nat, plc cnt 40 = (N0 : Int) ∧ N0 < 40 := by
    have h1 := plc_lo (i := cnt) (n := 40) (by omega)
    have h2 := plc_hi (i := cnt) (n := 40) (by omega)
    exact ⟨(plc cnt 40).toNat, by omega, by omega⟩
  rw [hN0]
  clear hN0
  have hN2 : (N0 : Int) + 1 ≤ 40 := by omega
  have hN3 : (0 : Int) ≤ (N0 : Int) := by omega
  go_wp2_with fail
  obtain ⟨want2, hw0⟩ : ∃ x, x = max want (-1) := ⟨_, rfl⟩
  rw [← hw0]
  have hw3 : -1 ≤ want2 := by omega
  have hw4 : want2 ≤ 9223372036854775807 := by omega
  clear hw0
  go_loopw [14, 15, 75] (fun a b d wr => ∃ q j : Nat, ∃ wv : Int, a = .int .i64 q ∧ b = .int .i64 wv ∧ d = .int .i64 j ∧ q ≤ n ∧ j ≤ N0 + 1 ∧ Gone l p want2 1 j q wv ∧ Below w.heap.size w wr) (fun _ _ d _ => N0 + 1 - (intOf d).toNat)
  case atStart => exact ⟨p, 0, want2, rfl, rfl, rfl, hp, by omega, .inl ⟨rfl, rfl, rfl⟩, B2.out⟩
  case round =>
    obtain ⟨q, j, wv, rfl, rfl, rfl, hq, hj, hG, hB⟩ := hrel
    have HG := Hid.mk' hG
    have HB := Hid.mk' hB
    clear hG hB B2
    have TR := Hid.mk' (HT.out.keep HB.out)
    have hv1 := HG.out.lo hw3 (by omega)
    have hv2 := HG.out.hi hw4 (by omega) (by omega)
    have hj0 : (0 : Int) ≤ (j : Int) := by omega
    by_cases hlt : j < N0 + 1
    · have hlt' : (j : Int) < (N0 : Int) + 1 := by omega
      go_wp2_with fail
      refine (move_any ao n c q wv 1 l s _ hv2 TR).mono ?_
      rintro e w3 ⟨rfl, hb3⟩
      have B3 := Hid.mk' (bT HB.out hb3)
      clear hb3
      cases hA : tgt l q wv 1 false 1 with
      | none =>
        rw [mvE_none (N := 1) (by rw [hlen.out]; exact hq) hv1 (by omega) (by omega) (by rw [HK.out]; decide) (by omega) (by rw [HK.out]; exact hA)]
        clear hA
        go_wp2
        go_quiet (fail)
        go_wp2
        go_ret
        exact ⟨rfl, bT (bAlloc B3.out _) (below_drewN _ _)⟩
      | some x2 =>
        have hx2 : x2 ≤ n := by rw [← hlen.out]; exact tgt_le (by rw [hlen.out]; exact hq) (by omega) hA
        have HS := Hid.mk' (Gone.step (by rw [hlen.out]; exact hp) (by omega) (by omega) HG.out hA)
        rw [mvE_some (N := 1) (by rw [hlen.out]; exact hq) hv1 (by omega) (by omega) (by rw [HK.out]; decide) (by omega) (by rw [HK.out]; exact hA)]
        clear hA
        rw [HK.out]
        generalize wn l wv 1 1 x2 = wv2 at HS ⊢
        generalize kd 1 = kk
        have hx2' : (x2 : Int) ≤ (n : Int) := by omega
        have hx3 : decide (n < x2) = false := decide_eq_false (by omega)
        have hx5 : ¬ (n < x2) := by omega
        have T3 := Hid.mk' (fun x (m : Nat) => Hid.mk' ((HT.out.keep (bAlloc B3.out x)).keep (below_drewN _ m)))
        go_wp2
        go_quiet (fail)
        obtain ⟨W9, hW9⟩ : ∃ W, W = (w3.alloc (.cells #[.int .i64 q, .int .i64 x2, .int .i64 kk] 29)).drewN nq := ⟨_, rfl⟩
        have c0 : W9.cell? ⟨w3.heap.size, 0, none⟩ = some (.int .i64 q) := by rw [hW9]; simp [go_sem]
        have c1 : W9.cell? ⟨w3.heap.size, 1, none⟩ = some (.int .i64 x2) := by rw [hW9]; simp [go_sem]
        have B9 : Hid (Below w.heap.size w W9) := by unfold Hid; rw [hW9]; exact bT (bAlloc B3.out _) (below_drewN _ _)
        rw [← hW9]
        clear hW9
        rename_i kk1
        refine kk1 _ _ ?_
        refine wp_cond_false rfl ?_
        go_wp2
        go_roundw
        case rel => exact ⟨x2, j + 1, wv2, rfl, rfl, by go_num, hx2, by omega, HS.out, B9.out⟩
        case measure => first | (simp [intOf]; done) | (simp [intOf]; omega)
    · obtain rfl : j = N0 + 1 := by omega
      have hlt' : ¬ ((N0 : Int) + 1 < (N0 : Int) + 1) := by omega
      obtain ⟨ht, hwv⟩ : tgt l p want2 (N0 + 1) false 1 = some q ∧ wv = wn l want2 (N0 + 1) 1 q := by
        rcases HG.out with ⟨h, _⟩ | ⟨_, h1, h2⟩
        · omega
        · exact ⟨h1, h2⟩
      have HM := Hid.mk' (mvE_some (s := s) (cnt := (N0 : Int) + 1) (N := N0 + 1) (by rw [hlen.out]; exact hp) hw3 (by omega) (by omega) (by rw [HK.out]; decide) (by omega) (by rw [HK.out, decide_eq_false (by omega)]; exact ht))
      rw [HK.out, ← hwv] at HM
      clear ht hwv
      have e1 : ((N0 + 1 : Nat) : Int) = (N0 : Int) + 1 := by omega
      rw [e1]
      clear e1
      go_wp2_with fail
      refine (move_any ao n c p want2 ((N0 : Int) + 1) l s _ hw4 TR).mono ?_
      rintro e w3 ⟨rfl, hb3⟩
      have B3 := Hid.mk' (bT HB.out hb3)
      clear hb3
      rw [HM.out]
      go_wp2
      go_ret
      exact ⟨rfl, bAlloc B3.out _⟩


set_option maxRecDepth 4000 in
set_option maxHeartbeats 4000000 in
theorem times_2 (ao : Option Addr) (n c : Nat) (i want cnt : Int) (l : List UInt8) (s : ByteArray) (w : World) (hi1 : -9223372036854775808 ≤ i) (hi2 : i ≤ 9223372036854775807) (hw2 : want ≤ 9223372036854775807) (hc1 : -9223372036854775808 ≤ cnt) (hc2 : cnt ≤ 9223372036854775807) (HT : Hid (Tx w ao n c l)) (hk : kn s = 2) :
    Calls Try.prog 4 #[.slice ao n c, .agg #[.int .i64 i, .int .i64 want, .int .i64 cnt, .string s]] w fun e w' => e = .returned (.bool true) ∧ Below w.heap.size w w' := by
  obtain ⟨q1, q2, q3, q4, q5, q6, q7, q8, q9, q10, q11, q12, q13, q14, q15, q16⟩ : (s.toList == [104]) = false ∧ (s.toList == [108]) = true ∧ (s.toList == [32]) = false ∧ (s.toList == [8]) = false ∧ (s.toList == [106]) = false ∧ (s.toList == [107]) = false ∧ (s.toList == [43]) = false ∧ (s.toList == [13]) = false ∧ (s.toList == [45]) = false ∧ (s.toList == [95]) = false ∧ (s.toList == [48]) = false ∧ (s.toList == [94]) = false ∧ (s.toList == [36]) = false ∧ (s.toList == [124]) = false ∧ (s.toList == [71]) = false ∧ (s.toList == [103, 103]) = false := kn_rules s 2 hk
  clear q7 q8 q9 q10 q11 q12 q13 q14 q15 q16
  have HK := Hid.mk' hk
  clear hk
  have hbig : (n : Int) ≤ 140737488355328 := by have := HT.out.big; omega
  have hn0 : (0 : Int) ≤ (n : Int) := by omega
  have hlen := Hid.mk' HT.out.len
  go_enter Try.func4, Try.ntmps4
  go_wp2_with fail
  refine (awake_any _).mono ?_
  rintro e w1 ⟨rfl, hb1⟩
  have m0 : w1.cell? ⟨w.heap.size, 0, none⟩ = some (.int .i64 i) := by rw [(bcell hb1).1 _ _ (by simp)]; simp [go_sem]
  have m1 : w1.cell? ⟨w.heap.size, 1, none⟩ = some (.int .i64 want) := by rw [(bcell hb1).1 _ _ (by simp)]; simp [go_sem]
  have m2 : w1.cell? ⟨w.heap.size, 2, none⟩ = some (.int .i64 cnt) := by rw [(bcell hb1).1 _ _ (by simp)]; simp [go_sem]
  have m3 : w1.cell? ⟨w.heap.size, 3, none⟩ = some (.string s) := by rw [(bcell hb1).1 _ _ (by simp)]; simp [go_sem]
  have B1 := Hid.mk' (bT (bAlloc (Below.refl _ _) _) hb1)
  clear hb1
  go_wp2_with fail
  go_quiet (fail)
  have B2 := Hid.mk' (bT B1.out (below_drewN w1 nq))
  generalize w1.drewN nq = w2 at *
  clear m0 m1 m2 m3 B1
  have T2 := Hid.mk' (HT.out.keep B2.out)
  go_wp2_with fail
  refine (place_any i ((n : Int) + 1) _ hi1 hi2 (by omega) (by omega)).mono ?_
  rintro e w9 ⟨rfl, hw⟩
  have hq := hw.symm
  subst hq
  clear hw
  obtain ⟨p0, hp0, hp1⟩ : ∃ p0 : Nat, plc i ((n : Int) + 1) = (p0 : Int) ∧ p0 ≤ n := by
    have h1 := plc_lo (i := i) (n := (n : Int) + 1) (by omega)
    have h2 := plc_hi (i := i) (n := (n : Int) + 1) (by omega)
    exact ⟨(plc i ((n : Int) + 1)).toNat, by omega, by omega⟩
  rw [hp0]
  clear hp0
  go_wp2_with fail
  refine (rest_at8 hp1 T2).mono ?_
  rintro e w9 ⟨rfl, hw⟩
  have hq := hw.symm
  subst hq
  clear hw
  have hp : rs l p0 ≤ n := by have := rs_le (l := l) (i := p0) (by rw [hlen.out]; exact hp1); omega
  generalize rs l p0 = p at *
  clear hp1
  go_wp2_with fail
  refine (place_any cnt 40 _ hc1 hc2 (by omega) (by omega)).mono ?_
  rintro e w9 ⟨rfl, hw⟩
  have hq := hw.symm
  subst hq
  clear hw
  obtain ⟨N0, hN0, hN1⟩ : ∃ N0 : Nat, plc cnt 40 = (N0 : Int) ∧ N0 < 40 := by
    have h1 := plc_lo (i := cnt) (n := 40) (by omega)
    have h2 := plc_hi (i := cnt) (n := 40) (by omega)
    exact ⟨(plc cnt 40).toNat, by omega, by omega⟩
  rw [hN0]
  clear hN0
  have hN2 : (N0 : Int) + 1 ≤ 40 := by omega
  have hN3 : (0 : Int) ≤ (N0 : Int) := by omega
  go_wp2_with fail
  obtain ⟨want2, hw0⟩ : ∃ x, x = max want (-1) := ⟨_, rfl⟩
  rw [← hw0]
  have hw3 : -1 ≤ want2 := by omega
  have hw4 : want2 ≤ 9223372036854775807 := by omega
  clear hw0
  go_loopw [14, 15, 75] (fun a b d wr => ∃ q j : Nat, ∃ wv : Int, a = .int .i64 q ∧ b = .int .i64 wv ∧ d = .int .i64 j ∧ q ≤ n ∧ j ≤ N0 + 1 ∧ Gone l p want2 2 j q wv ∧ Below w.heap.size w wr) (fun _ _ d _ => N0 + 1 - (intOf d).toNat)
  case atStart => exact ⟨p, 0, want2, rfl, rfl, rfl, hp, by omega, .inl ⟨rfl, rfl, rfl⟩, B2.out⟩
  case round =>
    obtain ⟨q, j, wv, rfl, rfl, rfl, hq, hj, hG, hB⟩ := hrel
    have HG := Hid.mk' hG
    have HB := Hid.mk' hB
    clear hG hB B2
    have TR := Hid.mk' (HT.out.keep HB.out)
    have hv1 := HG.out.lo hw3 (by omega)
    have hv2 := HG.out.hi hw4 (by omega) (by omega)
    have hj0 : (0 : Int) ≤ (j : Int) := by omega
    by_cases hlt : j < N0 + 1
    · have hlt' : (j : Int) < (N0 : Int) + 1 := by omega
      go_wp2_with fail
      refine (move_any ao n c q wv 1 l s _ hv2 TR).mono ?_
      rintro e w3 ⟨rfl, hb3⟩
      have B3 := Hid.mk' (bT HB.out hb3)
      clear hb3
      cases hA : tgt l q wv 1 false 2 with
      | none =>
        rw [mvE_none (N := 1) (by rw [hlen.out]; exact hq) hv1 (by omega) (by omega) (by rw [HK.out]; decide) (by omega) (by rw [HK.out]; exact hA)]
        clear hA
        go_wp2
        go_quiet (fail)
        go_wp2
        go_ret
        exact ⟨rfl, bT (bAlloc B3.out _) (below_drewN _ _)⟩
      | some x2 =>
        have hx2 : x2 ≤ n := by rw [← hlen.out]; exact tgt_le (by rw [hlen.out]; exact hq) (by omega) hA
        have HS := Hid.mk' (Gone.step (by rw [hlen.out]; exact hp) (by omega) (by omega) HG.out hA)
        rw [mvE_some (N := 1) (by rw [hlen.out]; exact hq) hv1 (by omega) (by omega) (by rw [HK.out]; decide) (by omega) (by rw [HK.out]; exact hA)]
        clear hA
        rw [HK.out]
        generalize wn l wv 1 2 x2 = wv2 at HS ⊢
        generalize kd 2 = kk
        have hx2' : (x2 : Int) ≤ (n : Int) := by omega
        have hx3 : decide (n < x2) = false := decide_eq_false (by omega)
        have hx5 : ¬ (n < x2) := by omega
        have T3 := Hid.mk' (fun x (m : Nat) => Hid.mk' ((HT.out.keep (bAlloc B3.out x)).keep (below_drewN _ m)))
        go_wp2
        go_quiet (fail)
        obtain ⟨W9, hW9⟩ : ∃ W, W = (w3.alloc (.cells #[.int .i64 q, .int .i64 x2, .int .i64 kk] 29)).drewN nq := ⟨_, rfl⟩
        have c0 : W9.cell? ⟨w3.heap.size, 0, none⟩ = some (.int .i64 q) := by rw [hW9]; simp [go_sem]
        have c1 : W9.cell? ⟨w3.heap.size, 1, none⟩ = some (.int .i64 x2) := by rw [hW9]; simp [go_sem]
        have B9 : Hid (Below w.heap.size w W9) := by unfold Hid; rw [hW9]; exact bT (bAlloc B3.out _) (below_drewN _ _)
        rw [← hW9]
        clear hW9
        rename_i kk1
        refine kk1 _ _ ?_
        refine wp_cond_false rfl ?_
        go_wp2
        go_roundw
        case rel => exact ⟨x2, j + 1, wv2, rfl, rfl, by go_num, hx2, by omega, HS.out, B9.out⟩
        case measure => first | (simp [intOf]; done) | (simp [intOf]; omega)
    · obtain rfl : j = N0 + 1 := by omega
      have hlt' : ¬ ((N0 : Int) + 1 < (N0 : Int) + 1) := by omega
      obtain ⟨ht, hwv⟩ : tgt l p want2 (N0 + 1) false 2 = some q ∧ wv = wn l want2 (N0 + 1) 2 q := by
        rcases HG.out with ⟨h, _⟩ | ⟨_, h1, h2⟩
        · omega
        · exact ⟨h1, h2⟩
      have HM := Hid.mk' (mvE_some (s := s) (cnt := (N0 : Int) + 1) (N := N0 + 1) (by rw [hlen.out]; exact hp) hw3 (by omega) (by omega) (by rw [HK.out]; decide) (by omega) (by rw [HK.out, decide_eq_false (by omega)]; exact ht))
      rw [HK.out, ← hwv] at HM
      clear ht hwv
      have e1 : ((N0 + 1 : Nat) : Int) = (N0 : Int) + 1 := by omega
      rw [e1]
      clear e1
      go_wp2_with fail
      refine (move_any ao n c p want2 ((N0 : Int) + 1) l s _ hw4 TR).mono ?_
      rintro e w3 ⟨rfl, hb3⟩
      have B3 := Hid.mk' (bT HB.out hb3)
      clear hb3
      rw [HM.out]
      go_wp2
      go_ret
      exact ⟨rfl, bAlloc B3.out _⟩


set_option maxRecDepth 4000 in
set_option maxHeartbeats 4000000 in
theorem times_3 (ao : Option Addr) (n c : Nat) (i want cnt : Int) (l : List UInt8) (s : ByteArray) (w : World) (hi1 : -9223372036854775808 ≤ i) (hi2 : i ≤ 9223372036854775807) (hw2 : want ≤ 9223372036854775807) (hc1 : -9223372036854775808 ≤ cnt) (hc2 : cnt ≤ 9223372036854775807) (HT : Hid (Tx w ao n c l)) (hk : kn s = 3) :
    Calls Try.prog 4 #[.slice ao n c, .agg #[.int .i64 i, .int .i64 want, .int .i64 cnt, .string s]] w fun e w' => e = .returned (.bool true) ∧ Below w.heap.size w w' := by
  obtain ⟨q1, q2, q3, q4, q5, q6, q7, q8, q9, q10, q11, q12, q13, q14, q15, q16⟩ : (s.toList == [104]) = false ∧ (s.toList == [108]) = false ∧ (s.toList == [32]) = true ∧ (s.toList == [8]) = false ∧ (s.toList == [106]) = false ∧ (s.toList == [107]) = false ∧ (s.toList == [43]) = false ∧ (s.toList == [13]) = false ∧ (s.toList == [45]) = false ∧ (s.toList == [95]) = false ∧ (s.toList == [48]) = false ∧ (s.toList == [94]) = false ∧ (s.toList == [36]) = false ∧ (s.toList == [124]) = false ∧ (s.toList == [71]) = false ∧ (s.toList == [103, 103]) = false := kn_rules s 3 hk
  clear q7 q8 q9 q10 q11 q12 q13 q14 q15 q16
  have HK := Hid.mk' hk
  clear hk
  have hbig : (n : Int) ≤ 140737488355328 := by have := HT.out.big; omega
  have hn0 : (0 : Int) ≤ (n : Int) := by omega
  have hlen := Hid.mk' HT.out.len
  go_enter Try.func4, Try.ntmps4
  go_wp2_with fail
  refine (awake_any _).mono ?_
  rintro e w1 ⟨rfl, hb1⟩
  have m0 : w1.cell? ⟨w.heap.size, 0, none⟩ = some (.int .i64 i) := by rw [(bcell hb1).1 _ _ (by simp)]; simp [go_sem]
  have m1 : w1.cell? ⟨w.heap.size, 1, none⟩ = some (.int .i64 want) := by rw [(bcell hb1).1 _ _ (by simp)]; simp [go_sem]
  have m2 : w1.cell? ⟨w.heap.size, 2, none⟩ = some (.int .i64 cnt) := by rw [(bcell hb1).1 _ _ (by simp)]; simp [go_sem]
  have m3 : w1.cell? ⟨w.heap.size, 3, none⟩ = some (.string s) := by rw [(bcell hb1).1 _ _ (by simp)]; simp [go_sem]
  have B1 := Hid.mk' (bT (bAlloc (Below.refl _ _) _) hb1)
  clear hb1
  go_wp2_with fail
  go_quiet (fail)
  have B2 := Hid.mk' (bT B1.out (below_drewN w1 nq))
  generalize w1.drewN nq = w2 at *
  clear m0 m1 m2 m3 B1
  have T2 := Hid.mk' (HT.out.keep B2.out)
  go_wp2_with fail
  refine (place_any i ((n : Int) + 1) _ hi1 hi2 (by omega) (by omega)).mono ?_
  rintro e w9 ⟨rfl, hw⟩
  have hq := hw.symm
  subst hq
  clear hw
  obtain ⟨p0, hp0, hp1⟩ : ∃ p0 : Nat, plc i ((n : Int) + 1) = (p0 : Int) ∧ p0 ≤ n := by
    have h1 := plc_lo (i := i) (n := (n : Int) + 1) (by omega)
    have h2 := plc_hi (i := i) (n := (n : Int) + 1) (by omega)
    exact ⟨(plc i ((n : Int) + 1)).toNat, by omega, by omega⟩
  rw [hp0]
  clear hp0
  go_wp2_with fail
  refine (rest_at8 hp1 T2).mono ?_
  rintro e w9 ⟨rfl, hw⟩
  have hq := hw.symm
  subst hq
  clear hw
  have hp : rs l p0 ≤ n := by have := rs_le (l := l) (i := p0) (by rw [hlen.out]; exact hp1); omega
  generalize rs l p0 = p at *
  clear hp1
  go_wp2_with fail
  refine (place_any cnt 40 _ hc1 hc2 (by omega) (by omega)).mono ?_
  rintro e w9 ⟨rfl, hw⟩
  have hq := hw.symm
  subst hq
  clear hw
  obtain ⟨N0, hN0, hN1⟩ : ∃ N0 : Nat, plc cnt 40 = (N0 : Int) ∧ N0 < 40 := by
    have h1 := plc_lo (i := cnt) (n := 40) (by omega)
    have h2 := plc_hi (i := cnt) (n := 40) (by omega)
    exact ⟨(plc cnt 40).toNat, by omega, by omega⟩
  rw [hN0]
  clear hN0
  have hN2 : (N0 : Int) + 1 ≤ 40 := by omega
  have hN3 : (0 : Int) ≤ (N0 : Int) := by omega
  go_wp2_with fail
  obtain ⟨want2, hw0⟩ : ∃ x, x = max want (-1) := ⟨_, rfl⟩
  rw [← hw0]
  have hw3 : -1 ≤ want2 := by omega
  have hw4 : want2 ≤ 9223372036854775807 := by omega
  clear hw0
  go_loopw [14, 15, 75] (fun a b d wr => ∃ q j : Nat, ∃ wv : Int, a = .int .i64 q ∧ b = .int .i64 wv ∧ d = .int .i64 j ∧ q ≤ n ∧ j ≤ N0 + 1 ∧ Gone l p want2 3 j q wv ∧ Below w.heap.size w wr) (fun _ _ d _ => N0 + 1 - (intOf d).toNat)
  case atStart => exact ⟨p, 0, want2, rfl, rfl, rfl, hp, by omega, .inl ⟨rfl, rfl, rfl⟩, B2.out⟩
  case round =>
    obtain ⟨q, j, wv, rfl, rfl, rfl, hq, hj, hG, hB⟩ := hrel
    have HG := Hid.mk' hG
    have HB := Hid.mk' hB
    clear hG hB B2
    have TR := Hid.mk' (HT.out.keep HB.out)
    have hv1 := HG.out.lo hw3 (by omega)
    have hv2 := HG.out.hi hw4 (by omega) (by omega)
    have hj0 : (0 : Int) ≤ (j : Int) := by omega
    by_cases hlt : j < N0 + 1
    · have hlt' : (j : Int) < (N0 : Int) + 1 := by omega
      go_wp2_with fail
      refine (move_any ao n c q wv 1 l s _ hv2 TR).mono ?_
      rintro e w3 ⟨rfl, hb3⟩
      have B3 := Hid.mk' (bT HB.out hb3)
      clear hb3
      cases hA : tgt l q wv 1 false 3 with
      | none =>
        rw [mvE_none (N := 1) (by rw [hlen.out]; exact hq) hv1 (by omega) (by omega) (by rw [HK.out]; decide) (by omega) (by rw [HK.out]; exact hA)]
        clear hA
        go_wp2
        go_quiet (fail)
        go_wp2
        go_ret
        exact ⟨rfl, bT (bAlloc B3.out _) (below_drewN _ _)⟩
      | some x2 =>
        have hx2 : x2 ≤ n := by rw [← hlen.out]; exact tgt_le (by rw [hlen.out]; exact hq) (by omega) hA
        have HS := Hid.mk' (Gone.step (by rw [hlen.out]; exact hp) (by omega) (by omega) HG.out hA)
        rw [mvE_some (N := 1) (by rw [hlen.out]; exact hq) hv1 (by omega) (by omega) (by rw [HK.out]; decide) (by omega) (by rw [HK.out]; exact hA)]
        clear hA
        rw [HK.out]
        generalize wn l wv 1 3 x2 = wv2 at HS ⊢
        generalize kd 3 = kk
        have hx2' : (x2 : Int) ≤ (n : Int) := by omega
        have hx3 : decide (n < x2) = false := decide_eq_false (by omega)
        have hx5 : ¬ (n < x2) := by omega
        have T3 := Hid.mk' (fun x (m : Nat) => Hid.mk' ((HT.out.keep (bAlloc B3.out x)).keep (below_drewN _ m)))
        by_cases hr : rs l x2 = x2
        · have hr' : ((rs l x2 : Int) != (x2 : Int)) = false := by rw [hr]; simp
          have hr2 : (rs l x2 != x2) = false := by rw [hr]; simp
          have HR := Hid.mk' hr
          clear hr
          go_wp2
          go_quiet ((go_at_call 12; exact Calls.quiet_of_same (rest_at8 hx2 (T3.out _ _))))
          obtain ⟨W9, hW9⟩ : ∃ W, W = (w3.alloc (.cells #[.int .i64 q, .int .i64 x2, .int .i64 kk] 29)).drewN nq := ⟨_, rfl⟩
          have c0 : W9.cell? ⟨w3.heap.size, 0, none⟩ = some (.int .i64 q) := by rw [hW9]; simp [go_sem]
          have c1 : W9.cell? ⟨w3.heap.size, 1, none⟩ = some (.int .i64 x2) := by rw [hW9]; simp [go_sem]
          have B9 : Hid (Below w.heap.size w W9) := by unfold Hid; rw [hW9]; exact bT (bAlloc B3.out _) (below_drewN _ _)
          rw [← hW9]
          clear hW9
          rename_i kk1
          refine kk1 _ _ ?_
          refine wp_cond_false rfl ?_
          go_wp2
          go_roundw
          case rel => exact ⟨x2, j + 1, wv2, rfl, rfl, by go_num, hx2, by omega, HS.out, B9.out⟩
          case measure => first | (simp [intOf]; done) | (simp [intOf]; omega)
        · have hr' : ((rs l x2 : Int) != (x2 : Int)) = true := by simp; omega
          have hr2 : (rs l x2 != x2) = true := by simpa using hr
          go_wp2
          go_quiet ((go_at_call 12; exact Calls.quiet_of_same (rest_at8 hx2 (T3.out _ _))))
          go_wp2
          go_ret
          exact ⟨rfl, bT (bAlloc B3.out _) (below_drewN _ _)⟩
    · obtain rfl : j = N0 + 1 := by omega
      have hlt' : ¬ ((N0 : Int) + 1 < (N0 : Int) + 1) := by omega
      obtain ⟨ht, hwv⟩ : tgt l p want2 (N0 + 1) false 3 = some q ∧ wv = wn l want2 (N0 + 1) 3 q := by
        rcases HG.out with ⟨h, _⟩ | ⟨_, h1, h2⟩
        · omega
        · exact ⟨h1, h2⟩
      have HM := Hid.mk' (mvE_some (s := s) (cnt := (N0 : Int) + 1) (N := N0 + 1) (by rw [hlen.out]; exact hp) hw3 (by omega) (by omega) (by rw [HK.out]; decide) (by omega) (by rw [HK.out, decide_eq_false (by omega)]; exact ht))
      rw [HK.out, ← hwv] at HM
      clear ht hwv
      have e1 : ((N0 + 1 : Nat) : Int) = (N0 : Int) + 1 := by omega
      rw [e1]
      clear e1
      go_wp2_with fail
      refine (move_any ao n c p want2 ((N0 : Int) + 1) l s _ hw4 TR).mono ?_
      rintro e w3 ⟨rfl, hb3⟩
      have B3 := Hid.mk' (bT HB.out hb3)
      clear hb3
      rw [HM.out]
      go_wp2
      go_ret
      exact ⟨rfl, bAlloc B3.out _⟩


set_option maxRecDepth 4000 in
set_option maxHeartbeats 4000000 in
theorem times_4 (ao : Option Addr) (n c : Nat) (i want cnt : Int) (l : List UInt8) (s : ByteArray) (w : World) (hi1 : -9223372036854775808 ≤ i) (hi2 : i ≤ 9223372036854775807) (hw2 : want ≤ 9223372036854775807) (hc1 : -9223372036854775808 ≤ cnt) (hc2 : cnt ≤ 9223372036854775807) (HT : Hid (Tx w ao n c l)) (hk : kn s = 4) :
    Calls Try.prog 4 #[.slice ao n c, .agg #[.int .i64 i, .int .i64 want, .int .i64 cnt, .string s]] w fun e w' => e = .returned (.bool true) ∧ Below w.heap.size w w' := by
  obtain ⟨q1, q2, q3, q4, q5, q6, q7, q8, q9, q10, q11, q12, q13, q14, q15, q16⟩ : (s.toList == [104]) = false ∧ (s.toList == [108]) = false ∧ (s.toList == [32]) = false ∧ (s.toList == [8]) = true ∧ (s.toList == [106]) = false ∧ (s.toList == [107]) = false ∧ (s.toList == [43]) = false ∧ (s.toList == [13]) = false ∧ (s.toList == [45]) = false ∧ (s.toList == [95]) = false ∧ (s.toList == [48]) = false ∧ (s.toList == [94]) = false ∧ (s.toList == [36]) = false ∧ (s.toList == [124]) = false ∧ (s.toList == [71]) = false ∧ (s.toList == [103, 103]) = false := kn_rules s 4 hk
  clear q7 q8 q9 q10 q11 q12 q13 q14 q15 q16
  have HK := Hid.mk' hk
  clear hk
  have hbig : (n : Int) ≤ 140737488355328 := by have := HT.out.big; omega
  have hn0 : (0 : Int) ≤ (n : Int) := by omega
  have hlen := Hid.mk' HT.out.len
  go_enter Try.func4, Try.ntmps4
  go_wp2_with fail
  refine (awake_any _).mono ?_
  rintro e w1 ⟨rfl, hb1⟩
  have m0 : w1.cell? ⟨w.heap.size, 0, none⟩ = some (.int .i64 i) := by rw [(bcell hb1).1 _ _ (by simp)]; simp [go_sem]
  have m1 : w1.cell? ⟨w.heap.size, 1, none⟩ = some (.int .i64 want) := by rw [(bcell hb1).1 _ _ (by simp)]; simp [go_sem]
  have m2 : w1.cell? ⟨w.heap.size, 2, none⟩ = some (.int .i64 cnt) := by rw [(bcell hb1).1 _ _ (by simp)]; simp [go_sem]
  have m3 : w1.cell? ⟨w.heap.size, 3, none⟩ = some (.string s) := by rw [(bcell hb1).1 _ _ (by simp)]; simp [go_sem]
  have B1 := Hid.mk' (bT (bAlloc (Below.refl _ _) _) hb1)
  clear hb1
  go_wp2_with fail
  go_quiet (fail)
  have B2 := Hid.mk' (bT B1.out (below_drewN w1 nq))
  generalize w1.drewN nq = w2 at *
  clear m0 m1 m2 m3 B1
  have T2 := Hid.mk' (HT.out.keep B2.out)
  go_wp2_with fail
  refine (place_any i ((n : Int) + 1) _ hi1 hi2 (by omega) (by omega)).mono ?_
  rintro e w9 ⟨rfl, hw⟩
  have hq := hw.symm
  subst hq
  clear hw
  obtain ⟨p0, hp0, hp1⟩ : ∃ p0 : Nat, plc i ((n : Int) + 1) = (p0 : Int) ∧ p0 ≤ n := by
    have h1 := plc_lo (i := i) (n := (n : Int) + 1) (by omega)
    have h2 := plc_hi (i := i) (n := (n : Int) + 1) (by omega)
    exact ⟨(plc i ((n : Int) + 1)).toNat, by omega, by omega⟩
  rw [hp0]
  clear hp0
  go_wp2_with fail
  refine (rest_at8 hp1 T2).mono ?_
  rintro e w9 ⟨rfl, hw⟩
  have hq := hw.symm
  subst hq
  clear hw
  have hp : rs l p0 ≤ n := by have := rs_le (l := l) (i := p0) (by rw [hlen.out]; exact hp1); omega
  generalize rs l p0 = p at *
  clear hp1
  go_wp2_with fail
  refine (place_any cnt 40 _ hc1 hc2 (by omega) (by omega)).mono ?_
  rintro e w9 ⟨rfl, hw⟩
  have hq := hw.symm
  subst hq
  clear hw
  obtain ⟨N0, hN0, hN1⟩ : ∃ N0 : Nat, plc cnt 40 = (N0 : Int) ∧ N0 < 40 := by
    have h1 := plc_lo (i := cnt) (n := 40) (by omega)
    have h2 := plc_hi (i := cnt) (n := 40) (by omega)
    exact ⟨(plc cnt 40).toNat, by omega, by omega⟩
  rw [hN0]
  clear hN0
  have hN2 : (N0 : Int) + 1 ≤ 40 := by omega
  have hN3 : (0 : Int) ≤ (N0 : Int) := by omega
  go_wp2_with fail
  obtain ⟨want2, hw0⟩ : ∃ x, x = max want (-1) := ⟨_, rfl⟩
  rw [← hw0]
  have hw3 : -1 ≤ want2 := by omega
  have hw4 : want2 ≤ 9223372036854775807 := by omega
  clear hw0
  go_loopw [14, 15, 75] (fun a b d wr => ∃ q j : Nat, ∃ wv : Int, a = .int .i64 q ∧ b = .int .i64 wv ∧ d = .int .i64 j ∧ q ≤ n ∧ j ≤ N0 + 1 ∧ Gone l p want2 4 j q wv ∧ Below w.heap.size w wr) (fun _ _ d _ => N0 + 1 - (intOf d).toNat)
  case atStart => exact ⟨p, 0, want2, rfl, rfl, rfl, hp, by omega, .inl ⟨rfl, rfl, rfl⟩, B2.out⟩
  case round =>
    obtain ⟨q, j, wv, rfl, rfl, rfl, hq, hj, hG, hB⟩ := hrel
    have HG := Hid.mk' hG
    have HB := Hid.mk' hB
    clear hG hB B2
    have TR := Hid.mk' (HT.out.keep HB.out)
    have hv1 := HG.out.lo hw3 (by omega)
    have hv2 := HG.out.hi hw4 (by omega) (by omega)
    have hj0 : (0 : Int) ≤ (j : Int) := by omega
    by_cases hlt : j < N0 + 1
    · have hlt' : (j : Int) < (N0 : Int) + 1 := by omega
      go_wp2_with fail
      refine (move_any ao n c q wv 1 l s _ hv2 TR).mono ?_
      rintro e w3 ⟨rfl, hb3⟩
      have B3 := Hid.mk' (bT HB.out hb3)
      clear hb3
      cases hA : tgt l q wv 1 false 4 with
      | none =>
        rw [mvE_none (N := 1) (by rw [hlen.out]; exact hq) hv1 (by omega) (by omega) (by rw [HK.out]; decide) (by omega) (by rw [HK.out]; exact hA)]
        clear hA
        go_wp2
        go_quiet (fail)
        go_wp2
        go_ret
        exact ⟨rfl, bT (bAlloc B3.out _) (below_drewN _ _)⟩
      | some x2 =>
        have hx2 : x2 ≤ n := by rw [← hlen.out]; exact tgt_le (by rw [hlen.out]; exact hq) (by omega) hA
        have HS := Hid.mk' (Gone.step (by rw [hlen.out]; exact hp) (by omega) (by omega) HG.out hA)
        rw [mvE_some (N := 1) (by rw [hlen.out]; exact hq) hv1 (by omega) (by omega) (by rw [HK.out]; decide) (by omega) (by rw [HK.out]; exact hA)]
        clear hA
        rw [HK.out]
        generalize wn l wv 1 4 x2 = wv2 at HS ⊢
        generalize kd 4 = kk
        have hx2' : (x2 : Int) ≤ (n : Int) := by omega
        have hx3 : decide (n < x2) = false := decide_eq_false (by omega)
        have hx5 : ¬ (n < x2) := by omega
        have T3 := Hid.mk' (fun x (m : Nat) => Hid.mk' ((HT.out.keep (bAlloc B3.out x)).keep (below_drewN _ m)))
        by_cases hr : rs l x2 = x2
        · have hr' : ((rs l x2 : Int) != (x2 : Int)) = false := by rw [hr]; simp
          have hr2 : (rs l x2 != x2) = false := by rw [hr]; simp
          have HR := Hid.mk' hr
          clear hr
          go_wp2
          go_quiet ((go_at_call 12; exact Calls.quiet_of_same (rest_at8 hx2 (T3.out _ _))))
          obtain ⟨W9, hW9⟩ : ∃ W, W = (w3.alloc (.cells #[.int .i64 q, .int .i64 x2, .int .i64 kk] 29)).drewN nq := ⟨_, rfl⟩
          have c0 : W9.cell? ⟨w3.heap.size, 0, none⟩ = some (.int .i64 q) := by rw [hW9]; simp [go_sem]
          have c1 : W9.cell? ⟨w3.heap.size, 1, none⟩ = some (.int .i64 x2) := by rw [hW9]; simp [go_sem]
          have B9 : Hid (Below w.heap.size w W9) := by unfold Hid; rw [hW9]; exact bT (bAlloc B3.out _) (below_drewN _ _)
          rw [← hW9]
          clear hW9
          rename_i kk1
          refine kk1 _ _ ?_
          refine wp_cond_false rfl ?_
          go_wp2
          go_roundw
          case rel => exact ⟨x2, j + 1, wv2, rfl, rfl, by go_num, hx2, by omega, HS.out, B9.out⟩
          case measure => first | (simp [intOf]; done) | (simp [intOf]; omega)
        · have hr' : ((rs l x2 : Int) != (x2 : Int)) = true := by simp; omega
          have hr2 : (rs l x2 != x2) = true := by simpa using hr
          go_wp2
          go_quiet ((go_at_call 12; exact Calls.quiet_of_same (rest_at8 hx2 (T3.out _ _))))
          go_wp2
          go_ret
          exact ⟨rfl, bT (bAlloc B3.out _) (below_drewN _ _)⟩
    · obtain rfl : j = N0 + 1 := by omega
      have hlt' : ¬ ((N0 : Int) + 1 < (N0 : Int) + 1) := by omega
      obtain ⟨ht, hwv⟩ : tgt l p want2 (N0 + 1) false 4 = some q ∧ wv = wn l want2 (N0 + 1) 4 q := by
        rcases HG.out with ⟨h, _⟩ | ⟨_, h1, h2⟩
        · omega
        · exact ⟨h1, h2⟩
      have HM := Hid.mk' (mvE_some (s := s) (cnt := (N0 : Int) + 1) (N := N0 + 1) (by rw [hlen.out]; exact hp) hw3 (by omega) (by omega) (by rw [HK.out]; decide) (by omega) (by rw [HK.out, decide_eq_false (by omega)]; exact ht))
      rw [HK.out, ← hwv] at HM
      clear ht hwv
      have e1 : ((N0 + 1 : Nat) : Int) = (N0 : Int) + 1 := by omega
      rw [e1]
      clear e1
      go_wp2_with fail
      refine (move_any ao n c p want2 ((N0 : Int) + 1) l s _ hw4 TR).mono ?_
      rintro e w3 ⟨rfl, hb3⟩
      have B3 := Hid.mk' (bT HB.out hb3)
      clear hb3
      rw [HM.out]
      go_wp2
      go_ret
      exact ⟨rfl, bAlloc B3.out _⟩


set_option maxRecDepth 4000 in
set_option maxHeartbeats 4000000 in
theorem times_5 (ao : Option Addr) (n c : Nat) (i want cnt : Int) (l : List UInt8) (s : ByteArray) (w : World) (hi1 : -9223372036854775808 ≤ i) (hi2 : i ≤ 9223372036854775807) (hw2 : want ≤ 9223372036854775807) (hc1 : -9223372036854775808 ≤ cnt) (hc2 : cnt ≤ 9223372036854775807) (HT : Hid (Tx w ao n c l)) (hk : kn s = 5) :
    Calls Try.prog 4 #[.slice ao n c, .agg #[.int .i64 i, .int .i64 want, .int .i64 cnt, .string s]] w fun e w' => e = .returned (.bool true) ∧ Below w.heap.size w w' := by
  obtain ⟨q1, q2, q3, q4, q5, q6, q7, q8, q9, q10, q11, q12, q13, q14, q15, q16⟩ : (s.toList == [104]) = false ∧ (s.toList == [108]) = false ∧ (s.toList == [32]) = false ∧ (s.toList == [8]) = false ∧ (s.toList == [106]) = true ∧ (s.toList == [107]) = false ∧ (s.toList == [43]) = false ∧ (s.toList == [13]) = false ∧ (s.toList == [45]) = false ∧ (s.toList == [95]) = false ∧ (s.toList == [48]) = false ∧ (s.toList == [94]) = false ∧ (s.toList == [36]) = false ∧ (s.toList == [124]) = false ∧ (s.toList == [71]) = false ∧ (s.toList == [103, 103]) = false := kn_rules s 5 hk
  clear q7 q8 q9 q10 q11 q12 q13 q14 q15 q16
  have HK := Hid.mk' hk
  clear hk
  have hbig : (n : Int) ≤ 140737488355328 := by have := HT.out.big; omega
  have hn0 : (0 : Int) ≤ (n : Int) := by omega
  have hlen := Hid.mk' HT.out.len
  go_enter Try.func4, Try.ntmps4
  go_wp2_with fail
  refine (awake_any _).mono ?_
  rintro e w1 ⟨rfl, hb1⟩
  have m0 : w1.cell? ⟨w.heap.size, 0, none⟩ = some (.int .i64 i) := by rw [(bcell hb1).1 _ _ (by simp)]; simp [go_sem]
  have m1 : w1.cell? ⟨w.heap.size, 1, none⟩ = some (.int .i64 want) := by rw [(bcell hb1).1 _ _ (by simp)]; simp [go_sem]
  have m2 : w1.cell? ⟨w.heap.size, 2, none⟩ = some (.int .i64 cnt) := by rw [(bcell hb1).1 _ _ (by simp)]; simp [go_sem]
  have m3 : w1.cell? ⟨w.heap.size, 3, none⟩ = some (.string s) := by rw [(bcell hb1).1 _ _ (by simp)]; simp [go_sem]
  have B1 := Hid.mk' (bT (bAlloc (Below.refl _ _) _) hb1)
  clear hb1
  go_wp2_with fail
  go_quiet (fail)
  have B2 := Hid.mk' (bT B1.out (below_drewN w1 nq))
  generalize w1.drewN nq = w2 at *
  clear m0 m1 m2 m3 B1
  have T2 := Hid.mk' (HT.out.keep B2.out)
  go_wp2_with fail
  refine (place_any i ((n : Int) + 1) _ hi1 hi2 (by omega) (by omega)).mono ?_
  rintro e w9 ⟨rfl, hw⟩
  have hq := hw.symm
  subst hq
  clear hw
  obtain ⟨p0, hp0, hp1⟩ : ∃ p0 : Nat, plc i ((n : Int) + 1) = (p0 : Int) ∧ p0 ≤ n := by
    have h1 := plc_lo (i := i) (n := (n : Int) + 1) (by omega)
    have h2 := plc_hi (i := i) (n := (n : Int) + 1) (by omega)
    exact ⟨(plc i ((n : Int) + 1)).toNat, by omega, by omega⟩
  rw [hp0]
  clear hp0
  go_wp2_with fail
  refine (rest_at8 hp1 T2).mono ?_
  rintro e w9 ⟨rfl, hw⟩
  have hq := hw.symm
  subst hq
  clear hw
  have hp : rs l p0 ≤ n := by have := rs_le (l := l) (i := p0) (by rw [hlen.out]; exact hp1); omega
  generalize rs l p0 = p at *
  clear hp1
  go_wp2_with fail
  refine (place_any cnt 40 _ hc1 hc2 (by omega) (by omega)).mono ?_
  rintro e w9 ⟨rfl, hw⟩
  have hq := hw.symm
  subst hq
  clear hw
  obtain ⟨N0, hN0, hN1⟩ : ∃ N0 : Nat, plc cnt 40 = (N0 : Int) ∧ N0 < 40 := by
    have h1 := plc_lo (i := cnt) (n := 40) (by omega)
    have h2 := plc_hi (i := cnt) (n := 40) (by omega)
    exact ⟨(plc cnt 40).toNat, by omega, by omega⟩
  rw [hN0]
  clear hN0
  have hN2 : (N0 : Int) + 1 ≤ 40 := by omega
  have hN3 : (0 : Int) ≤ (N0 : Int) := by omega
  go_wp2_with fail
  obtain ⟨want2, hw0⟩ : ∃ x, x = max want (-1) := ⟨_, rfl⟩
  rw [← hw0]
  have hw3 : -1 ≤ want2 := by omega
  have hw4 : want2 ≤ 9223372036854775807 := by omega
  clear hw0
  go_loopw [14, 15, 75] (fun a b d wr => ∃ q j : Nat, ∃ wv : Int, a = .int .i64 q ∧ b = .int .i64 wv ∧ d = .int .i64 j ∧ q ≤ n ∧ j ≤ N0 + 1 ∧ Gone l p want2 5 j q wv ∧ Below w.heap.size w wr) (fun _ _ d _ => N0 + 1 - (intOf d).toNat)
  case atStart => exact ⟨p, 0, want2, rfl, rfl, rfl, hp, by omega, .inl ⟨rfl, rfl, rfl⟩, B2.out⟩
  case round =>
    obtain ⟨q, j, wv, rfl, rfl, rfl, hq, hj, hG, hB⟩ := hrel
    have HG := Hid.mk' hG
    have HB := Hid.mk' hB
    clear hG hB B2
    have TR := Hid.mk' (HT.out.keep HB.out)
    have hv1 := HG.out.lo hw3 (by omega)
    have hv2 := HG.out.hi hw4 (by omega) (by omega)
    have hj0 : (0 : Int) ≤ (j : Int) := by omega
    by_cases hlt : j < N0 + 1
    · have hlt' : (j : Int) < (N0 : Int) + 1 := by omega
      go_wp2_with fail
      refine (move_any ao n c q wv 1 l s _ hv2 TR).mono ?_
      rintro e w3 ⟨rfl, hb3⟩
      have B3 := Hid.mk' (bT HB.out hb3)
      clear hb3
      cases hA : tgt l q wv 1 false 5 with
      | none =>
        rw [mvE_none (N := 1) (by rw [hlen.out]; exact hq) hv1 (by omega) (by omega) (by rw [HK.out]; decide) (by omega) (by rw [HK.out]; exact hA)]
        clear hA
        go_wp2
        go_quiet (fail)
        go_wp2
        go_ret
        exact ⟨rfl, bT (bAlloc B3.out _) (below_drewN _ _)⟩
      | some x2 =>
        have hx2 : x2 ≤ n := by rw [← hlen.out]; exact tgt_le (by rw [hlen.out]; exact hq) (by omega) hA
        have HS := Hid.mk' (Gone.step (by rw [hlen.out]; exact hp) (by omega) (by omega) HG.out hA)
        rw [mvE_some (N := 1) (by rw [hlen.out]; exact hq) hv1 (by omega) (by omega) (by rw [HK.out]; decide) (by omega) (by rw [HK.out]; exact hA)]
        clear hA
        rw [HK.out]
        generalize wn l wv 1 5 x2 = wv2 at HS ⊢
        generalize kd 5 = kk
        have hx2' : (x2 : Int) ≤ (n : Int) := by omega
        have hx3 : decide (n < x2) = false := decide_eq_false (by omega)
        have hx5 : ¬ (n < x2) := by omega
        have T3 := Hid.mk' (fun x (m : Nat) => Hid.mk' ((HT.out.keep (bAlloc B3.out x)).keep (below_drewN _ m)))
        go_wp2
        go_quiet (fail)
        obtain ⟨W9, hW9⟩ : ∃ W, W = (w3.alloc (.cells #[.int .i64 q, .int .i64 x2, .int .i64 kk] 29)).drewN nq := ⟨_, rfl⟩
        have c0 : W9.cell? ⟨w3.heap.size, 0, none⟩ = some (.int .i64 q) := by rw [hW9]; simp [go_sem]
        have c1 : W9.cell? ⟨w3.heap.size, 1, none⟩ = some (.int .i64 x2) := by rw [hW9]; simp [go_sem]
        have B9 : Hid (Below w.heap.size w W9) := by unfold Hid; rw [hW9]; exact bT (bAlloc B3.out _) (below_drewN _ _)
        rw [← hW9]
        clear hW9
        rename_i kk1
        refine kk1 _ _ ?_
        refine wp_cond_false rfl ?_
        go_wp2
        go_roundw
        case rel => exact ⟨x2, j + 1, wv2, rfl, rfl, by go_num, hx2, by omega, HS.out, B9.out⟩
        case measure => first | (simp [intOf]; done) | (simp [intOf]; omega)
    · obtain rfl : j = N0 + 1 := by omega
      have hlt' : ¬ ((N0 : Int) + 1 < (N0 : Int) + 1) := by omega
      obtain ⟨ht, hwv⟩ : tgt l p want2 (N0 + 1) false 5 = some q ∧ wv = wn l want2 (N0 + 1) 5 q := by
        rcases HG.out with ⟨h, _⟩ | ⟨_, h1, h2⟩
        · omega
        · exact ⟨h1, h2⟩
      have HM := Hid.mk' (mvE_some (s := s) (cnt := (N0 : Int) + 1) (N := N0 + 1) (by rw [hlen.out]; exact hp) hw3 (by omega) (by omega) (by rw [HK.out]; decide) (by omega) (by rw [HK.out, decide_eq_false (by omega)]; exact ht))
      rw [HK.out, ← hwv] at HM
      clear ht hwv
      have e1 : ((N0 + 1 : Nat) : Int) = (N0 : Int) + 1 := by omega
      rw [e1]
      clear e1
      go_wp2_with fail
      refine (move_any ao n c p want2 ((N0 : Int) + 1) l s _ hw4 TR).mono ?_
      rintro e w3 ⟨rfl, hb3⟩
      have B3 := Hid.mk' (bT HB.out hb3)
      clear hb3
      rw [HM.out]
      go_wp2
      go_ret
      exact ⟨rfl, bAlloc B3.out _⟩


set_option maxRecDepth 4000 in
set_option maxHeartbeats 4000000 in
theorem times_6 (ao : Option Addr) (n c : Nat) (i want cnt : Int) (l : List UInt8) (s : ByteArray) (w : World) (hi1 : -9223372036854775808 ≤ i) (hi2 : i ≤ 9223372036854775807) (hw2 : want ≤ 9223372036854775807) (hc1 : -9223372036854775808 ≤ cnt) (hc2 : cnt ≤ 9223372036854775807) (HT : Hid (Tx w ao n c l)) (hk : kn s = 6) :
    Calls Try.prog 4 #[.slice ao n c, .agg #[.int .i64 i, .int .i64 want, .int .i64 cnt, .string s]] w fun e w' => e = .returned (.bool true) ∧ Below w.heap.size w w' := by
  obtain ⟨q1, q2, q3, q4, q5, q6, q7, q8, q9, q10, q11, q12, q13, q14, q15, q16⟩ : (s.toList == [104]) = false ∧ (s.toList == [108]) = false ∧ (s.toList == [32]) = false ∧ (s.toList == [8]) = false ∧ (s.toList == [106]) = false ∧ (s.toList == [107]) = true ∧ (s.toList == [43]) = false ∧ (s.toList == [13]) = false ∧ (s.toList == [45]) = false ∧ (s.toList == [95]) = false ∧ (s.toList == [48]) = false ∧ (s.toList == [94]) = false ∧ (s.toList == [36]) = false ∧ (s.toList == [124]) = false ∧ (s.toList == [71]) = false ∧ (s.toList == [103, 103]) = false := kn_rules s 6 hk
  clear q7 q8 q9 q10 q11 q12 q13 q14 q15 q16
  have HK := Hid.mk' hk
  clear hk
  have hbig : (n : Int) ≤ 140737488355328 := by have := HT.out.big; omega
  have hn0 : (0 : Int) ≤ (n : Int) := by omega
  have hlen := Hid.mk' HT.out.len
  go_enter Try.func4, Try.ntmps4
  go_wp2_with fail
  refine (awake_any _).mono ?_
  rintro e w1 ⟨rfl, hb1⟩
  have m0 : w1.cell? ⟨w.heap.size, 0, none⟩ = some (.int .i64 i) := by rw [(bcell hb1).1 _ _ (by simp)]; simp [go_sem]
  have m1 : w1.cell? ⟨w.heap.size, 1, none⟩ = some (.int .i64 want) := by rw [(bcell hb1).1 _ _ (by simp)]; simp [go_sem]
  have m2 : w1.cell? ⟨w.heap.size, 2, none⟩ = some (.int .i64 cnt) := by rw [(bcell hb1).1 _ _ (by simp)]; simp [go_sem]
  have m3 : w1.cell? ⟨w.heap.size, 3, none⟩ = some (.string s) := by rw [(bcell hb1).1 _ _ (by simp)]; simp [go_sem]
  have B1 := Hid.mk' (bT (bAlloc (Below.refl _ _) _) hb1)
  clear hb1
  go_wp2_with fail
  go_quiet (fail)
  have B2 := Hid.mk' (bT B1.out (below_drewN w1 nq))
  generalize w1.drewN nq = w2 at *
  clear m0 m1 m2 m3 B1
  have T2 := Hid.mk' (HT.out.keep B2.out)
  go_wp2_with fail
  refine (place_any i ((n : Int) + 1) _ hi1 hi2 (by omega) (by omega)).mono ?_
  rintro e w9 ⟨rfl, hw⟩
  have hq := hw.symm
  subst hq
  clear hw
  obtain ⟨p0, hp0, hp1⟩ : ∃ p0 : Nat, plc i ((n : Int) + 1) = (p0 : Int) ∧ p0 ≤ n := by
    have h1 := plc_lo (i := i) (n := (n : Int) + 1) (by omega)
    have h2 := plc_hi (i := i) (n := (n : Int) + 1) (by omega)
    exact ⟨(plc i ((n : Int) + 1)).toNat, by omega, by omega⟩
  rw [hp0]
  clear hp0
  go_wp2_with fail
  refine (rest_at8 hp1 T2).mono ?_
  rintro e w9 ⟨rfl, hw⟩
  have hq := hw.symm
  subst hq
  clear hw
  have hp : rs l p0 ≤ n := by have := rs_le (l := l) (i := p0) (by rw [hlen.out]; exact hp1); omega
  generalize rs l p0 = p at *
  clear hp1
  go_wp2_with fail
  refine (place_any cnt 40 _ hc1 hc2 (by omega) (by omega)).mono ?_
  rintro e w9 ⟨rfl, hw⟩
  have hq := hw.symm
  subst hq
  clear hw
  obtain ⟨N0, hN0, hN1⟩ : ∃ N0 : Nat, plc cnt 40 = (N0 : Int) ∧ N0 < 40 := by
    have h1 := plc_lo (i := cnt) (n := 40) (by omega)
    have h2 := plc_hi (i := cnt) (n := 40) (by omega)
    exact ⟨(plc cnt 40).toNat, by omega, by omega⟩
  rw [hN0]
  clear hN0
  have hN2 : (N0 : Int) + 1 ≤ 40 := by omega
  have hN3 : (0 : Int) ≤ (N0 : Int) := by omega
  go_wp2_with fail
  obtain ⟨want2, hw0⟩ : ∃ x, x = max want (-1) := ⟨_, rfl⟩
  rw [← hw0]
  have hw3 : -1 ≤ want2 := by omega
  have hw4 : want2 ≤ 9223372036854775807 := by omega
  clear hw0
  go_loopw [14, 15, 75] (fun a b d wr => ∃ q j : Nat, ∃ wv : Int, a = .int .i64 q ∧ b = .int .i64 wv ∧ d = .int .i64 j ∧ q ≤ n ∧ j ≤ N0 + 1 ∧ Gone l p want2 6 j q wv ∧ Below w.heap.size w wr) (fun _ _ d _ => N0 + 1 - (intOf d).toNat)
  case atStart => exact ⟨p, 0, want2, rfl, rfl, rfl, hp, by omega, .inl ⟨rfl, rfl, rfl⟩, B2.out⟩
  case round =>
    obtain ⟨q, j, wv, rfl, rfl, rfl, hq, hj, hG, hB⟩ := hrel
    have HG := Hid.mk' hG
    have HB := Hid.mk' hB
    clear hG hB B2
    have TR := Hid.mk' (HT.out.keep HB.out)
    have hv1 := HG.out.lo hw3 (by omega)
    have hv2 := HG.out.hi hw4 (by omega) (by omega)
    have hj0 : (0 : Int) ≤ (j : Int) := by omega
    by_cases hlt : j < N0 + 1
    · have hlt' : (j : Int) < (N0 : Int) + 1 := by omega
      go_wp2_with fail
      refine (move_any ao n c q wv 1 l s _ hv2 TR).mono ?_
      rintro e w3 ⟨rfl, hb3⟩
      have B3 := Hid.mk' (bT HB.out hb3)
      clear hb3
      cases hA : tgt l q wv 1 false 6 with
      | none =>
        rw [mvE_none (N := 1) (by rw [hlen.out]; exact hq) hv1 (by omega) (by omega) (by rw [HK.out]; decide) (by omega) (by rw [HK.out]; exact hA)]
        clear hA
        go_wp2
        go_quiet (fail)
        go_wp2
        go_ret
        exact ⟨rfl, bT (bAlloc B3.out _) (below_drewN _ _)⟩
      | some x2 =>
        have hx2 : x2 ≤ n := by rw [← hlen.out]; exact tgt_le (by rw [hlen.out]; exact hq) (by omega) hA
        have HS := Hid.mk' (Gone.step (by rw [hlen.out]; exact hp) (by omega) (by omega) HG.out hA)
        rw [mvE_some (N := 1) (by rw [hlen.out]; exact hq) hv1 (by omega) (by omega) (by rw [HK.out]; decide) (by omega) (by rw [HK.out]; exact hA)]
        clear hA
        rw [HK.out]
        generalize wn l wv 1 6 x2 = wv2 at HS ⊢
        generalize kd 6 = kk
        have hx2' : (x2 : Int) ≤ (n : Int) := by omega
        have hx3 : decide (n < x2) = false := decide_eq_false (by omega)
        have hx5 : ¬ (n < x2) := by omega
        have T3 := Hid.mk' (fun x (m : Nat) => Hid.mk' ((HT.out.keep (bAlloc B3.out x)).keep (below_drewN _ m)))
        go_wp2
        go_quiet (fail)
        obtain ⟨W9, hW9⟩ : ∃ W, W = (w3.alloc (.cells #[.int .i64 q, .int .i64 x2, .int .i64 kk] 29)).drewN nq := ⟨_, rfl⟩
        have c0 : W9.cell? ⟨w3.heap.size, 0, none⟩ = some (.int .i64 q) := by rw [hW9]; simp [go_sem]
        have c1 : W9.cell? ⟨w3.heap.size, 1, none⟩ = some (.int .i64 x2) := by rw [hW9]; simp [go_sem]
        have B9 : Hid (Below w.heap.size w W9) := by unfold Hid; rw [hW9]; exact bT (bAlloc B3.out _) (below_drewN _ _)
        rw [← hW9]
        clear hW9
        rename_i kk1
        refine kk1 _ _ ?_
        refine wp_cond_false rfl ?_
        go_wp2
        go_roundw
        case rel => exact ⟨x2, j + 1, wv2, rfl, rfl, by go_num, hx2, by omega, HS.out, B9.out⟩
        case measure => first | (simp [intOf]; done) | (simp [intOf]; omega)
    · obtain rfl : j = N0 + 1 := by omega
      have hlt' : ¬ ((N0 : Int) + 1 < (N0 : Int) + 1) := by omega
      obtain ⟨ht, hwv⟩ : tgt l p want2 (N0 + 1) false 6 = some q ∧ wv = wn l want2 (N0 + 1) 6 q := by
        rcases HG.out with ⟨h, _⟩ | ⟨_, h1, h2⟩
        · omega
        · exact ⟨h1, h2⟩
      have HM := Hid.mk' (mvE_some (s := s) (cnt := (N0 : Int) + 1) (N := N0 + 1) (by rw [hlen.out]; exact hp) hw3 (by omega) (by omega) (by rw [HK.out]; decide) (by omega) (by rw [HK.out, decide_eq_false (by omega)]; exact ht))
      rw [HK.out, ← hwv] at HM
      clear ht hwv
      have e1 : ((N0 + 1 : Nat) : Int) = (N0 : Int) + 1 := by omega
      rw [e1]
      clear e1
      go_wp2_with fail
      refine (move_any ao n c p want2 ((N0 : Int) + 1) l s _ hw4 TR).mono ?_
      rintro e w3 ⟨rfl, hb3⟩
      have B3 := Hid.mk' (bT HB.out hb3)
      clear hb3
      rw [HM.out]
      go_wp2
      go_ret
      exact ⟨rfl, bAlloc B3.out _⟩

theorem stepTimes_walk (ao : Option Addr) (n c : Nat) (i want cnt : Int) (l : List UInt8) (s : ByteArray) (w : World) (hi1 : -9223372036854775808 ≤ i) (hi2 : i ≤ 9223372036854775807) (hw2 : want ≤ 9223372036854775807) (hc1 : -9223372036854775808 ≤ cnt) (hc2 : cnt ≤ 9223372036854775807) (HT : Hid (Tx w ao n c l)) :
    Calls Try.prog 4 #[.slice ao n c, .agg #[.int .i64 i, .int .i64 want, .int .i64 cnt, .string s]] w fun e w' => e = .returned (.bool true) ∧ Below w.heap.size w w' := by
  by_cases h : 1 ≤ kn s ∧ kn s ≤ 6
  · have : kn s = 1 ∨ kn s = 2 ∨ kn s = 3 ∨ kn s = 4 ∨ kn s = 5 ∨ kn s = 6 := by omega
    rcases this with h | h | h | h | h | h
    · exact times_1 ao n c i want cnt l s w hi1 hi2 hw2 hc1 hc2 HT h
    · exact times_2 ao n c i want cnt l s w hi1 hi2 hw2 hc1 hc2 HT h
    · exact times_3 ao n c i want cnt l s w hi1 hi2 hw2 hc1 hc2 HT h
    · exact times_4 ao n c i want cnt l s w hi1 hi2 hw2 hc1 hc2 HT h
    · exact times_5 ao n c i want cnt l s w hi1 hi2 hw2 hc1 hc2 HT h
    · exact times_6 ao n c i want cnt l s w hi1 hi2 hw2 hc1 hc2 HT h
  · obtain ⟨q1, q2, q3, q4, q5, q6, q7, q8, q9, q10, q11, q12, q13, q14, q15, q16⟩ := kn_rules s (kn s) rfl
    exact times_other ao n c i want cnt l s w hi1 hi2 hw2 hc1 hc2 HT (by rw [q1]; simp; omega) (by rw [q2]; simp; omega) (by rw [q3]; simp; omega) (by rw [q4]; simp; omega) (by rw [q5]; simp; omega) (by rw [q6]; simp; omega)
end Go.Proofs.Ytbkhbnmihnomaaa
