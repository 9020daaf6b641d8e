/- quoinlaw07.StepPlaces, key by key. -/
import Derived.Test.YtbkhbnmihnomaaaRowsW
namespace Go.Proofs.Ytbkhbnmihnomaaa
open Go.RowKit

set_option maxRecDepth 4000 in
set_option maxHeartbeats 4000000 in
theorem places_9y (ao : Option Addr) (n c p N : Nat) (want cnt : Int) (l : List UInt8) (s : ByteArray) (w : World) (hw2 : want ≤ 9223372036854775807) (HT : Hid (Tx w ao n c l)) (hp : p ≤ n) (hw1 : -1 ≤ want) (hc0 : 0 ≤ cnt) (hc9 : cnt ≤ 9999) (hN : max cnt 1 = (N : Int)) (hk : kn s = 9) (q : Nat) (ht : tgt l p want N (decide (cnt = 0)) 9 = some q) :
    Calls Try.prog 5 #[.slice ao n c, .agg #[.int .i64 p, .int .i64 want, .int .i64 cnt, .string s]] w fun e w' => e = .returned (.bool true) ∧ Below w.heap.size w w' := by
  have hlen := Hid.mk' HT.out.len
  have HM := Hid.mk' (mvE_some (l := l) (p := p) (N := N) (want := want) (cnt := cnt) (s := s) (by rw [HT.out.len]; exact hp) hw1 hc0 hc9 (by rw [hk]; decide) hN (by rw [hk]; exact ht))
  rw [hk, show kd 9 = 3 from rfl, show wn l want N 9 q = ((q - bg l q : Nat) : Int) from rfl] at HM
  have hq : q ≤ n := by rw [← HT.out.len]; exact tgt_le (by rw [HT.out.len]; exact hp) (by omega) ht
  have HTG := Hid.mk' ht
  obtain ⟨q1, q2, q3, q4, q5, q6, q7, q8, q9, q10, q11, q12, q13, q14, q15, q16⟩ : (s.toList == [104]) = false ∧ (s.toList == [108]) = false ∧ (s.toList == [32]) = false ∧ (s.toList == [8]) = false ∧ (s.toList == [106]) = false ∧ (s.toList == [107]) = false ∧ (s.toList == [43]) = false ∧ (s.toList == [13]) = false ∧ (s.toList == [45]) = true ∧ (s.toList == [95]) = false ∧ (s.toList == [48]) = false ∧ (s.toList == [94]) = false ∧ (s.toList == [36]) = false ∧ (s.toList == [124]) = false ∧ (s.toList == [71]) = false ∧ (s.toList == [103, 103]) = false := kn_rules s 9 hk
  clear hk ht
  have hp0 : (0 : Int) ≤ (p : Int) := by omega
  have hpn : (p : Int) ≤ (n : Int) := by omega
  have hbig : (n : Int) ≤ 140737488355328 := by have := HT.out.big; omega
  have hn0 : (0 : Int) ≤ (n : Int) := by omega
  go_enter Try.func5, Try.ntmps5
  go_wp2_with fail
  refine (awake_any _).mono ?_
  rintro e w1 ⟨rfl, hb1⟩
  have m0 : w1.cell? ⟨w.heap.size, 0, none⟩ = some (.int .i64 p) := by rw [(bcell hb1).1 _ _ (by simp)]; simp [go_sem]
  have m1 : w1.cell? ⟨w.heap.size, 1, none⟩ = some (.int .i64 want) := by rw [(bcell hb1).1 _ _ (by simp)]; simp [go_sem]
  have m2 : w1.cell? ⟨w.heap.size, 2, none⟩ = some (.int .i64 cnt) := by rw [(bcell hb1).1 _ _ (by simp)]; simp [go_sem]
  have m3 : w1.cell? ⟨w.heap.size, 3, none⟩ = some (.string s) := by rw [(bcell hb1).1 _ _ (by simp)]; simp [go_sem]
  have hz1 : w.heap.size < w1.heap.size := by have := hb1.size; simp at this; omega
  have B1 := Hid.mk' (bT (bAlloc (Below.refl _ _) _) hb1)
  clear hb1
  go_wp2_with fail
  refine (move_any ao n c p want cnt l s _ hw2 (Hid.mk' (HT.out.keep B1.out))).mono ?_
  rintro e w2 ⟨rfl, hb2⟩
  rw [HM.out]
  have hz2 : w.heap.size < w2.heap.size := by have := hb2.size; omega
  have n0 : w2.cell? ⟨w.heap.size, 0, none⟩ = some (.int .i64 p) := by rw [(bcell hb2).1 _ _ hz1]; exact m0
  have n1 : w2.cell? ⟨w.heap.size, 1, none⟩ = some (.int .i64 want) := by rw [(bcell hb2).1 _ _ hz1]; exact m1
  have n2 : w2.cell? ⟨w.heap.size, 2, none⟩ = some (.int .i64 cnt) := by rw [(bcell hb2).1 _ _ hz1]; exact m2
  have n3 : w2.cell? ⟨w.heap.size, 3, none⟩ = some (.string s) := by rw [(bcell hb2).1 _ _ hz1]; exact m3
  have B2 := Hid.mk' (bT B1.out hb2)
  clear hb2 m0 m1 m2 m3 B1
  go_wp2_with fail
  refine (of_is hp (Hid.mk' (HT.out.keep (bAlloc B2.out _)))).mono ?_
  rintro e w3 ⟨rfl, hb3⟩
  have hz3 : w2.heap.size < w3.heap.size := by have := hb3.size; simp at this; omega
  have hz4 : w.heap.size < w3.heap.size := by omega
  have m0 : w3.cell? ⟨w.heap.size, 0, none⟩ = some (.int .i64 p) := by rw [(bcell hb3).1 _ _ (by simp; omega)]; simp [go_sem, hz2, n0]
  have m1 : w3.cell? ⟨w.heap.size, 1, none⟩ = some (.int .i64 want) := by rw [(bcell hb3).1 _ _ (by simp; omega)]; simp [go_sem, hz2, n1]
  have m2 : w3.cell? ⟨w.heap.size, 2, none⟩ = some (.int .i64 cnt) := by rw [(bcell hb3).1 _ _ (by simp; omega)]; simp [go_sem, hz2, n2]
  have m3 : w3.cell? ⟨w.heap.size, 3, none⟩ = some (.string s) := by rw [(bcell hb3).1 _ _ (by simp; omega)]; simp [go_sem, hz2, n3]
  have g0 : w3.cell? ⟨w2.heap.size, 0, none⟩ = some (.int .i64 p) := by rw [(bcell hb3).1 _ _ (by simp)]; simp [go_sem]
  have g1 : w3.cell? ⟨w2.heap.size, 1, none⟩ = some (.int .i64 q) := by rw [(bcell hb3).1 _ _ (by simp)]; simp [go_sem]
  have g2 : w3.cell? ⟨w2.heap.size, 2, none⟩ = some (.int .i64 3) := by rw [(bcell hb3).1 _ _ (by simp)]; simp [go_sem]
  have B3 := Hid.mk' (bT (bAlloc B2.out _) hb3)
  have T3 := Hid.mk' (HT.out.keep B3.out)
  clear hb3 n0 n1 n2 n3 B2
  go_wp2_with fail
  go_region_held3 (fun w' => w'.cell? ⟨w.heap.size, 2, none⟩ = some (.int .i64 cnt)) (first | assumption | simp [*, go_sem]) (first | (go_at_call 15; refine (count_any ao n c l _ (by first | exact T3 | exact Hid.mk' (T3.out.keep (Below.refl _ _).drew))).mono ?_; rintro e w4 ⟨rfl, hb4⟩; have c4 : w4.cell? ⟨w.heap.size, 2, none⟩ = some (.int .i64 cnt) := (by rw [hb4.cell (by first | exact hz4 | simpa using hz4)]; first | exact m2 | simpa using m2)) | fail)
  all_goals
    have k0 : w4.cell? ⟨w.heap.size, 0, none⟩ = some (.int .i64 p) := by rw [(bcell hb4).1 _ _ (by simpa using hz4)]; simpa using m0
    have k1 : w4.cell? ⟨w.heap.size, 1, none⟩ = some (.int .i64 want) := by rw [(bcell hb4).1 _ _ (by simpa using hz4)]; simpa using m1
    have k3 : w4.cell? ⟨w.heap.size, 3, none⟩ = some (.string s) := by rw [(bcell hb4).1 _ _ (by simpa using hz4)]; simpa using m3
    have f0 : w4.cell? ⟨w2.heap.size, 0, none⟩ = some (.int .i64 p) := by rw [(bcell hb4).1 _ _ (by simpa using hz3)]; simpa using g0
    have f1 : w4.cell? ⟨w2.heap.size, 1, none⟩ = some (.int .i64 q) := by rw [(bcell hb4).1 _ _ (by simpa using hz3)]; simpa using g1
    have f2 : w4.cell? ⟨w2.heap.size, 2, none⟩ = some (.int .i64 3) := by rw [(bcell hb4).1 _ _ (by simpa using hz3)]; simpa using g2
    have B4 := Hid.mk' (bT B3.out.drew hb4)
    have T4 := Hid.mk' (HT.out.keep B4.out)
    clear hb4 m0 m1 m2 m3 g0 g1 g2 B3 T3
    have hnl : (nl l : Int) ≤ (n : Int) := by have := nl_le l; have := hlen.out; omega
    have hnl0 : (0 : Int) ≤ (nl l : Int) := by omega
    have hL1 : (nl (l.take p) : Int) ≤ (nl l : Int) := by have := nl_take_le l p; omega
    have hL0 : (0 : Int) ≤ (nl (l.take p) : Int) := by omega
    have hN1 : (1 : Int) ≤ (N : Int) := by omega
    have hN9 : (N : Int) ≤ 9999 := by omega
    have hq0 : (0 : Int) ≤ (q : Int) := by omega
    have hq1 : (q : Int) ≤ (n : Int) := by omega
    have HTH : Hid (lnFirst l ((nl (l.take p) : Int) - (N : Int)) = some q) := HTG.out
    obtain ⟨a1, a2, a3⟩ := lnFirst_some HTH.out
    obtain ⟨-, hon, -, hrs⟩ := in_line (by omega) a3
    clear a3
    have hr1 : ((rs l q : Int) != (q : Int)) = false := by rw [hrs]; simp
    have hr2 : (rs l q != q) = false := by rw [hrs]; simp
    clear hrs
    have ho1 : ((nl (l.take q) : Int) != (nl (l.take p) : Int) - (N : Int)) = false := by rw [hon]; simp only [bne_eq_false_iff_eq]; omega
    have HON : Hid (((nl (l.take q) : Nat) : Int) = (nl (l.take p) : Int) - (N : Int)) := (by unfold Hid; rw [hon]; omega)
    clear hon
    go_wp2_with fail
    refine (of_is hq T4).mono ?_
    rintro e w5 ⟨rfl, hb5⟩
    rw [HON.out]
    have k0 : w5.cell? ⟨w.heap.size, 0, none⟩ = some (.int .i64 p) := by rw [(bcell hb5).1 _ _ (lt_of_cell k0)]; exact k0
    have k1 : w5.cell? ⟨w.heap.size, 1, none⟩ = some (.int .i64 want) := by rw [(bcell hb5).1 _ _ (lt_of_cell k1)]; exact k1
    have k3 : w5.cell? ⟨w.heap.size, 3, none⟩ = some (.string s) := by rw [(bcell hb5).1 _ _ (lt_of_cell k3)]; exact k3
    have f0 : w5.cell? ⟨w2.heap.size, 0, none⟩ = some (.int .i64 p) := by rw [(bcell hb5).1 _ _ (lt_of_cell f0)]; exact f0
    have f1 : w5.cell? ⟨w2.heap.size, 1, none⟩ = some (.int .i64 q) := by rw [(bcell hb5).1 _ _ (lt_of_cell f1)]; exact f1
    have f2 : w5.cell? ⟨w2.heap.size, 2, none⟩ = some (.int .i64 3) := by rw [(bcell hb5).1 _ _ (lt_of_cell f2)]; exact f2
    have B5 := Hid.mk' (bT B4.out hb5)
    have T5 := Hid.mk' (HT.out.keep B5.out)
    clear hb5
    go_wp2_with fail
    go_quiet ((go_at_call 12; exact Calls.quiet_of_same (rest_at8 hq (Hid.mk' (T5.out.keep (below_drewN _ _))))))
    have k1 : (w5.drewN nq).cell? ⟨w.heap.size, 1, none⟩ = some (.int .i64 want) := k1
    have k3 : (w5.drewN nq).cell? ⟨w.heap.size, 3, none⟩ = some (.string s) := k3
    have f1 : (w5.drewN nq).cell? ⟨w2.heap.size, 1, none⟩ = some (.int .i64 q) := f1
    have B6 := Hid.mk' (bT B5.out (below_drewN w5 nq))
    generalize w5.drewN nq = w6 at *
    have T6 := Hid.mk' (HT.out.keep B6.out)
    rename_i kk1
    refine kk1 _ _ ?_
    refine wp_cond_false rfl ?_
    go_wp2_with (go_at_call 16; refine (lcol_any hq T6).mono ?_; rintro e w' ⟨rfl, hw⟩; have hqq := hw.symm; subst hqq; clear hw)
    go_ret
    exact ⟨rfl, B6.out⟩

set_option maxRecDepth 4000 in
set_option maxHeartbeats 4000000 in
theorem places_9n (ao : Option Addr) (n c p N : Nat) (want cnt : Int) (l : List UInt8) (s : ByteArray) (w : World) (hw2 : want ≤ 9223372036854775807) (HT : Hid (Tx w ao n c l)) (hp : p ≤ n) (hw1 : -1 ≤ want) (hc0 : 0 ≤ cnt) (hc9 : cnt ≤ 9999) (hN : max cnt 1 = (N : Int)) (hk : kn s = 9) (ht : tgt l p want N (decide (cnt = 0)) 9 = none) :
    Calls Try.prog 5 #[.slice ao n c, .agg #[.int .i64 p, .int .i64 want, .int .i64 cnt, .string s]] w fun e w' => e = .returned (.bool true) ∧ Below w.heap.size w w' := by
  have hlen := Hid.mk' HT.out.len
  have HM := Hid.mk' (mvE_none (l := l) (p := p) (N := N) (want := want) (cnt := cnt) (s := s) (by rw [HT.out.len]; exact hp) hw1 hc0 hc9 (by rw [hk]; decide) hN (by rw [hk]; exact ht))


  have HTG := Hid.mk' ht
  obtain ⟨q1, q2, q3, q4, q5, q6, q7, q8, q9, q10, q11, q12, q13, q14, q15, q16⟩ : (s.toList == [104]) = false ∧ (s.toList == [108]) = false ∧ (s.toList == [32]) = false ∧ (s.toList == [8]) = false ∧ (s.toList == [106]) = false ∧ (s.toList == [107]) = false ∧ (s.toList == [43]) = false ∧ (s.toList == [13]) = false ∧ (s.toList == [45]) = true ∧ (s.toList == [95]) = false ∧ (s.toList == [48]) = false ∧ (s.toList == [94]) = false ∧ (s.toList == [36]) = false ∧ (s.toList == [124]) = false ∧ (s.toList == [71]) = false ∧ (s.toList == [103, 103]) = false := kn_rules s 9 hk
  clear hk ht
  have hp0 : (0 : Int) ≤ (p : Int) := by omega
  have hpn : (p : Int) ≤ (n : Int) := by omega
  have hbig : (n : Int) ≤ 140737488355328 := by have := HT.out.big; omega
  have hn0 : (0 : Int) ≤ (n : Int) := by omega
  go_enter Try.func5, Try.ntmps5
  go_wp2_with fail
  refine (awake_any _).mono ?_
  rintro e w1 ⟨rfl, hb1⟩
  have m0 : w1.cell? ⟨w.heap.size, 0, none⟩ = some (.int .i64 p) := by rw [(bcell hb1).1 _ _ (by simp)]; simp [go_sem]
  have m1 : w1.cell? ⟨w.heap.size, 1, none⟩ = some (.int .i64 want) := by rw [(bcell hb1).1 _ _ (by simp)]; simp [go_sem]
  have m2 : w1.cell? ⟨w.heap.size, 2, none⟩ = some (.int .i64 cnt) := by rw [(bcell hb1).1 _ _ (by simp)]; simp [go_sem]
  have m3 : w1.cell? ⟨w.heap.size, 3, none⟩ = some (.string s) := by rw [(bcell hb1).1 _ _ (by simp)]; simp [go_sem]
  have hz1 : w.heap.size < w1.heap.size := by have := hb1.size; simp at this; omega
  have B1 := Hid.mk' (bT (bAlloc (Below.refl _ _) _) hb1)
  clear hb1
  go_wp2_with fail
  refine (move_any ao n c p want cnt l s _ hw2 (Hid.mk' (HT.out.keep B1.out))).mono ?_
  rintro e w2 ⟨rfl, hb2⟩
  rw [HM.out]
  have hz2 : w.heap.size < w2.heap.size := by have := hb2.size; omega
  have n0 : w2.cell? ⟨w.heap.size, 0, none⟩ = some (.int .i64 p) := by rw [(bcell hb2).1 _ _ hz1]; exact m0
  have n1 : w2.cell? ⟨w.heap.size, 1, none⟩ = some (.int .i64 want) := by rw [(bcell hb2).1 _ _ hz1]; exact m1
  have n2 : w2.cell? ⟨w.heap.size, 2, none⟩ = some (.int .i64 cnt) := by rw [(bcell hb2).1 _ _ hz1]; exact m2
  have n3 : w2.cell? ⟨w.heap.size, 3, none⟩ = some (.string s) := by rw [(bcell hb2).1 _ _ hz1]; exact m3
  have B2 := Hid.mk' (bT B1.out hb2)
  clear hb2 m0 m1 m2 m3 B1
  go_wp2_with fail
  refine (of_is hp (Hid.mk' (HT.out.keep (bAlloc B2.out _)))).mono ?_
  rintro e w3 ⟨rfl, hb3⟩
  have hz3 : w2.heap.size < w3.heap.size := by have := hb3.size; simp at this; omega
  have hz4 : w.heap.size < w3.heap.size := by omega
  have m0 : w3.cell? ⟨w.heap.size, 0, none⟩ = some (.int .i64 p) := by rw [(bcell hb3).1 _ _ (by simp; omega)]; simp [go_sem, hz2, n0]
  have m1 : w3.cell? ⟨w.heap.size, 1, none⟩ = some (.int .i64 want) := by rw [(bcell hb3).1 _ _ (by simp; omega)]; simp [go_sem, hz2, n1]
  have m2 : w3.cell? ⟨w.heap.size, 2, none⟩ = some (.int .i64 cnt) := by rw [(bcell hb3).1 _ _ (by simp; omega)]; simp [go_sem, hz2, n2]
  have m3 : w3.cell? ⟨w.heap.size, 3, none⟩ = some (.string s) := by rw [(bcell hb3).1 _ _ (by simp; omega)]; simp [go_sem, hz2, n3]
  have g0 : w3.cell? ⟨w2.heap.size, 0, none⟩ = some (.int .i64 0) := by rw [(bcell hb3).1 _ _ (by simp)]; simp [go_sem]
  have g1 : w3.cell? ⟨w2.heap.size, 1, none⟩ = some (.int .i64 0) := by rw [(bcell hb3).1 _ _ (by simp)]; simp [go_sem]
  have g2 : w3.cell? ⟨w2.heap.size, 2, none⟩ = some (.int .i64 0) := by rw [(bcell hb3).1 _ _ (by simp)]; simp [go_sem]
  have B3 := Hid.mk' (bT (bAlloc B2.out _) hb3)
  have T3 := Hid.mk' (HT.out.keep B3.out)
  clear hb3 n0 n1 n2 n3 B2
  go_wp2_with fail
  go_region_held3 (fun w' => w'.cell? ⟨w.heap.size, 2, none⟩ = some (.int .i64 cnt)) (first | assumption | simp [*, go_sem]) (first | (go_at_call 15; refine (count_any ao n c l _ (by first | exact T3 | exact Hid.mk' (T3.out.keep (Below.refl _ _).drew))).mono ?_; rintro e w4 ⟨rfl, hb4⟩; have c4 : w4.cell? ⟨w.heap.size, 2, none⟩ = some (.int .i64 cnt) := (by rw [hb4.cell (by first | exact hz4 | simpa using hz4)]; first | exact m2 | simpa using m2)) | fail)
  all_goals
    have k0 : w4.cell? ⟨w.heap.size, 0, none⟩ = some (.int .i64 p) := by rw [(bcell hb4).1 _ _ (by simpa using hz4)]; simpa using m0
    have k1 : w4.cell? ⟨w.heap.size, 1, none⟩ = some (.int .i64 want) := by rw [(bcell hb4).1 _ _ (by simpa using hz4)]; simpa using m1
    have k3 : w4.cell? ⟨w.heap.size, 3, none⟩ = some (.string s) := by rw [(bcell hb4).1 _ _ (by simpa using hz4)]; simpa using m3
    have f0 : w4.cell? ⟨w2.heap.size, 0, none⟩ = some (.int .i64 0) := by rw [(bcell hb4).1 _ _ (by simpa using hz3)]; simpa using g0
    have f1 : w4.cell? ⟨w2.heap.size, 1, none⟩ = some (.int .i64 0) := by rw [(bcell hb4).1 _ _ (by simpa using hz3)]; simpa using g1
    have f2 : w4.cell? ⟨w2.heap.size, 2, none⟩ = some (.int .i64 0) := by rw [(bcell hb4).1 _ _ (by simpa using hz3)]; simpa using g2
    have B4 := Hid.mk' (bT B3.out.drew hb4)
    have T4 := Hid.mk' (HT.out.keep B4.out)
    clear hb4 m0 m1 m2 m3 g0 g1 g2 B3 T3
    have hnl : (nl l : Int) ≤ (n : Int) := by have := nl_le l; have := hlen.out; omega
    have hnl0 : (0 : Int) ≤ (nl l : Int) := by omega
    have hL1 : (nl (l.take p) : Int) ≤ (nl l : Int) := by have := nl_take_le l p; omega
    have hL0 : (0 : Int) ≤ (nl (l.take p) : Int) := by omega
    have hN1 : (1 : Int) ≤ (N : Int) := by omega
    have hN9 : (N : Int) ≤ 9999 := by omega
    have HTH : Hid (lnFirst l ((nl (l.take p) : Int) - (N : Int)) = none) := HTG.out
    have hno : (nl (l.take p) : Int) - (N : Int) < 0 ∨ (nl l : Int) < (nl (l.take p) : Int) - (N : Int) := lnFirst_no HTH.out
    have hno2 : (nl (l.take p) : Int) - (N : Int) < 0 := by omega
    have hno3 := hno2
    clear hno
    go_wp2
    go_ret
    exact ⟨rfl, B4.out⟩

set_option maxRecDepth 4000 in
set_option maxHeartbeats 4000000 in
theorem places_10y (ao : Option Addr) (n c p N : Nat) (want cnt : Int) (l : List UInt8) (s : ByteArray) (w : World) (hw2 : want ≤ 9223372036854775807) (HT : Hid (Tx w ao n c l)) (hp : p ≤ n) (hw1 : -1 ≤ want) (hc0 : 0 ≤ cnt) (hc9 : cnt ≤ 9999) (hN : max cnt 1 = (N : Int)) (hk : kn s = 10) (q : Nat) (ht : tgt l p want N (decide (cnt = 0)) 10 = some q) :
    Calls Try.prog 5 #[.slice ao n c, .agg #[.int .i64 p, .int .i64 want, .int .i64 cnt, .string s]] w fun e w' => e = .returned (.bool true) ∧ Below w.heap.size w w' := by
  have hlen := Hid.mk' HT.out.len
  have HM := Hid.mk' (mvE_some (l := l) (p := p) (N := N) (want := want) (cnt := cnt) (s := s) (by rw [HT.out.len]; exact hp) hw1 hc0 hc9 (by rw [hk]; decide) hN (by rw [hk]; exact ht))
  rw [hk, show kd 10 = 3 from rfl, show wn l want N 10 q = ((q - bg l q : Nat) : Int) from rfl] at HM
  have hq : q ≤ n := by rw [← HT.out.len]; exact tgt_le (by rw [HT.out.len]; exact hp) (by omega) ht
  have HTG := Hid.mk' ht
  obtain ⟨q1, q2, q3, q4, q5, q6, q7, q8, q9, q10, q11, q12, q13, q14, q15, q16⟩ : (s.toList == [104]) = false ∧ (s.toList == [108]) = false ∧ (s.toList == [32]) = false ∧ (s.toList == [8]) = false ∧ (s.toList == [106]) = false ∧ (s.toList == [107]) = false ∧ (s.toList == [43]) = false ∧ (s.toList == [13]) = false ∧ (s.toList == [45]) = false ∧ (s.toList == [95]) = true ∧ (s.toList == [48]) = false ∧ (s.toList == [94]) = false ∧ (s.toList == [36]) = false ∧ (s.toList == [124]) = false ∧ (s.toList == [71]) = false ∧ (s.toList == [103, 103]) = false := kn_rules s 10 hk
  clear hk ht
  have hp0 : (0 : Int) ≤ (p : Int) := by omega
  have hpn : (p : Int) ≤ (n : Int) := by omega
  have hbig : (n : Int) ≤ 140737488355328 := by have := HT.out.big; omega
  have hn0 : (0 : Int) ≤ (n : Int) := by omega
  go_enter Try.func5, Try.ntmps5
  go_wp2_with fail
  refine (awake_any _).mono ?_
  rintro e w1 ⟨rfl, hb1⟩
  have m0 : w1.cell? ⟨w.heap.size, 0, none⟩ = some (.int .i64 p) := by rw [(bcell hb1).1 _ _ (by simp)]; simp [go_sem]
  have m1 : w1.cell? ⟨w.heap.size, 1, none⟩ = some (.int .i64 want) := by rw [(bcell hb1).1 _ _ (by simp)]; simp [go_sem]
  have m2 : w1.cell? ⟨w.heap.size, 2, none⟩ = some (.int .i64 cnt) := by rw [(bcell hb1).1 _ _ (by simp)]; simp [go_sem]
  have m3 : w1.cell? ⟨w.heap.size, 3, none⟩ = some (.string s) := by rw [(bcell hb1).1 _ _ (by simp)]; simp [go_sem]
  have hz1 : w.heap.size < w1.heap.size := by have := hb1.size; simp at this; omega
  have B1 := Hid.mk' (bT (bAlloc (Below.refl _ _) _) hb1)
  clear hb1
  go_wp2_with fail
  refine (move_any ao n c p want cnt l s _ hw2 (Hid.mk' (HT.out.keep B1.out))).mono ?_
  rintro e w2 ⟨rfl, hb2⟩
  rw [HM.out]
  have hz2 : w.heap.size < w2.heap.size := by have := hb2.size; omega
  have n0 : w2.cell? ⟨w.heap.size, 0, none⟩ = some (.int .i64 p) := by rw [(bcell hb2).1 _ _ hz1]; exact m0
  have n1 : w2.cell? ⟨w.heap.size, 1, none⟩ = some (.int .i64 want) := by rw [(bcell hb2).1 _ _ hz1]; exact m1
  have n2 : w2.cell? ⟨w.heap.size, 2, none⟩ = some (.int .i64 cnt) := by rw [(bcell hb2).1 _ _ hz1]; exact m2
  have n3 : w2.cell? ⟨w.heap.size, 3, none⟩ = some (.string s) := by rw [(bcell hb2).1 _ _ hz1]; exact m3
  have B2 := Hid.mk' (bT B1.out hb2)
  clear hb2 m0 m1 m2 m3 B1
  go_wp2_with fail
  refine (of_is hp (Hid.mk' (HT.out.keep (bAlloc B2.out _)))).mono ?_
  rintro e w3 ⟨rfl, hb3⟩
  have hz3 : w2.heap.size < w3.heap.size := by have := hb3.size; simp at this; omega
  have hz4 : w.heap.size < w3.heap.size := by omega
  have m0 : w3.cell? ⟨w.heap.size, 0, none⟩ = some (.int .i64 p) := by rw [(bcell hb3).1 _ _ (by simp; omega)]; simp [go_sem, hz2, n0]
  have m1 : w3.cell? ⟨w.heap.size, 1, none⟩ = some (.int .i64 want) := by rw [(bcell hb3).1 _ _ (by simp; omega)]; simp [go_sem, hz2, n1]
  have m2 : w3.cell? ⟨w.heap.size, 2, none⟩ = some (.int .i64 cnt) := by rw [(bcell hb3).1 _ _ (by simp; omega)]; simp [go_sem, hz2, n2]
  have m3 : w3.cell? ⟨w.heap.size, 3, none⟩ = some (.string s) := by rw [(bcell hb3).1 _ _ (by simp; omega)]; simp [go_sem, hz2, n3]
  have g0 : w3.cell? ⟨w2.heap.size, 0, none⟩ = some (.int .i64 p) := by rw [(bcell hb3).1 _ _ (by simp)]; simp [go_sem]
  have g1 : w3.cell? ⟨w2.heap.size, 1, none⟩ = some (.int .i64 q) := by rw [(bcell hb3).1 _ _ (by simp)]; simp [go_sem]
  have g2 : w3.cell? ⟨w2.heap.size, 2, none⟩ = some (.int .i64 3) := by rw [(bcell hb3).1 _ _ (by simp)]; simp [go_sem]
  have B3 := Hid.mk' (bT (bAlloc B2.out _) hb3)
  have T3 := Hid.mk' (HT.out.keep B3.out)
  clear hb3 n0 n1 n2 n3 B2
  go_wp2_with fail
  go_region_held3 (fun w' => w'.cell? ⟨w.heap.size, 2, none⟩ = some (.int .i64 cnt)) (first | assumption | simp [*, go_sem]) (first | (go_at_call 15; refine (count_any ao n c l _ (by first | exact T3 | exact Hid.mk' (T3.out.keep (Below.refl _ _).drew))).mono ?_; rintro e w4 ⟨rfl, hb4⟩; have c4 : w4.cell? ⟨w.heap.size, 2, none⟩ = some (.int .i64 cnt) := (by rw [hb4.cell (by first | exact hz4 | simpa using hz4)]; first | exact m2 | simpa using m2)) | fail)
  all_goals
    have k0 : w4.cell? ⟨w.heap.size, 0, none⟩ = some (.int .i64 p) := by rw [(bcell hb4).1 _ _ (by simpa using hz4)]; simpa using m0
    have k1 : w4.cell? ⟨w.heap.size, 1, none⟩ = some (.int .i64 want) := by rw [(bcell hb4).1 _ _ (by simpa using hz4)]; simpa using m1
    have k3 : w4.cell? ⟨w.heap.size, 3, none⟩ = some (.string s) := by rw [(bcell hb4).1 _ _ (by simpa using hz4)]; simpa using m3
    have f0 : w4.cell? ⟨w2.heap.size, 0, none⟩ = some (.int .i64 p) := by rw [(bcell hb4).1 _ _ (by simpa using hz3)]; simpa using g0
    have f1 : w4.cell? ⟨w2.heap.size, 1, none⟩ = some (.int .i64 q) := by rw [(bcell hb4).1 _ _ (by simpa using hz3)]; simpa using g1
    have f2 : w4.cell? ⟨w2.heap.size, 2, none⟩ = some (.int .i64 3) := by rw [(bcell hb4).1 _ _ (by simpa using hz3)]; simpa using g2
    have B4 := Hid.mk' (bT B3.out.drew hb4)
    have T4 := Hid.mk' (HT.out.keep B4.out)
    clear hb4 m0 m1 m2 m3 g0 g1 g2 B3 T3
    have hnl : (nl l : Int) ≤ (n : Int) := by have := nl_le l; have := hlen.out; omega
    have hnl0 : (0 : Int) ≤ (nl l : Int) := by omega
    have hL1 : (nl (l.take p) : Int) ≤ (nl l : Int) := by have := nl_take_le l p; omega
    have hL0 : (0 : Int) ≤ (nl (l.take p) : Int) := by omega
    have hN1 : (1 : Int) ≤ (N : Int) := by omega
    have hN9 : (N : Int) ≤ 9999 := by omega
    have hq0 : (0 : Int) ≤ (q : Int) := by omega
    have hq1 : (q : Int) ≤ (n : Int) := by omega
    have HTH : Hid (lnFirst l ((nl (l.take p) : Int) + (N : Int) - 1) = some q) := HTG.out
    obtain ⟨a1, a2, a3⟩ := lnFirst_some HTH.out
    obtain ⟨-, hon, -, hrs⟩ := in_line (by omega) a3
    clear a3
    have hr1 : ((rs l q : Int) != (q : Int)) = false := by rw [hrs]; simp
    have hr2 : (rs l q != q) = false := by rw [hrs]; simp
    clear hrs
    have ho1 : ((nl (l.take q) : Int) != (nl (l.take p) : Int) + (N : Int) - 1) = false := by rw [hon]; simp only [bne_eq_false_iff_eq]; omega
    have HON : Hid (((nl (l.take q) : Nat) : Int) = (nl (l.take p) : Int) + (N : Int) - 1) := (by unfold Hid; rw [hon]; omega)
    clear hon
    go_wp2_with fail
    refine (of_is hq T4).mono ?_
    rintro e w5 ⟨rfl, hb5⟩
    rw [HON.out]
    have k0 : w5.cell? ⟨w.heap.size, 0, none⟩ = some (.int .i64 p) := by rw [(bcell hb5).1 _ _ (lt_of_cell k0)]; exact k0
    have k1 : w5.cell? ⟨w.heap.size, 1, none⟩ = some (.int .i64 want) := by rw [(bcell hb5).1 _ _ (lt_of_cell k1)]; exact k1
    have k3 : w5.cell? ⟨w.heap.size, 3, none⟩ = some (.string s) := by rw [(bcell hb5).1 _ _ (lt_of_cell k3)]; exact k3
    have f0 : w5.cell? ⟨w2.heap.size, 0, none⟩ = some (.int .i64 p) := by rw [(bcell hb5).1 _ _ (lt_of_cell f0)]; exact f0
    have f1 : w5.cell? ⟨w2.heap.size, 1, none⟩ = some (.int .i64 q) := by rw [(bcell hb5).1 _ _ (lt_of_cell f1)]; exact f1
    have f2 : w5.cell? ⟨w2.heap.size, 2, none⟩ = some (.int .i64 3) := by rw [(bcell hb5).1 _ _ (lt_of_cell f2)]; exact f2
    have B5 := Hid.mk' (bT B4.out hb5)
    have T5 := Hid.mk' (HT.out.keep B5.out)
    clear hb5
    go_wp2_with fail
    go_quiet ((go_at_call 12; exact Calls.quiet_of_same (rest_at8 hq (Hid.mk' (T5.out.keep (below_drewN _ _))))))
    have k1 : (w5.drewN nq).cell? ⟨w.heap.size, 1, none⟩ = some (.int .i64 want) := k1
    have k3 : (w5.drewN nq).cell? ⟨w.heap.size, 3, none⟩ = some (.string s) := k3
    have f1 : (w5.drewN nq).cell? ⟨w2.heap.size, 1, none⟩ = some (.int .i64 q) := f1
    have B6 := Hid.mk' (bT B5.out (below_drewN w5 nq))
    generalize w5.drewN nq = w6 at *
    have T6 := Hid.mk' (HT.out.keep B6.out)
    rename_i kk1
    refine kk1 _ _ ?_
    refine wp_cond_false rfl ?_
    go_wp2_with (go_at_call 16; refine (lcol_any hq T6).mono ?_; rintro e w' ⟨rfl, hw⟩; have hqq := hw.symm; subst hqq; clear hw)
    go_ret
    exact ⟨rfl, B6.out⟩

set_option maxRecDepth 4000 in
set_option maxHeartbeats 4000000 in
theorem places_10n (ao : Option Addr) (n c p N : Nat) (want cnt : Int) (l : List UInt8) (s : ByteArray) (w : World) (hw2 : want ≤ 9223372036854775807) (HT : Hid (Tx w ao n c l)) (hp : p ≤ n) (hw1 : -1 ≤ want) (hc0 : 0 ≤ cnt) (hc9 : cnt ≤ 9999) (hN : max cnt 1 = (N : Int)) (hk : kn s = 10) (ht : tgt l p want N (decide (cnt = 0)) 10 = none) :
    Calls Try.prog 5 #[.slice ao n c, .agg #[.int .i64 p, .int .i64 want, .int .i64 cnt, .string s]] w fun e w' => e = .returned (.bool true) ∧ Below w.heap.size w w' := by
  have hlen := Hid.mk' HT.out.len
  have HM := Hid.mk' (mvE_none (l := l) (p := p) (N := N) (want := want) (cnt := cnt) (s := s) (by rw [HT.out.len]; exact hp) hw1 hc0 hc9 (by rw [hk]; decide) hN (by rw [hk]; exact ht))


  have HTG := Hid.mk' ht
  obtain ⟨q1, q2, q3, q4, q5, q6, q7, q8, q9, q10, q11, q12, q13, q14, q15, q16⟩ : (s.toList == [104]) = false ∧ (s.toList == [108]) = false ∧ (s.toList == [32]) = false ∧ (s.toList == [8]) = false ∧ (s.toList == [106]) = false ∧ (s.toList == [107]) = false ∧ (s.toList == [43]) = false ∧ (s.toList == [13]) = false ∧ (s.toList == [45]) = false ∧ (s.toList == [95]) = true ∧ (s.toList == [48]) = false ∧ (s.toList == [94]) = false ∧ (s.toList == [36]) = false ∧ (s.toList == [124]) = false ∧ (s.toList == [71]) = false ∧ (s.toList == [103, 103]) = false := kn_rules s 10 hk
  clear hk ht
  have hp0 : (0 : Int) ≤ (p : Int) := by omega
  have hpn : (p : Int) ≤ (n : Int) := by omega
  have hbig : (n : Int) ≤ 140737488355328 := by have := HT.out.big; omega
  have hn0 : (0 : Int) ≤ (n : Int) := by omega
  go_enter Try.func5, Try.ntmps5
  go_wp2_with fail
  refine (awake_any _).mono ?_
  rintro e w1 ⟨rfl, hb1⟩
  have m0 : w1.cell? ⟨w.heap.size, 0, none⟩ = some (.int .i64 p) := by rw [(bcell hb1).1 _ _ (by simp)]; simp [go_sem]
  have m1 : w1.cell? ⟨w.heap.size, 1, none⟩ = some (.int .i64 want) := by rw [(bcell hb1).1 _ _ (by simp)]; simp [go_sem]
  have m2 : w1.cell? ⟨w.heap.size, 2, none⟩ = some (.int .i64 cnt) := by rw [(bcell hb1).1 _ _ (by simp)]; simp [go_sem]
  have m3 : w1.cell? ⟨w.heap.size, 3, none⟩ = some (.string s) := by rw [(bcell hb1).1 _ _ (by simp)]; simp [go_sem]
  have hz1 : w.heap.size < w1.heap.size := by have := hb1.size; simp at this; omega
  have B1 := Hid.mk' (bT (bAlloc (Below.refl _ _) _) hb1)
  clear hb1
  go_wp2_with fail
  refine (move_any ao n c p want cnt l s _ hw2 (Hid.mk' (HT.out.keep B1.out))).mono ?_
  rintro e w2 ⟨rfl, hb2⟩
  rw [HM.out]
  have hz2 : w.heap.size < w2.heap.size := by have := hb2.size; omega
  have n0 : w2.cell? ⟨w.heap.size, 0, none⟩ = some (.int .i64 p) := by rw [(bcell hb2).1 _ _ hz1]; exact m0
  have n1 : w2.cell? ⟨w.heap.size, 1, none⟩ = some (.int .i64 want) := by rw [(bcell hb2).1 _ _ hz1]; exact m1
  have n2 : w2.cell? ⟨w.heap.size, 2, none⟩ = some (.int .i64 cnt) := by rw [(bcell hb2).1 _ _ hz1]; exact m2
  have n3 : w2.cell? ⟨w.heap.size, 3, none⟩ = some (.string s) := by rw [(bcell hb2).1 _ _ hz1]; exact m3
  have B2 := Hid.mk' (bT B1.out hb2)
  clear hb2 m0 m1 m2 m3 B1
  go_wp2_with fail
  refine (of_is hp (Hid.mk' (HT.out.keep (bAlloc B2.out _)))).mono ?_
  rintro e w3 ⟨rfl, hb3⟩
  have hz3 : w2.heap.size < w3.heap.size := by have := hb3.size; simp at this; omega
  have hz4 : w.heap.size < w3.heap.size := by omega
  have m0 : w3.cell? ⟨w.heap.size, 0, none⟩ = some (.int .i64 p) := by rw [(bcell hb3).1 _ _ (by simp; omega)]; simp [go_sem, hz2, n0]
  have m1 : w3.cell? ⟨w.heap.size, 1, none⟩ = some (.int .i64 want) := by rw [(bcell hb3).1 _ _ (by simp; omega)]; simp [go_sem, hz2, n1]
  have m2 : w3.cell? ⟨w.heap.size, 2, none⟩ = some (.int .i64 cnt) := by rw [(bcell hb3).1 _ _ (by simp; omega)]; simp [go_sem, hz2, n2]
  have m3 : w3.cell? ⟨w.heap.size, 3, none⟩ = some (.string s) := by rw [(bcell hb3).1 _ _ (by simp; omega)]; simp [go_sem, hz2, n3]
  have g0 : w3.cell? ⟨w2.heap.size, 0, none⟩ = some (.int .i64 0) := by rw [(bcell hb3).1 _ _ (by simp)]; simp [go_sem]
  have g1 : w3.cell? ⟨w2.heap.size, 1, none⟩ = some (.int .i64 0) := by rw [(bcell hb3).1 _ _ (by simp)]; simp [go_sem]
  have g2 : w3.cell? ⟨w2.heap.size, 2, none⟩ = some (.int .i64 0) := by rw [(bcell hb3).1 _ _ (by simp)]; simp [go_sem]
  have B3 := Hid.mk' (bT (bAlloc B2.out _) hb3)
  have T3 := Hid.mk' (HT.out.keep B3.out)
  clear hb3 n0 n1 n2 n3 B2
  go_wp2_with fail
  go_region_held3 (fun w' => w'.cell? ⟨w.heap.size, 2, none⟩ = some (.int .i64 cnt)) (first | assumption | simp [*, go_sem]) (first | (go_at_call 15; refine (count_any ao n c l _ (by first | exact T3 | exact Hid.mk' (T3.out.keep (Below.refl _ _).drew))).mono ?_; rintro e w4 ⟨rfl, hb4⟩; have c4 : w4.cell? ⟨w.heap.size, 2, none⟩ = some (.int .i64 cnt) := (by rw [hb4.cell (by first | exact hz4 | simpa using hz4)]; first | exact m2 | simpa using m2)) | fail)
  all_goals
    have k0 : w4.cell? ⟨w.heap.size, 0, none⟩ = some (.int .i64 p) := by rw [(bcell hb4).1 _ _ (by simpa using hz4)]; simpa using m0
    have k1 : w4.cell? ⟨w.heap.size, 1, none⟩ = some (.int .i64 want) := by rw [(bcell hb4).1 _ _ (by simpa using hz4)]; simpa using m1
    have k3 : w4.cell? ⟨w.heap.size, 3, none⟩ = some (.string s) := by rw [(bcell hb4).1 _ _ (by simpa using hz4)]; simpa using m3
    have f0 : w4.cell? ⟨w2.heap.size, 0, none⟩ = some (.int .i64 0) := by rw [(bcell hb4).1 _ _ (by simpa using hz3)]; simpa using g0
    have f1 : w4.cell? ⟨w2.heap.size, 1, none⟩ = some (.int .i64 0) := by rw [(bcell hb4).1 _ _ (by simpa using hz3)]; simpa using g1
    have f2 : w4.cell? ⟨w2.heap.size, 2, none⟩ = some (.int .i64 0) := by rw [(bcell hb4).1 _ _ (by simpa using hz3)]; simpa using g2
    have B4 := Hid.mk' (bT B3.out.drew hb4)
    have T4 := Hid.mk' (HT.out.keep B4.out)
    clear hb4 m0 m1 m2 m3 g0 g1 g2 B3 T3
    have hnl : (nl l : Int) ≤ (n : Int) := by have := nl_le l; have := hlen.out; omega
    have hnl0 : (0 : Int) ≤ (nl l : Int) := by omega
    have hL1 : (nl (l.take p) : Int) ≤ (nl l : Int) := by have := nl_take_le l p; omega
    have hL0 : (0 : Int) ≤ (nl (l.take p) : Int) := by omega
    have hN1 : (1 : Int) ≤ (N : Int) := by omega
    have hN9 : (N : Int) ≤ 9999 := by omega
    have HTH : Hid (lnFirst l ((nl (l.take p) : Int) + (N : Int) - 1) = none) := HTG.out
    have hno : (nl (l.take p) : Int) + (N : Int) - 1 < 0 ∨ (nl l : Int) < (nl (l.take p) : Int) + (N : Int) - 1 := lnFirst_no HTH.out
    have hno2 : (nl l : Int) < (nl (l.take p) : Int) + (N : Int) - 1 := by omega
    have hno3 : (0 : Int) ≤ (nl (l.take p) : Int) + (N : Int) - 1 := by omega
    clear hno
    go_wp2
    go_ret
    exact ⟨rfl, B4.out⟩
end Go.Proofs.Ytbkhbnmihnomaaa
