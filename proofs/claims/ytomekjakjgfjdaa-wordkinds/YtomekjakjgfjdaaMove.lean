/- The contract of word.Move. -/
import Derived.Test.YtomekjakjgfjdaaMot
namespace Go.Proofs.Ytomekjakjgfjdaa
open Go.RowKit

theorem bcell {W w1 : World} (hb : Below W.heap.size W w1) : (∀ b o, b < W.heap.size → w1.cell? ⟨b, o, none⟩ = W.cell? ⟨b, o, none⟩) ∧ (∀ b o, b < W.heap.size → w1.frozen? ⟨b, o, none⟩ = W.frozen? ⟨b, o, none⟩) :=
  ⟨fun b o h => hb.cell (p := ⟨b, o, none⟩) h, fun b o h => hb.frozen (p := ⟨b, o, none⟩) h⟩
theorem bset {w W : World} (h : Below w.heap.size w W) {a : Addr} (v : Value) (ha : w.heap.size ≤ a.block) : Below w.heap.size w (W.setCell a v) := h.setCell ha v

set_option maxHeartbeats 1000000 in
theorem move_no1 (ao : Option Addr) (n c : Nat) (i cnt : Int) (s : ByteArray) (w : World) (h1 : i < 0) :
    Calls Try.prog 10 #[.slice ao n c, .int .i64 i, .int .i64 cnt, .string s] w fun e w' => e = .returned (.tuple #[.agg #[.int .i64 0, .int .i64 0, .int .i64 0], .int .i64 2]) ∧ Below w.heap.size w w' := by
  have K := Hid.mk' (motion_any s)
  unfold mot at K
  generalize mW (kn s) = a0 at *
  generalize mH (kn s) = a2 at *
  generalize mK (kn s) = a3 at *
  generalize mB (kn s) = a4 at *
  generalize decide (kn s ≠ 0) = a5 at *
  rcases mF_cases (kn s) (kn_le s) with hF | ⟨f, hF⟩
  all_goals
    rw [hF] at K
    clear hF
    go_enter Try.func10, Try.ntmps10
    go_wp2_with fail
    refine (K.out _).mono ?_
    rintro e w1 ⟨rfl, hb1⟩
    obtain ⟨hc1, hf1⟩ := bcell hb1
    have B1 := Hid.mk' (bT (bAlloc (Below.refl _ _) _) hb1)
    have hz : w.heap.size < w1.heap.size := by have := hb1.size; simp at this; omega
    clear hb1
    go_wp2
    exact bodyPost_ret (v := .tuple #[.agg #[.int .i64 0, .int .i64 0, .int .i64 0], .int .i64 2]) (by simp [results, Try.results10, go_sem, hc1, hz]) rfl ⟨rfl, bAlloc (bset (bset (bset B1.out _ (Nat.le_refl _)) _ (Nat.le_refl _)) _ (Nat.le_refl _)) _⟩
set_option maxHeartbeats 1000000 in
theorem move_no2 (ao : Option Addr) (n c : Nat) (i cnt : Int) (s : ByteArray) (w : World) (h0 : 0 ≤ i) (h1 : (n : Int) < i) :
    Calls Try.prog 10 #[.slice ao n c, .int .i64 i, .int .i64 cnt, .string s] w fun e w' => e = .returned (.tuple #[.agg #[.int .i64 0, .int .i64 0, .int .i64 0], .int .i64 2]) ∧ Below w.heap.size w w' := by
  have K := Hid.mk' (motion_any s)
  unfold mot at K
  generalize mW (kn s) = a0 at *
  generalize mH (kn s) = a2 at *
  generalize mK (kn s) = a3 at *
  generalize mB (kn s) = a4 at *
  generalize decide (kn s ≠ 0) = a5 at *
  rcases mF_cases (kn s) (kn_le s) with hF | ⟨f, hF⟩
  all_goals
    rw [hF] at K
    clear hF
    go_enter Try.func10, Try.ntmps10
    go_wp2_with fail
    refine (K.out _).mono ?_
    rintro e w1 ⟨rfl, hb1⟩
    obtain ⟨hc1, hf1⟩ := bcell hb1
    have B1 := Hid.mk' (bT (bAlloc (Below.refl _ _) _) hb1)
    have hz : w.heap.size < w1.heap.size := by have := hb1.size; simp at this; omega
    clear hb1
    go_wp2
    exact bodyPost_ret (v := .tuple #[.agg #[.int .i64 0, .int .i64 0, .int .i64 0], .int .i64 2]) (by simp [results, Try.results10, go_sem, hc1, hz]) rfl ⟨rfl, bAlloc (bset (bset (bset B1.out _ (Nat.le_refl _)) _ (Nat.le_refl _)) _ (Nat.le_refl _)) _⟩
set_option maxHeartbeats 1000000 in
theorem move_no3 (ao : Option Addr) (n c : Nat) (i cnt : Int) (s : ByteArray) (w : World) (h0 : 0 ≤ i) (h1 : i ≤ (n : Int)) (h2 : cnt < 0) :
    Calls Try.prog 10 #[.slice ao n c, .int .i64 i, .int .i64 cnt, .string s] w fun e w' => e = .returned (.tuple #[.agg #[.int .i64 0, .int .i64 0, .int .i64 0], .int .i64 2]) ∧ Below w.heap.size w w' := by
  have K := Hid.mk' (motion_any s)
  unfold mot at K
  generalize mW (kn s) = a0 at *
  generalize mH (kn s) = a2 at *
  generalize mK (kn s) = a3 at *
  generalize mB (kn s) = a4 at *
  generalize decide (kn s ≠ 0) = a5 at *
  rcases mF_cases (kn s) (kn_le s) with hF | ⟨f, hF⟩
  all_goals
    rw [hF] at K
    clear hF
    go_enter Try.func10, Try.ntmps10
    go_wp2_with fail
    refine (K.out _).mono ?_
    rintro e w1 ⟨rfl, hb1⟩
    obtain ⟨hc1, hf1⟩ := bcell hb1
    have B1 := Hid.mk' (bT (bAlloc (Below.refl _ _) _) hb1)
    have hz : w.heap.size < w1.heap.size := by have := hb1.size; simp at this; omega
    clear hb1
    go_wp2
    exact bodyPost_ret (v := .tuple #[.agg #[.int .i64 0, .int .i64 0, .int .i64 0], .int .i64 2]) (by simp [results, Try.results10, go_sem, hc1, hz]) rfl ⟨rfl, bAlloc (bset (bset (bset B1.out _ (Nat.le_refl _)) _ (Nat.le_refl _)) _ (Nat.le_refl _)) _⟩
set_option maxHeartbeats 1000000 in
theorem move_no4 (ao : Option Addr) (n c : Nat) (i cnt : Int) (s : ByteArray) (w : World) (h0 : 0 ≤ i) (h1 : i ≤ (n : Int)) (h2 : 0 ≤ cnt) (h3 : 9999 < cnt) :
    Calls Try.prog 10 #[.slice ao n c, .int .i64 i, .int .i64 cnt, .string s] w fun e w' => e = .returned (.tuple #[.agg #[.int .i64 0, .int .i64 0, .int .i64 0], .int .i64 2]) ∧ Below w.heap.size w w' := by
  have K := Hid.mk' (motion_any s)
  unfold mot at K
  generalize mW (kn s) = a0 at *
  generalize mH (kn s) = a2 at *
  generalize mK (kn s) = a3 at *
  generalize mB (kn s) = a4 at *
  generalize decide (kn s ≠ 0) = a5 at *
  rcases mF_cases (kn s) (kn_le s) with hF | ⟨f, hF⟩
  all_goals
    rw [hF] at K
    clear hF
    go_enter Try.func10, Try.ntmps10
    go_wp2_with fail
    refine (K.out _).mono ?_
    rintro e w1 ⟨rfl, hb1⟩
    obtain ⟨hc1, hf1⟩ := bcell hb1
    have B1 := Hid.mk' (bT (bAlloc (Below.refl _ _) _) hb1)
    have hz : w.heap.size < w1.heap.size := by have := hb1.size; simp at this; omega
    clear hb1
    go_wp2
    exact bodyPost_ret (v := .tuple #[.agg #[.int .i64 0, .int .i64 0, .int .i64 0], .int .i64 2]) (by simp [results, Try.results10, go_sem, hc1, hz]) rfl ⟨rfl, bAlloc (bset (bset (bset B1.out _ (Nat.le_refl _)) _ (Nat.le_refl _)) _ (Nat.le_refl _)) _⟩
set_option maxHeartbeats 1000000 in
theorem move_no5 (ao : Option Addr) (n c : Nat) (i cnt : Int) (s : ByteArray) (w : World) (h0 : 0 ≤ i) (h1 : i ≤ (n : Int)) (h2 : 0 ≤ cnt) (h3 : cnt ≤ 9999) (h5 : kn s = 0) :
    Calls Try.prog 10 #[.slice ao n c, .int .i64 i, .int .i64 cnt, .string s] w fun e w' => e = .returned (.tuple #[.agg #[.int .i64 0, .int .i64 0, .int .i64 0], .int .i64 2]) ∧ Below w.heap.size w w' := by
  have K := Hid.mk' (motion_any s)
  unfold mot at K
  have h6 : decide (kn s ≠ 0) = false := by rw [h5]; rfl
  rw [h6] at K
  clear h5 h6
  generalize mW (kn s) = a0 at *
  generalize mH (kn s) = a2 at *
  generalize mK (kn s) = a3 at *
  generalize mB (kn s) = a4 at *
  rcases mF_cases (kn s) (kn_le s) with hF | ⟨f, hF⟩
  all_goals
    rw [hF] at K
    clear hF
    go_enter Try.func10, Try.ntmps10
    go_wp2_with fail
    refine (K.out _).mono ?_
    rintro e w1 ⟨rfl, hb1⟩
    obtain ⟨hc1, hf1⟩ := bcell hb1
    have B1 := Hid.mk' (bT (bAlloc (Below.refl _ _) _) hb1)
    have hz : w.heap.size < w1.heap.size := by have := hb1.size; simp at this; omega
    clear hb1
    go_wp2
    exact bodyPost_ret (v := .tuple #[.agg #[.int .i64 0, .int .i64 0, .int .i64 0], .int .i64 2]) (by simp [results, Try.results10, go_sem, hc1, hz]) rfl ⟨rfl, bAlloc (bset (bset (bset B1.out _ (Nat.le_refl _)) _ (Nat.le_refl _)) _ (Nat.le_refl _)) _⟩
set_option maxHeartbeats 1000000 in
theorem move_yes (ao : Option Addr) (n c p m : Nat) (cnt : Int) (l : List UInt8) (s : ByteArray) (w : World) (HT : Hid (Tx w ao n c l)) (hp : p ≤ n) (hc : max cnt 1 = (m : Int)) (hN : (m : Int) ≤ 9999) (hc0 : 0 ≤ cnt) (hc9 : cnt ≤ 9999) (hk : kn s ≠ 0) :
    Calls Try.prog 10 #[.slice ao n c, .int .i64 p, .int .i64 cnt, .string s] w fun e w' => e = (if tgt l p m (kn s) = p then .returned (.tuple #[.agg #[.int .i64 0, .int .i64 0, .int .i64 0], .int .i64 70]) else .returned (.tuple #[.agg #[.int .i64 p, .int .i64 (tgt l p m (kn s) : Nat), .int .i64 (mK (kn s))], .int .i64 0])) ∧ Below w.heap.size w w' := by
  have K := Hid.mk' (motion_any s)
  have LD := Hid.mk' (fun w HT => leads_any ao n c p m (kn s) l w (kn_le s) hk hp (by omega) HT)
  have hpn : (p : Int) ≤ (n : Int) := by omega
  have hp0 : (0 : Int) ≤ (p : Int) := by omega
  rw [show decide (kn s ≠ 0) = true from decide_eq_true hk] at K
  obtain ⟨f, hF⟩ := mF_func (kn s) (kn_le s) hk
  clear hk
  unfold mot at K LD
  generalize mW (kn s) = a0 at *
  rw [hF] at K LD
  clear hF
  generalize mH (kn s) = a2 at *
  generalize mK (kn s) = a3 at *
  generalize mB (kn s) = a4 at *
  generalize tgt l p m (kn s) = q at *
  obtain ⟨E, hE⟩ : ∃ E, E = (if q = p then Ending.returned (.tuple #[.agg #[.int .i64 0, .int .i64 0, .int .i64 0], .int .i64 70]) else .returned (.tuple #[.agg #[.int .i64 p, .int .i64 q, .int .i64 a3], .int .i64 0])) := ⟨_, rfl⟩
  rw [← hE]
  have HE := Hid.mk' hE
  clear hE
  go_enter Try.func10, Try.ntmps10
  go_wp2_with fail
  refine (K.out _).mono ?_
  rintro e w1 ⟨rfl, hb1⟩
  obtain ⟨hc1, hf1⟩ := bcell hb1
  have B1 := Hid.mk' (bT (bAlloc (Below.refl _ _) _) hb1)
  have hz : w.heap.size < w1.heap.size := by have := hb1.size; simp at this; omega
  clear hb1
  go_wp2_with fail
  refine (LD.out _ (Hid.mk' (HT.out.keep (bAlloc B1.out _)))).mono ?_
  rintro e w2 ⟨rfl, hb2⟩
  have C2 := fun b o h => (bcell hb2).1 b o h
  have F2 := fun b o h => (bcell hb2).2 b o h
  have hz1 : w1.heap.size < w2.heap.size := by have := hb2.size; simp at this; omega
  have hz3 : w.heap.size < w2.heap.size := by omega
  have B3 := Hid.mk' (bT (bAlloc B1.out _) hb2)
  clear hb2
  have r0 : ∀ o, w2.cell? ⟨w.heap.size, o, none⟩ = w1.cell? ⟨w.heap.size, o, none⟩ := fun o => by
    rw [C2 _ o (by simp; omega)]; simp [go_sem, hz]
  have m3 : w2.cell? ⟨w1.heap.size, 3, none⟩ = some (.int .i64 a3) := by rw [C2 _ _ (by simp)]; simp [go_sem]
  have g0 : ∀ o, w2.frozen? ⟨w.heap.size, o, none⟩ = w1.frozen? ⟨w.heap.size, o, none⟩ := fun o => by
    rw [F2 _ o (by simp; omega)]; simp [go_sem, hz]
  clear C2 F2
  by_cases hq : q = p
  · have HF := Hid.mk' (HE.out.trans (if_pos hq))
    have hq1 : ((q : Int) == (p : Int)) = true := by simp; omega
    clear hq
    go_wp2
    exact bodyPost_ret (v := .tuple #[.agg #[.int .i64 0, .int .i64 0, .int .i64 0], .int .i64 70]) (by simp [results, Try.results10, go_sem, r0, hc1]) rfl ⟨HF.out.symm, bset (bset (bset B3.out _ (Nat.le_refl _)) _ (Nat.le_refl _)) _ (Nat.le_refl _)⟩
  · have HF := Hid.mk' (HE.out.trans (if_neg hq))
    have hq1 : ((q : Int) == (p : Int)) = false := by simp; omega
    clear hq
    go_wp2
    exact bodyPost_ret (v := .tuple #[.agg #[.int .i64 p, .int .i64 q, .int .i64 a3], .int .i64 0]) (by simp [results, Try.results10, go_sem, r0, hc1]) rfl ⟨HF.out.symm, bset (bset (bset B3.out _ (Nat.le_refl _)) _ (Nat.le_refl _)) _ (Nat.le_refl _)⟩

theorem move_any (ao : Option Addr) (n c : Nat) (i cnt : Int) (l : List UInt8) (s : ByteArray) (w : World) (HT : Hid (Tx w ao n c l)) :
    Calls Try.prog 10 #[.slice ao n c, .int .i64 i, .int .i64 cnt, .string s] w fun e w' => e = mvE (mv l i cnt s) ∧ Below w.heap.size w w' := by
  have hl := HT.out.len
  cases h : okB l i cnt s with
  | false =>
    have e : mvE (mv l i cnt s) = .returned (.tuple #[.agg #[.int .i64 0, .int .i64 0, .int .i64 0], .int .i64 2]) := by unfold mv; rw [h]; rfl
    rw [e]
    by_cases h0 : i < 0
    · exact move_no1 ao n c i cnt s w h0
    · by_cases h1 : (n : Int) < i
      · exact move_no2 ao n c i cnt s w (by omega) h1
      · by_cases h3 : cnt < 0
        · exact move_no3 ao n c i cnt s w (by omega) (by omega) h3
        · by_cases h4 : 9999 < cnt
          · exact move_no4 ao n c i cnt s w (by omega) (by omega) (by omega) h4
          · by_cases h5 : kn s = 0
            · exact move_no5 ao n c i cnt s w (by omega) (by omega) (by omega) (by omega) h5
            · exfalso
              unfold okB plB at h
              rw [decide_eq_true (show 0 ≤ i ∧ i ≤ l.length by omega), decide_eq_true (show 0 ≤ cnt by omega), decide_eq_true (show cnt ≤ 9999 by omega), decide_eq_true h5] at h
              cases h
  | true =>
    have h' := h
    unfold okB at h
    simp only [Bool.and_eq_true, decide_eq_true_eq] at h
    obtain ⟨⟨⟨h1, h3⟩, h4⟩, h5⟩ := h
    obtain ⟨p, rfl, hp⟩ := pl_yes h1
    have hc : max cnt 1 = (((max cnt 1).toNat : Nat) : Int) := by omega
    refine (move_yes ao n c p (max cnt 1).toNat cnt l s w HT (by omega) hc (by omega) h3 h4 h5).mono fun e w' hh => ⟨?_, hh.2⟩
    rw [hh.1]
    unfold mv
    rw [h', if_pos rfl, Int.toNat_natCast]
    split <;> rfl
end Go.Proofs.Ytomekjakjgfjdaa
