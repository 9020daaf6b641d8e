/- The walk of quoinlaw08.WordSteps: it answers true for every text and every question. -/
import Derived.Test.YtomekjakjgfjdaaAwk
namespace Go.Proofs.Ytomekjakjgfjdaa
open Go.RowKit

/-- a cell below stays -/
theorem keepC {W w1 : World} (hb : Below W.heap.size W w1) {b o : Nat} {v : Value} (h : W.cell? ⟨b, o, none⟩ = some v) : w1.cell? ⟨b, o, none⟩ = some v := by rw [(bcell hb).1 _ _ (lt_of_cell h)]; exact h
set_option maxHeartbeats 1000000 in
theorem steps_no1 (ao : Option Addr) (n c : Nat) (i M C : Int) (s : ByteArray) (w : World) (h1 : M < 1) :
    Calls Try.prog 4 #[.agg #[.slice ao n c, .int .i64 i, .int .i64 M, .int .i64 C, .string s]] w fun e w' => e = .returned (.bool true) ∧ Below w.heap.size w w' := by
  go_enter Try.func4, Try.ntmps4
  go_wp2_with fail
  refine (alive_any _).mono ?_
  rintro e w1 ⟨rfl, hb1⟩
  have c0 : w1.cell? ⟨w.heap.size, 0, none⟩ = some (.slice ao n c) := keepC hb1 (by simp [go_sem])
  have c1 : w1.cell? ⟨w.heap.size, 1, none⟩ = some (.int .i64 i) := keepC hb1 (by simp [go_sem])
  have c2 : w1.cell? ⟨w.heap.size, 2, none⟩ = some (.int .i64 M) := keepC hb1 (by simp [go_sem])
  have c3 : w1.cell? ⟨w.heap.size, 3, none⟩ = some (.int .i64 C) := keepC hb1 (by simp [go_sem])
  have c4 : w1.cell? ⟨w.heap.size, 4, none⟩ = some (.string s) := keepC hb1 (by simp [go_sem])
  have B1 := Hid.mk' (bT (bAlloc (Below.refl _ _) _) hb1)
  have hz1 : w.heap.size < w1.heap.size := by have := hb1.size; simp at this; omega
  clear hb1
  go_wp2_with fail
  refine (keys_any s _).mono ?_
  rintro e w9 ⟨rfl, hw⟩
  have hqq := hw.symm
  subst hqq
  clear hw
  go_wp2
  go_ret
  exact ⟨rfl, B1.out⟩
set_option maxHeartbeats 1000000 in
theorem steps_no2 (ao : Option Addr) (n c : Nat) (i M C : Int) (s : ByteArray) (w : World) (h1 : 1 ≤ M) (h2 : C < 1) :
    Calls Try.prog 4 #[.agg #[.slice ao n c, .int .i64 i, .int .i64 M, .int .i64 C, .string s]] w fun e w' => e = .returned (.bool true) ∧ Below w.heap.size w w' := by
  go_enter Try.func4, Try.ntmps4
  go_wp2_with fail
  refine (alive_any _).mono ?_
  rintro e w1 ⟨rfl, hb1⟩
  have c0 : w1.cell? ⟨w.heap.size, 0, none⟩ = some (.slice ao n c) := keepC hb1 (by simp [go_sem])
  have c1 : w1.cell? ⟨w.heap.size, 1, none⟩ = some (.int .i64 i) := keepC hb1 (by simp [go_sem])
  have c2 : w1.cell? ⟨w.heap.size, 2, none⟩ = some (.int .i64 M) := keepC hb1 (by simp [go_sem])
  have c3 : w1.cell? ⟨w.heap.size, 3, none⟩ = some (.int .i64 C) := keepC hb1 (by simp [go_sem])
  have c4 : w1.cell? ⟨w.heap.size, 4, none⟩ = some (.string s) := keepC hb1 (by simp [go_sem])
  have B1 := Hid.mk' (bT (bAlloc (Below.refl _ _) _) hb1)
  have hz1 : w.heap.size < w1.heap.size := by have := hb1.size; simp at this; omega
  clear hb1
  go_wp2_with fail
  refine (keys_any s _).mono ?_
  rintro e w9 ⟨rfl, hw⟩
  have hqq := hw.symm
  subst hqq
  clear hw
  go_wp2
  go_ret
  exact ⟨rfl, B1.out⟩
set_option maxHeartbeats 1000000 in
theorem steps_no3 (ao : Option Addr) (n c : Nat) (i M C : Int) (s : ByteArray) (w : World) (h1 : 1 ≤ M) (h2 : 1 ≤ C) (h3 : 9999 < M) :
    Calls Try.prog 4 #[.agg #[.slice ao n c, .int .i64 i, .int .i64 M, .int .i64 C, .string s]] w fun e w' => e = .returned (.bool true) ∧ Below w.heap.size w w' := by
  go_enter Try.func4, Try.ntmps4
  go_wp2_with fail
  refine (alive_any _).mono ?_
  rintro e w1 ⟨rfl, hb1⟩
  have c0 : w1.cell? ⟨w.heap.size, 0, none⟩ = some (.slice ao n c) := keepC hb1 (by simp [go_sem])
  have c1 : w1.cell? ⟨w.heap.size, 1, none⟩ = some (.int .i64 i) := keepC hb1 (by simp [go_sem])
  have c2 : w1.cell? ⟨w.heap.size, 2, none⟩ = some (.int .i64 M) := keepC hb1 (by simp [go_sem])
  have c3 : w1.cell? ⟨w.heap.size, 3, none⟩ = some (.int .i64 C) := keepC hb1 (by simp [go_sem])
  have c4 : w1.cell? ⟨w.heap.size, 4, none⟩ = some (.string s) := keepC hb1 (by simp [go_sem])
  have B1 := Hid.mk' (bT (bAlloc (Below.refl _ _) _) hb1)
  have hz1 : w.heap.size < w1.heap.size := by have := hb1.size; simp at this; omega
  clear hb1
  go_wp2_with fail
  refine (keys_any s _).mono ?_
  rintro e w9 ⟨rfl, hw⟩
  have hqq := hw.symm
  subst hqq
  clear hw
  go_wp2
  go_ret
  exact ⟨rfl, B1.out⟩
set_option maxHeartbeats 1000000 in
theorem steps_no4 (ao : Option Addr) (n c : Nat) (i M C : Int) (s : ByteArray) (w : World) (h1 : 1 ≤ M) (h2 : 1 ≤ C) (h3 : M ≤ 9999) (h4 : 9999 - M < C) :
    Calls Try.prog 4 #[.agg #[.slice ao n c, .int .i64 i, .int .i64 M, .int .i64 C, .string s]] w fun e w' => e = .returned (.bool true) ∧ Below w.heap.size w w' := by
  go_enter Try.func4, Try.ntmps4
  go_wp2_with fail
  refine (alive_any _).mono ?_
  rintro e w1 ⟨rfl, hb1⟩
  have c0 : w1.cell? ⟨w.heap.size, 0, none⟩ = some (.slice ao n c) := keepC hb1 (by simp [go_sem])
  have c1 : w1.cell? ⟨w.heap.size, 1, none⟩ = some (.int .i64 i) := keepC hb1 (by simp [go_sem])
  have c2 : w1.cell? ⟨w.heap.size, 2, none⟩ = some (.int .i64 M) := keepC hb1 (by simp [go_sem])
  have c3 : w1.cell? ⟨w.heap.size, 3, none⟩ = some (.int .i64 C) := keepC hb1 (by simp [go_sem])
  have c4 : w1.cell? ⟨w.heap.size, 4, none⟩ = some (.string s) := keepC hb1 (by simp [go_sem])
  have B1 := Hid.mk' (bT (bAlloc (Below.refl _ _) _) hb1)
  have hz1 : w.heap.size < w1.heap.size := by have := hb1.size; simp at this; omega
  clear hb1
  go_wp2_with fail
  refine (keys_any s _).mono ?_
  rintro e w9 ⟨rfl, hw⟩
  have hqq := hw.symm
  subst hqq
  clear hw
  go_wp2
  go_ret
  exact ⟨rfl, B1.out⟩
set_option maxRecDepth 4000 in
set_option maxHeartbeats 2000000 in
theorem steps_yes (ao : Option Addr) (n c : Nat) (i M C : Int) (s : ByteArray) (l : List UInt8) (w : World) (h1 : 1 ≤ M) (h2 : 1 ≤ C) (h3 : M ≤ 9999) (h4 : C ≤ 9999 - M) (HT : Hid (Tx w ao n c l)) :
    Calls Try.prog 4 #[.agg #[.slice ao n c, .int .i64 i, .int .i64 M, .int .i64 C, .string s]] w fun e w' => e = .returned (.bool true) ∧ Below w.heap.size w w' := by
  have HP := Hid.mk' (mv_steps l i M C (kS s) h1 h2 (by omega) (kS_ne s))
  go_enter Try.func4, Try.ntmps4
  go_wp2_with fail
  refine (alive_any _).mono ?_
  rintro e w1 ⟨rfl, hb1⟩
  have c0 : w1.cell? ⟨w.heap.size, 0, none⟩ = some (.slice ao n c) := keepC hb1 (by simp [go_sem])
  have c1 : w1.cell? ⟨w.heap.size, 1, none⟩ = some (.int .i64 i) := keepC hb1 (by simp [go_sem])
  have c2 : w1.cell? ⟨w.heap.size, 2, none⟩ = some (.int .i64 M) := keepC hb1 (by simp [go_sem])
  have c3 : w1.cell? ⟨w.heap.size, 3, none⟩ = some (.int .i64 C) := keepC hb1 (by simp [go_sem])
  have c4 : w1.cell? ⟨w.heap.size, 4, none⟩ = some (.string s) := keepC hb1 (by simp [go_sem])
  have B1 := Hid.mk' (bT (bAlloc (Below.refl _ _) _) hb1)
  have hz1 : w.heap.size < w1.heap.size := by have := hb1.size; simp at this; omega
  clear hb1
  go_wp2_with fail
  refine (keys_any s _).mono ?_
  rintro e w9 ⟨rfl, hw⟩
  have hqq := hw.symm
  subst hqq
  clear hw
  have T1 := Hid.mk' (HT.out.keep B1.out)
  generalize kS s = key at *
  go_wp2_with fail
  refine (move_any ao n c i M l key _ T1).mono ?_
  rintro e w2 ⟨rfl, hb2⟩
  replace c0 := keepC hb2 c0
  replace c1 := keepC hb2 c1
  replace c2 := keepC hb2 c2
  replace c3 := keepC hb2 c3
  have hz2 : w1.heap.size ≤ w2.heap.size := hb2.size
  have hz20 : w.heap.size < w2.heap.size := by omega
  have T2 := Hid.mk' (T1.out.keep hb2)
  have B2 := Hid.mk' (bT B1.out hb2)
  clear hb2 c4 T1 B1 hz1 hz2
  rcases HP.out with ⟨z, hz, e1, e2⟩ | ⟨q, r, K, e1, e2, e3⟩
  · have E2 := Hid.mk' e2
    rw [e1, mvE_def]
    have hz' : (z != 0) = true := by rcases hz with rfl | rfl <;> rfl
    clear e1 e2 hz
    dsimp only
    go_wp2_with fail
    refine (move_any ao n c i (M + C) l key _ (Hid.mk' (T2.out.keep (bAlloc (Below.refl _ _) _)))).mono ?_
    rintro e w3 ⟨rfl, hb3⟩
    have d0 : w3.cell? ⟨w2.heap.size, 0, none⟩ = some (.int .i64 0) := keepC hb3 (by simp [go_sem])
    have d1 : w3.cell? ⟨w2.heap.size, 1, none⟩ = some (.int .i64 0) := keepC hb3 (by simp [go_sem])
    have d2 : w3.cell? ⟨w2.heap.size, 2, none⟩ = some (.int .i64 0) := keepC hb3 (by simp [go_sem])
    have hz3 : w2.heap.size < w3.heap.size := by have := hb3.size; simp at this; omega
    have B3 := Hid.mk' (bT (bAlloc B2.out _) hb3)
    clear hb3 T2 B2 c0 c1 c2 c3
    rw [E2.out, mvE_def]
    dsimp only
    go_wp2
    go_ret
    exact ⟨rfl, bAlloc B3.out _⟩
  · have E2 := Hid.mk' e2
    have E3 := Hid.mk' e3
    rw [e1, mvE_def]
    clear e1 e2 e3
    dsimp only
    go_wp2_with fail
    refine (move_any ao n c q C l key _ (Hid.mk' (T2.out.keep (bAlloc (Below.refl _ _) _)))).mono ?_
    rintro e w3 ⟨rfl, hb3⟩
    have d1 : w3.cell? ⟨w2.heap.size, 1, none⟩ = some (.int .i64 q) := keepC hb3 (by simp [go_sem])
    replace c0 : w3.cell? ⟨w.heap.size, 0, none⟩ = some (.slice ao n c) := keepC hb3 (by simp [go_sem, hz20, c0])
    replace c1 : w3.cell? ⟨w.heap.size, 1, none⟩ = some (.int .i64 i) := keepC hb3 (by simp [go_sem, hz20, c1])
    replace c2 : w3.cell? ⟨w.heap.size, 2, none⟩ = some (.int .i64 M) := keepC hb3 (by simp [go_sem, hz20, c2])
    replace c3 : w3.cell? ⟨w.heap.size, 3, none⟩ = some (.int .i64 C) := keepC hb3 (by simp [go_sem, hz20, c3])
    have hz3 : w2.heap.size < w3.heap.size := by have := hb3.size; simp at this; omega
    have hz30 : w.heap.size < w3.heap.size := by omega
    have T3 := Hid.mk' ((T2.out.keep (bAlloc (Below.refl _ _) _)).keep hb3)
    have B3 := Hid.mk' (bT (bAlloc B2.out _) hb3)
    clear hb3 T2 B2
    obtain ⟨b0, b1, b2, b3, eb, hb⟩ : ∃ b0 b1 b2 b3, mv l q C key = ⟨b0, b1, b2, b3⟩ ∧ ((b1 = (r : Int) ∧ b3 = 0) ∨ (b3 = 70 ∧ (r : Int) = (q : Int))) := by
      rcases E3.out with h | ⟨h, h'⟩
      · exact ⟨_, _, _, _, h, .inl ⟨rfl, rfl⟩⟩
      · exact ⟨_, _, _, _, h, .inr ⟨rfl, by rw [h']⟩⟩
    have HB := Hid.mk' hb
    rw [eb, mvE_def]
    clear eb E3 hb
    dsimp only
    go_wp2_with fail
    refine (move_any ao n c i (M + C) l key _ (Hid.mk' (T3.out.keep (bAlloc (Below.refl _ _) _)))).mono ?_
    rintro e w4 ⟨rfl, hb4⟩
    replace d1 : w4.cell? ⟨w2.heap.size, 1, none⟩ = some (.int .i64 q) := keepC hb4 (by simp [go_sem, hz3, d1])
    have g1 : w4.cell? ⟨w3.heap.size, 1, none⟩ = some (.int .i64 b1) := keepC hb4 (by simp [go_sem])
    have hz4 : w3.heap.size < w4.heap.size := by have := hb4.size; simp at this; omega
    have hz42 : w2.heap.size < w4.heap.size := by omega
    have B4 := Hid.mk' (bT (bAlloc B3.out _) hb4)
    clear hb4 T3 B3 c0 c1 c2 c3
    rw [E2.out, mvE_def]
    dsimp only
    rcases HB.out with ⟨rfl, rfl⟩ | ⟨rfl, hr⟩
    · go_wp2
      go_ret
      exact ⟨by first | rfl | simp, bAlloc B4.out _⟩
    · rw [hr]
      go_wp2
      go_ret
      exact ⟨by first | rfl | simp, bAlloc B4.out _⟩

theorem wordSteps_walk (ao : Option Addr) (n c : Nat) (i M C : Int) (s : ByteArray) (l : List UInt8) (w : World) (HT : Hid (Tx w ao n c l)) :
    Calls Try.prog 4 #[.agg #[.slice ao n c, .int .i64 i, .int .i64 M, .int .i64 C, .string s]] w fun e w' => e = .returned (.bool true) ∧ Below w.heap.size w w' := by
  by_cases h1 : M < 1
  · exact steps_no1 ao n c i M C s w h1
  · by_cases h2 : C < 1
    · exact steps_no2 ao n c i M C s w (by omega) h2
    · by_cases h3 : 9999 < M
      · exact steps_no3 ao n c i M C s w (by omega) (by omega) h3
      · by_cases h4 : 9999 - M < C
        · exact steps_no4 ao n c i M C s w (by omega) (by omega) (by omega) h4
        · exact steps_yes ao n c i M C s l w (by omega) (by omega) (by omega) (by omega) HT
end Go.Proofs.Ytomekjakjgfjdaa
