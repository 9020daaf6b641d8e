/- The contract of quoinlaw09's awake, and SeekOn walked. -/
import Derived.Test.YtinlkeionoghdaaFa
import Derived.Lib.SlBytesConst
namespace Go.Proofs.Ytinlkeionoghdaa
open Go.RowKit

/-- the text of the document's examples -/
def T9 : List UInt8 := [97, 98, 99, 97, 98, 99]
theorem t9_tx (w : World) (m : Nat × Nat) : Tx (w.alloc (.cells #[.int .u8 97, .int .u8 98, .int .u8 99, .int .u8 97, .int .u8 98, .int .u8 99] 5 m)) (some ⟨w.heap.size, 0, none⟩) 6 6 T9 := by
  refine ⟨rfl, Nat.le_refl _, by omega, (fun h => by cases h), fun a ha j hj => ?_⟩
  obtain rfl : (⟨w.heap.size, 0, none⟩ : Addr) = a := by simpa using ha
  rw [add_none, Nat.zero_add, World.cell?_alloc_mark]
  have : j = 0 ∨ j = 1 ∨ j = 2 ∨ j = 3 ∨ j = 4 ∨ j = 5 := by omega
  rcases this with rfl | rfl | rfl | rfl | rfl | rfl <;> rfl
theorem t9a : mv T9 0 2 102 99 = ⟨0, 5, 2, 0⟩ := by
  have h : okB T9 0 2 = true := by decide +kernel
  have hh : hit T9 99 0 2 0 1 = some 5 := by decide +kernel
  unfold mv
  rw [h, if_pos rfl, if_neg (by decide)]
  exact congrArg (res 0 1) hh
set_option maxRecDepth 4000 in
set_option maxHeartbeats 2000000 in
theorem awake_any (w : World) : Calls Try.prog 9 #[] w fun e w' => e = .returned (.bool true) ∧ Below w.heap.size w w' := by
  have HT := Hid.mk' (t9_tx w)
  have kc := fun (w : World) (C : Array Value) (n c : Nat) => Lib.run_convert_bytes_const (P := Try.prog) w 22 5 C n c Try.underlying22 Try.underlying5
  have A1 := Hid.mk' t9a
  go_enter Try.func9, Try.ntmps9
  go_wp2_with fail
  refine (move_any _ _ _ 0 2 102 99 T9 _ (HT.out _)).mono ?_
  rintro e w1 ⟨rfl, hb1⟩
  rw [A1.out, mvE_def]
  have B1 := Hid.mk' (bT (bAlloc (Below.refl _ _) _) hb1)
  clear hb1 HT
  dsimp only
  go_wp2
  go_ret
  exact ⟨rfl, bAlloc B1.out _⟩

set_option maxHeartbeats 2000000 in
theorem seekOn_walk (ao : Option Addr) (n c : Nat) (i cnt key b : Int) (t : Bool) (l : List UInt8) (w : World) (HT : Hid (Tx w ao n c l)) :
    Calls Try.prog 7 #[.agg #[.slice ao n c, .int .i64 i, .int .i64 cnt, .int .u8 key, .int .u8 b, .bool t]] w fun e w' => e = .returned (.bool true) ∧ Below w.heap.size w w' := by
  go_enter Try.func7, Try.ntmps7
  go_wp2_with fail
  refine (awake_any _).mono ?_
  rintro e w1 ⟨rfl, hb1⟩
  have c0 : w1.cell? ⟨w.heap.size, 0, none⟩ = some (.slice ao n c) := keepC hb1 (by simp [go_sem])
  have c1 : w1.cell? ⟨w.heap.size, 1, none⟩ = some (.int .i64 i) := keepC hb1 (by simp [go_sem])
  have c2 : w1.cell? ⟨w.heap.size, 2, none⟩ = some (.int .i64 cnt) := keepC hb1 (by simp [go_sem])
  have c3 : w1.cell? ⟨w.heap.size, 3, none⟩ = some (.int .u8 key) := keepC hb1 (by simp [go_sem])
  have c4 : w1.cell? ⟨w.heap.size, 4, none⟩ = some (.int .u8 b) := keepC hb1 (by simp [go_sem])
  have c5 : w1.cell? ⟨w.heap.size, 5, none⟩ = some (.bool t) := keepC hb1 (by simp [go_sem])
  have B1 := Hid.mk' (bT (bAlloc (Below.refl _ _) _) hb1)
  clear hb1
  go_wp2_with fail
  refine (again_any ao n c i cnt key b t l _ (Hid.mk' (HT.out.keep B1.out))).mono ?_
  rintro e w2 ⟨rfl, hb2⟩
  have B2 := Hid.mk' (bT B1.out hb2)
  replace c1 := keepC hb2 c1
  replace c3 := keepC hb2 c3
  replace c5 := keepC hb2 c5
  have hz := lt_of_cell c1
  clear c0 c2 c4 hb2 B1
  rcases on_cases l i cnt key b t with ⟨z, hz', e1⟩ | ⟨ha, x, y, hy, e1⟩ | ⟨ha, x, y, hy, e1⟩
  · rw [e1, mvE_def]
    have hz1 : (z != 0) = true := by rcases hz' with rfl | rfl <;> rfl
    clear e1 hz'
    dsimp only
    go_wp2
    go_ret
    exact ⟨rfl, bAlloc B2.out _⟩
  · rw [e1, mvE_def]
    clear e1
    dsimp only
    by_cases h1 : key = 102
    · subst h1
      have ht : t = false := by cases t; rfl; exact absurd ha (by decide)
      subst ht
      go_wp2
      go_ret
      exact ⟨rfl, bAlloc B2.out _⟩
    · have h1' : (key == 102) = false := beq_false_of_ne h1
      rw [h1', Bool.false_or] at ha
      clear h1
      by_cases h2 : key = 116
      · subst h2
        have ht : t = false := by cases t <;> first | rfl | exact absurd ha (by decide)
        subst ht
        go_wp2
        go_ret
        exact ⟨rfl, bAlloc B2.out _⟩
      · have h2' : (key == 116) = false := beq_false_of_ne h2
        rw [h2'] at ha
        have ht : t = true := by cases t <;> first | rfl | exact absurd ha (by decide)
        subst ht
        clear h2 ha
        go_wp2
        go_ret
        exact ⟨rfl, bAlloc B2.out _⟩
  · rw [e1, mvE_def]
    clear e1
    dsimp only
    by_cases h1 : key = 102
    · subst h1
      have ht : t = true := by cases t; exact absurd ha (by decide); rfl
      subst ht
      go_wp2
      go_ret
      exact ⟨rfl, bAlloc B2.out _⟩
    · have h1' : (key == 102) = false := beq_false_of_ne h1
      rw [h1', Bool.false_or] at ha
      clear h1
      by_cases h2 : key = 116
      · subst h2
        have ht : t = true := by cases t <;> first | rfl | exact absurd ha (by decide)
        subst ht
        go_wp2
        go_ret
        exact ⟨rfl, bAlloc B2.out _⟩
      · have h2' : (key == 116) = false := beq_false_of_ne h2
        rw [h2'] at ha
        have ht : t = false := by cases t <;> first | rfl | exact absurd ha (by decide)
        subst ht
        clear h2 ha
        go_wp2
        go_ret
        exact ⟨rfl, bAlloc B2.out _⟩
end Go.Proofs.Ytinlkeionoghdaa
