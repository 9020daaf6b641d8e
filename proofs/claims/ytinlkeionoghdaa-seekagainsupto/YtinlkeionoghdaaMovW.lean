/- SeekMoves and SeekAgains walked. -/
import Derived.Test.YtinlkeionoghdaaRf
import Derived.Test.YtinlkeionoghdaaOnW
namespace Go.Proofs.Ytinlkeionoghdaa
open Go.RowKit

set_option maxHeartbeats 2000000 in
theorem seekMoves_walk (ao : Option Addr) (n c : Nat) (i cnt key b : Int) (t : Bool) (l : List UInt8) (w : World) (hn : n ≤ 1048576) (HT : Hid (Tx w ao n c l)) :
    Calls Try.prog 3 #[.agg #[.slice ao n c, .int .i64 i, .int .i64 cnt, .int .u8 key, .int .u8 b, .bool t]] w fun e w' => e = .returned (.bool true) ∧ Below w.heap.size w w' := by
  obtain ⟨M, hM⟩ : ∃ M, M = mv l i cnt key b := ⟨_, rfl⟩
  have HM := Hid.mk' hM.symm
  clear hM
  obtain ⟨x0, x1, x2, x3⟩ := M
  go_enter Try.func3, Try.ntmps3
  go_wp2_with fail
  refine (awake_any _).mono ?_
  rintro e w1 ⟨rfl, hb1⟩
  have c0 : w1.cell? ⟨w.heap.size, 0, none⟩ = some (.slice ao n c) := keepC hb1 (by simp [go_sem])
  have c1 : w1.cell? ⟨w.heap.size, 1, none⟩ = some (.int .i64 i) := keepC hb1 (by simp [go_sem])
  have c2 : w1.cell? ⟨w.heap.size, 2, none⟩ = some (.int .i64 cnt) := keepC hb1 (by simp [go_sem])
  have c3 : w1.cell? ⟨w.heap.size, 3, none⟩ = some (.int .u8 key) := keepC hb1 (by simp [go_sem])
  have c4 : w1.cell? ⟨w.heap.size, 4, none⟩ = some (.int .u8 b) := keepC hb1 (by simp [go_sem])
  have c5 : w1.cell? ⟨w.heap.size, 5, none⟩ = some (.bool t) := keepC hb1 (by simp [go_sem])
  have B1 := Hid.mk' (bT (bAlloc (Below.refl _ _) _) hb1)
  clear hb1
  go_wp2_with fail
  refine (r10_any ao n c i cnt key b l _ hn (Hid.mk' (HT.out.keep B1.out))).mono ?_
  rintro e w2 ⟨rfl, hb2⟩
  rw [HM.out, mvE_def]
  dsimp only
  replace c0 := keepC hb2 c0
  replace c1 := keepC hb2 c1
  replace c2 := keepC hb2 c2
  replace c3 := keepC hb2 c3
  replace c4 := keepC hb2 c4
  replace c5 := keepC hb2 c5
  replace B1 := Hid.mk' (bT B1.out hb2)
  clear hb2
  have bb : Below w2.heap.size w2 (w2.alloc (.cells #[.int .i64 x0, .int .i64 x1, .int .i64 x2] 29)) := bAlloc (Below.refl _ _) _
  replace c0 := keepC bb c0
  replace c1 := keepC bb c1
  replace c2 := keepC bb c2
  replace c3 := keepC bb c3
  replace c4 := keepC bb c4
  replace c5 := keepC bb c5
  have d0 : (w2.alloc (.cells #[.int .i64 x0, .int .i64 x1, .int .i64 x2] 29)).cell? ⟨w2.heap.size, 0, none⟩ = some (.int .i64 x0) := by simp [go_sem]
  have d1 : (w2.alloc (.cells #[.int .i64 x0, .int .i64 x1, .int .i64 x2] 29)).cell? ⟨w2.heap.size, 1, none⟩ = some (.int .i64 x1) := by simp [go_sem]
  have d2 : (w2.alloc (.cells #[.int .i64 x0, .int .i64 x1, .int .i64 x2] 29)).cell? ⟨w2.heap.size, 2, none⟩ = some (.int .i64 x2) := by simp [go_sem]
  replace B1 := Hid.mk' (bT B1.out bb)
  clear bb
  go_upto_region 4 with fail
  generalize w2.alloc (.cells #[.int .i64 x0, .int .i64 x1, .int .i64 x2] 29) = W2 at *
  go_wp2_with fail
  refine (move_any ao n c i cnt key b l _ (Hid.mk' (HT.out.keep B1.out))).mono ?_
  rintro e w3 ⟨rfl, hb3⟩
  rw [HM.out, mvE_def]
  dsimp only
  replace d0 := keepC hb3 d0
  replace d1 := keepC hb3 d1
  replace d2 := keepC hb3 d2
  have hz := lt_of_cell d0
  replace B1 := Hid.mk' (bT B1.out hb3)
  clear hb3 c0 c1 c2 c3 c4 c5
  go_wp2
  go_ret
  exact ⟨rfl, bAlloc B1.out _⟩

/-- the text of the law's own question -/
def T3 : List UInt8 := [97, 120, 120]
theorem t3_tx (w : World) (m : Nat × Nat) : Tx (w.alloc (.cells #[.int .u8 97, .int .u8 120, .int .u8 120] 5 m)) (some ⟨w.heap.size, 0, none⟩) 3 3 T3 := by
  refine ⟨rfl, Nat.le_refl _, by omega, (fun h => by cases h), fun a ha j hj => ?_⟩
  obtain rfl : (⟨w.heap.size, 0, none⟩ : Addr) = a := by simpa using ha
  rw [add_none, Nat.zero_add, World.cell?_alloc_mark]
  have : j = 0 ∨ j = 1 ∨ j = 2 := by omega
  rcases this with rfl | rfl | rfl <;> rfl
theorem t3a : ag T3 0 1 116 120 false = ⟨0, 1, 2, 0⟩ := by
  have h : okB T3 0 1 = true := by decide +kernel
  have hh : hit T3 120 0 1 1 2 = some 2 := by decide +kernel
  unfold ag
  rw [h, if_pos rfl, if_neg (by decide), if_neg (by decide)]
  exact congrArg (res 0 2) hh
set_option maxHeartbeats 2000000 in
theorem seekAgains_walk (ao : Option Addr) (n c : Nat) (i cnt key b : Int) (t : Bool) (l : List UInt8) (w : World) (hn : n ≤ 1048576) (HT : Hid (Tx w ao n c l)) :
    Calls Try.prog 4 #[.agg #[.slice ao n c, .int .i64 i, .int .i64 cnt, .int .u8 key, .int .u8 b, .bool t]] w fun e w' => e = .returned (.bool true) ∧ Below w.heap.size w w' := by
  obtain ⟨M, hM⟩ : ∃ M, M = ag l i cnt key b t := ⟨_, rfl⟩
  have HM := Hid.mk' hM.symm
  clear hM
  obtain ⟨x0, x1, x2, x3⟩ := M
  have H3 : Hid (∀ (x : Obj) (m : Nat × Nat), Hid (Tx ((w.alloc x).alloc (.cells #[.int .u8 97, .int .u8 120, .int .u8 120] 5 m)) (some ⟨w.heap.size + 1, 0, none⟩) 3 3 T3)) := fun x m => by unfold Hid; have := t3_tx (w.alloc x) m; simpa using this
  have A3 := Hid.mk' t3a
  have kc := fun (x : Obj) (C : Array Value) (n c : Nat) => Lib.run_convert_bytes_const (P := Try.prog) (w.alloc x) 22 5 C n c Try.underlying22 Try.underlying5
  simp only [World.size_alloc] at kc
  go_enter Try.func4, Try.ntmps4
  go_wp2_with fail
  refine (again_any _ _ _ 0 1 116 120 false T3 _ (H3.out _ _)).mono ?_
  rintro e w1 ⟨rfl, hb1⟩
  rw [A3.out, mvE_def]
  dsimp only
  clear kc
  have c0 : w1.cell? ⟨w.heap.size, 0, none⟩ = some (.slice ao n c) := keepC hb1 (by simp [go_sem])
  have c1 : w1.cell? ⟨w.heap.size, 1, none⟩ = some (.int .i64 i) := keepC hb1 (by simp [go_sem])
  have c2 : w1.cell? ⟨w.heap.size, 2, none⟩ = some (.int .i64 cnt) := keepC hb1 (by simp [go_sem])
  have c3 : w1.cell? ⟨w.heap.size, 3, none⟩ = some (.int .u8 key) := keepC hb1 (by simp [go_sem])
  have c4 : w1.cell? ⟨w.heap.size, 4, none⟩ = some (.int .u8 b) := keepC hb1 (by simp [go_sem])
  have c5 : w1.cell? ⟨w.heap.size, 5, none⟩ = some (.bool t) := keepC hb1 (by simp [go_sem])
  have B1 := Hid.mk' (bT (bAlloc (bAlloc (Below.refl _ _) _) _) hb1)
  clear hb1
  have bb : Below w1.heap.size w1 (w1.alloc (.cells #[.int .i64 0, .int .i64 1, .int .i64 2] 29)) := bAlloc (Below.refl _ _) _
  replace c0 := keepC bb c0
  replace c1 := keepC bb c1
  replace c2 := keepC bb c2
  replace c3 := keepC bb c3
  replace c4 := keepC bb c4
  replace c5 := keepC bb c5
  have d1 : (w1.alloc (.cells #[.int .i64 0, .int .i64 1, .int .i64 2] 29)).cell? ⟨w1.heap.size, 1, none⟩ = some (.int .i64 1) := by simp [go_sem]
  have d0 : (w1.alloc (.cells #[.int .i64 0, .int .i64 1, .int .i64 2] 29)).cell? ⟨w1.heap.size, 0, none⟩ = some (.int .i64 0) := by simp [go_sem]
  have d2 : (w1.alloc (.cells #[.int .i64 0, .int .i64 1, .int .i64 2] 29)).cell? ⟨w1.heap.size, 2, none⟩ = some (.int .i64 2) := by simp [go_sem]
  have fz : ∀ o, (w1.alloc (.cells #[.int .i64 0, .int .i64 1, .int .i64 2] 29)).frozen? ⟨w1.heap.size, o, none⟩ = false := fun o => by simp [go_sem]
  replace B1 := Hid.mk' (bT B1.out bb)
  have hB0 := B1.out.size
  have hw1z : w.heap.size ≤ w1.heap.size := by have := lt_of_cell c0; have := bb.size; simp at *; omega
  clear bb
  go_upto_region 2 with fail
  generalize w1.alloc (.cells #[.int .i64 0, .int .i64 1, .int .i64 2] 29) = W1 at *
  have hz1 := lt_of_cell d1
  go_wp2_with fail
  refine (r13_any ao n c i cnt key b t l _ hn (Hid.mk' (HT.out.keep B1.out))).mono ?_
  rintro e w2 ⟨rfl, hb2⟩
  rw [HM.out, mvE_def]
  dsimp only
  replace c0 := keepC hb2 c0
  replace c1 := keepC hb2 c1
  replace c2 := keepC hb2 c2
  replace c3 := keepC hb2 c3
  replace c4 := keepC hb2 c4
  replace c5 := keepC hb2 c5
  replace d0 := keepC hb2 d0
  replace d1 := keepC hb2 d1
  replace d2 := keepC hb2 d2
  replace fz := fun o => ((bcell hb2).2 _ o hz1).trans (fz o)
  replace B1 := Hid.mk' (bT B1.out hb2)
  clear hb2 hz1
  have hz1 := lt_of_cell d1
  have bb : Below w2.heap.size w2 (w2.alloc (.cells #[.int .i64 x0, .int .i64 x1, .int .i64 x2] 29)) := bAlloc (Below.refl _ _) _
  replace c0 := keepC bb c0
  replace c1 := keepC bb c1
  replace c2 := keepC bb c2
  replace c3 := keepC bb c3
  replace c4 := keepC bb c4
  replace c5 := keepC bb c5
  replace d0 := keepC bb d0
  replace d1 := keepC bb d1
  replace d2 := keepC bb d2
  replace fz := fun o => ((bcell bb).2 _ o hz1).trans (fz o)
  have f0 : (w2.alloc (.cells #[.int .i64 x0, .int .i64 x1, .int .i64 x2] 29)).cell? ⟨w2.heap.size, 0, none⟩ = some (.int .i64 x0) := by simp [go_sem]
  have f1 : (w2.alloc (.cells #[.int .i64 x0, .int .i64 x1, .int .i64 x2] 29)).cell? ⟨w2.heap.size, 1, none⟩ = some (.int .i64 x1) := by simp [go_sem]
  have f2 : (w2.alloc (.cells #[.int .i64 x0, .int .i64 x1, .int .i64 x2] 29)).cell? ⟨w2.heap.size, 2, none⟩ = some (.int .i64 x2) := by simp [go_sem]
  replace B1 := Hid.mk' (bT B1.out bb)
  clear bb
  have hz1p : w1.heap.size < w2.heap.size := hz1
  have hne : w1.heap.size ≠ w2.heap.size := by omega
  have hne' : w2.heap.size ≠ w1.heap.size := by omega
  go_upto_region 5 with fail
  generalize w2.alloc (.cells #[.int .i64 x0, .int .i64 x1, .int .i64 x2] 29) = W2 at *
  replace hz1 := lt_of_cell d1
  go_wp2_with fail
  refine (again_any ao n c i cnt key b t l _ (Hid.mk' (HT.out.keep B1.out))).mono ?_
  rintro e w3 ⟨rfl, hb3⟩
  rw [HM.out, mvE_def]
  dsimp only
  replace d0 := keepC hb3 d0
  replace d1 := keepC hb3 d1
  replace d2 := keepC hb3 d2
  replace f0 := keepC hb3 f0
  replace f1 := keepC hb3 f1
  replace f2 := keepC hb3 f2
  replace fz := fun o => ((bcell hb3).2 _ o hz1).trans (fz o)
  replace hz1 := lt_of_cell d1
  have hz2 := lt_of_cell f1
  replace B1 := Hid.mk' (bT B1.out hb3)
  clear hb3 c0 c1 c2 c3 c4 c5
  go_wp2
  go_ret
  exact ⟨rfl, bset (bset (bset B1.out _ hw1z) _ hw1z) _ hw1z⟩
end Go.Proofs.Ytinlkeionoghdaa
