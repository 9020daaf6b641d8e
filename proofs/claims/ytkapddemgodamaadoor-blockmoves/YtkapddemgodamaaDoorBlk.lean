/- A block of cells in memory. -/
import Derived.Test.YtkapddemgodamaaDoorMot
namespace Go.Proofs.YtkapddemgodamaaDoor
open Go.RowKit
def Blk (W : World) (B : Nat) (e : Nat) (cs : Array Value) : Prop := W.heap[B]? = some (.cells cs e (0, 0))
theorem Blk.cell {W : World} {B e j : Nat} {cs : Array Value} {v : Value} (h : Blk W B e cs) (hj : cs[j]? = some v) : W.cell? ⟨B, j, none⟩ = some v := by
  rw [cell_of_row W B j cs e (0, 0) h]; exact hj
theorem Blk.frozen {W : World} {B e : Nat} {cs : Array Value} (h : Blk W B e cs) (j : Nat) : W.frozen? ⟨B, j, none⟩ = false := frozen_of_row W B j cs e h
theorem Blk.lt {W : World} {B e : Nat} {cs : Array Value} (h : Blk W B e cs) : B < W.heap.size := (Array.getElem?_eq_some_iff.1 h).1
theorem Blk.keep {W W' : World} {B e : Nat} {cs : Array Value} (h : Blk W B e cs) (hb : Below W.heap.size W W') : Blk W' B e cs := by unfold Blk; rw [hb.block B h.lt]; exact h
theorem Blk.new (W : World) (e : Nat) (cs : Array Value) : Blk (W.alloc (.cells cs e)) W.heap.size e cs := heap_alloc_new W _
theorem Blk.set {W : World} {B e j : Nat} {cs : Array Value} (h : Blk W B e cs) (v : Value) : Blk (W.setCell ⟨B, j, none⟩ v) B e (cs.setIfInBounds j v) := heap_setCell_same _ _ _ _ _ _ h
theorem Blk.off {W : World} {B B' e j : Nat} {cs : Array Value} (h : Blk W B' e cs) (hne : B' ≠ B) (v : Value) : Blk (W.setCell ⟨B, j, none⟩ v) B' e cs := by
  unfold Blk; rw [heap_setCell_other _ _ _ _ hne]; exact h
/-- the three numbers of a target, stored -/
def put3 (W : World) (B : Nat) (a0 a1 a2 : Value) : World := ((W.setCell ⟨B, 0, none⟩ a0).setCell ⟨B, 1, none⟩ a1).setCell ⟨B, 2, none⟩ a2
theorem put3_below {a W : World} {n B : Nat} (h : Below n a W) (hb : n ≤ B) (a0 a1 a2 : Value) : Below n a (put3 W B a0 a1 a2) := ((h.setCell hb a0).setCell hb a1).setCell hb a2
theorem Blk.put3 {W : World} {B e : Nat} {x0 x1 x2 : Value} (h : Blk W B e #[x0, x1, x2]) (a0 a1 a2 : Value) : Blk (put3 W B a0 a1 a2) B e #[a0, a1, a2] := ((h.set a0).set a1).set a2
end Go.Proofs.YtkapddemgodamaaDoor
