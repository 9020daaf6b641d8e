/- The contracts of readKid, readNode and Check. -/
import Derived.Test.YtpifjghhlcjedaaRead
namespace Go.Proofs.Ytpifjghhlcjedaa
open Go.RowKit

/-- The rows of L lie one behind the other in block b of W, from the cell off on. -/
def RowR (W : World) (b off : Nat) (L : List Rw) : Prop :=
  ∀ j x, L[j]? = some x → W.cell? ⟨b, off + j * 10, none⟩ = some (.int .i64 x.p.s) ∧ W.cell? ⟨b, off + j * 10 + 1, none⟩ = some (.int .i64 x.p.o) ∧ W.cell? ⟨b, off + j * 10 + 2, none⟩ = some (.int .i64 x.p.l) ∧ W.cell? ⟨b, off + j * 10 + 3, none⟩ = some (.int .i64 x.p.n) ∧ W.cell? ⟨b, off + j * 10 + 4, none⟩ = some (.bool x.red) ∧ W.cell? ⟨b, off + j * 10 + 5, none⟩ = some (.bool x.left) ∧ W.cell? ⟨b, off + j * 10 + 6, none⟩ = some (.bool x.right) ∧ W.cell? ⟨b, off + j * 10 + 7, none⟩ = some (.int .i64 x.cnt) ∧ W.cell? ⟨b, off + j * 10 + 8, none⟩ = some (.int .i64 x.byt) ∧ W.cell? ⟨b, off + j * 10 + 9, none⟩ = some (.int .i64 x.lin)
theorem RowR.keep {w w' : World} {b off : Nat} {L : List Rw} (h : RowR w b off L) (hb : Below w.heap.size w w') : RowR w' b off L := by
  intro j p hj
  obtain ⟨h0, h1, h2, h3, h4, h5, h6, h7, h8, h9⟩ := h j p hj
  have lt := cell_lt h0
  refine ⟨?_, ?_, ?_, ?_, ?_, ?_, ?_, ?_, ?_, ?_⟩ <;> (rw [hb.cell lt]; assumption)
theorem RowR.drop {w : World} {b off : Nat} {L : List Rw} (h : RowR w b off L) (m : Nat) : RowR w b (off + m * 10) (L.drop m) := by
  intro j p hj
  rw [List.getElem?_drop] at hj
  have := h (m + j) p hj
  rw [show off + (m + j) * 10 = off + m * 10 + j * 10 from by omega] at this
  exact this

/-- A list value whose rows are L. -/
def Rdr (W : World) (v : Value) (L : List Rw) : Prop := ∃ ao n c, v = .slice ao n c ∧ n = L.length ∧ n ≤ c ∧ (L = [] ∨ ∃ b off, ao = some ⟨b, off, none⟩ ∧ RowR W b off L)
theorem Rdr.keep {w w' : World} {v : Value} {L : List Rw} (h : Rdr w v L) (hb : Below w.heap.size w w') : Rdr w' v L := by
  obtain ⟨ao, n, c, h1, h2, h3, h4⟩ := h
  refine ⟨ao, n, c, h1, h2, h3, ?_⟩
  rcases h4 with h4 | ⟨b, off, h5, h6⟩
  · exact .inl h4
  · exact .inr ⟨b, off, h5, h6.keep hb⟩

/-- What reading gives. -/
def RdGave (w : World) : Option (Tr × List Rw) → Ending → World → Prop
  | none, e, w' => (∃ v1 v2, e = .returned (.tuple #[v1, v2, .bool false])) ∧ Below w.heap.size w w'
  | some (t, rest), e, w' => (∃ a ao n c, e = .returned (.tuple #[.pointer a, .slice ao n c, .bool true]) ∧ At w' t a ∧ Rdr w' (.slice ao n c) rest) ∧ Below w.heap.size w w'

set_option maxHeartbeats 400000 in
theorem readNode_nil (ao : Option Addr) (c : Nat) (h : Int) (w : World) : Calls Try.prog 74 #[.slice ao 0 c, .int .i64 h] w fun e w' => RdGave w none e w' := by
  go_enter Try.func74, Try.ntmps74
  go_wp2
  go_ret3
  exact ⟨⟨_, _, rfl⟩, Below.refl _ _⟩
set_option maxHeartbeats 400000 in
theorem readNode_zero (ao : Option Addr) (n c : Nat) (w : World) (hn : ((n : Int) == 0) = false) : Calls Try.prog 74 #[.slice ao n c, .int .i64 0] w fun e w' => RdGave w none e w' := by
  go_enter Try.func74, Try.ntmps74
  go_wp2
  go_ret3
  exact ⟨⟨_, _, rfl⟩, Below.refl _ _⟩
set_option maxHeartbeats 400000 in
theorem readNode_unfit (b off n c : Nat) (h : Nat) (ps po pl pn : Int) (w : World) (hn : ((n : Int) == 0) = false) (hnp : (0 : Int) < (n : Int)) (hf : fitB pl pn = false)
    (r0 : w.cell? ⟨b, off, none⟩ = some (.int .i64 ps)) (r1 : w.cell? ⟨b, off + 1, none⟩ = some (.int .i64 po)) (r2 : w.cell? ⟨b, off + 2, none⟩ = some (.int .i64 pl)) (r3 : w.cell? ⟨b, off + 3, none⟩ = some (.int .i64 pn)) :
    Calls Try.prog 74 #[.slice (some ⟨b, off, none⟩) n c, .int .i64 ((h + 1 : Nat) : Int)] w fun e w' => RdGave w none e w' := by
  go_enter Try.func74, Try.ntmps74
  go_wp2_with (go_at_call 53; refine (fit_any ps po pl pn _).mono ?_; rw [hf]; rintro e w' ⟨rfl, rfl⟩)
  go_ret3
  exact ⟨⟨_, _, rfl⟩, bAlloc (Below.refl _ _) _⟩

theorem balanced_drewN (c : Bool) (l : Tr) (s o n k : Int) (r : Tr) (a : Option Addr) (w : World) (i : Nat) (h : At w ((Tr.mk (some (c, l, ⟨s, o, n, k⟩, r)))) a) :
    Calls Try.prog 102 #[.pointer a] (w.drewN i) fun e w' => e = .returned (.bool (balB c l r)) ∧ ∃ m, w' = (w.drewN i).drewN m :=
  balanced_any c l s o n k r a _ (h.keep (below_drewN' _ _))

end Go.Proofs.Ytpifjghhlcjedaa
