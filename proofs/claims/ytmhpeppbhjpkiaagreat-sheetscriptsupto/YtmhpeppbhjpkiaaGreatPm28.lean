/- Rows that are read (out of Check). -/
import Derived.Test.YtmhpeppbhjpkiaaGreatPm23
namespace Go.Proofs.YtmhpeppbhjpkiaaGreat
open Go.RowKit

/-- The rows of L lie one behind the other in block b of W, from the cell off on. -/
def RowR (W : World) (b off : Nat) (L : List Rw) : Prop :=
  ∀ j x, L[j]? = some x → W.cell? ⟨b, off + j * 10, none⟩ = some (.int .i64 x.p.s) ∧ W.cell? ⟨b, off + j * 10 + 1, none⟩ = some (.int .i64 x.p.o) ∧ W.cell? ⟨b, off + j * 10 + 2, none⟩ = some (.int .i64 x.p.l) ∧ W.cell? ⟨b, off + j * 10 + 3, none⟩ = some (.int .i64 x.p.n) ∧ W.cell? ⟨b, off + j * 10 + 4, none⟩ = some (.bool x.red) ∧ W.cell? ⟨b, off + j * 10 + 5, none⟩ = some (.bool x.left) ∧ W.cell? ⟨b, off + j * 10 + 6, none⟩ = some (.bool x.right) ∧ W.cell? ⟨b, off + j * 10 + 7, none⟩ = some (.int .i64 x.cnt) ∧ W.cell? ⟨b, off + j * 10 + 8, none⟩ = some (.int .i64 x.byt) ∧ W.cell? ⟨b, off + j * 10 + 9, none⟩ = some (.int .i64 x.lin)
theorem RowR.keep {w w' : World} {b off : Nat} {L : List Rw} (h : RowR w b off L) (hb : Below w.heap.size w w') : RowR w' b off L := by
  intro j p hj
  obtain ⟨h0, h1, h2, h3, h4, h5, h6, h7, h8, h9⟩ := h j p hj
  have lt := cell_lt h0
  refine ⟨?_, ?_, ?_, ?_, ?_, ?_, ?_, ?_, ?_, ?_⟩ <;> (rw [hb.cell lt]; assumption)
theorem RowR.drop {w : World} {b off : Nat} {L : List Rw} (h : RowR w b off L) (m : Nat) : RowR w b (off + m * 10) (L.drop m) := by
  intro j p hj
  rw [List.getElem?_drop] at hj
  have := h (m + j) p hj
  rw [show off + (m + j) * 10 = off + m * 10 + j * 10 from by omega] at this
  exact this

/-- A list value whose rows are L. -/
def Rdr (W : World) (v : Value) (L : List Rw) : Prop := ∃ ao n c, v = .slice ao n c ∧ n = L.length ∧ n ≤ c ∧ (L = [] ∨ ∃ b off, ao = some ⟨b, off, none⟩ ∧ RowR W b off L)
theorem Rdr.keep {w w' : World} {v : Value} {L : List Rw} (h : Rdr w v L) (hb : Below w.heap.size w w') : Rdr w' v L := by
  obtain ⟨ao, n, c, h1, h2, h3, h4⟩ := h
  refine ⟨ao, n, c, h1, h2, h3, ?_⟩
  rcases h4 with h4 | ⟨b, off, h5, h6⟩
  · exact .inl h4
  · exact .inr ⟨b, off, h5, h6.keep hb⟩

end Go.Proofs.YtmhpeppbhjpkiaaGreat

