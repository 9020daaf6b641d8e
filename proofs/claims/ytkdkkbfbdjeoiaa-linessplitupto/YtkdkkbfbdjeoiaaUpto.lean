/- How a list of bytes lies in memory where what comes in is small. -/
import Derived.Test.YtkdkkbfbdjeoiaaOpen
import Derived.JoinedCond
namespace Go.Proofs.Ytkdkkbfbdjeoiaa
open Go.ChangeShapes Go.WideShapes Go.ChangeAt Go.RowKit Go.Joins

theorem bulk_one {H : Type} (d : DataW H) : 1 ≤ Rows.uptoBulk d := by
  cases d with
  | lit l => cases l <;> simp [Rows.uptoBulk]
  | _ => simp [Rows.uptoBulk]
theorem bulk_len {H : Type} : ∀ l : List (DataW H), l.length ≤ Rows.uptoBulkAll l
  | [] => Nat.zero_le _
  | x :: r => by have h1 := bulk_one x; have h2 := bulk_len r; simp only [Rows.uptoBulkAll, List.length_cons]; omega

/-- what an argument of type []byte is to the walk -/
theorem openU {H : Type} {enc : TypeId × Value → H} {W : World} {v : Value} {d : DataW H} {p : List MemPlace} (h : DataW.Trod enc Try.prog W 0 (fun _ => true) true 22 v d p) (hv : ∃ a len cap, v = .slice a len cap)
    (hk : Rows.uptoBulk d ≤ 1048576) : ∃ ao n c l, v = .slice ao n c ∧ Tx W ao n c l ∧ n ≤ 1048576 := by
  obtain ⟨a, len, cap, rfl⟩ := hv
  obtain ⟨fuel, hf⟩ := h
  rcases open_ints Try.underlying22 Try.underlying5 cells5 hf with ⟨hcs, _⟩ | ⟨x, l, c, zs, hcs, _, hl, hm, hz, hx, hcell, hwz⟩
  · simp [Value.cells] at hcs
    obtain ⟨rfl, rfl, rfl⟩ := hcs
    exact ⟨none, 0, 0, [], rfl, tx_nil W, by omega⟩
  · simp [Value.cells] at hcs
    obtain ⟨rfl, rfl, rfl⟩ := hcs
    simp only [if_true] at hz
    simp only [Prod.mk.injEq] at hx
    obtain ⟨rfl, -⟩ := hx
    have h2 := bulk_len (lits (H := H) .u8 (zs.take len))
    have h3 := bulk_len (lits (H := H) .u8 (zs.drop len))
    simp only [lits, List.length_map, List.length_take, List.length_drop] at h2 h3
    simp only [Rows.uptoBulk, lits] at hk
    exact ⟨some x, len, cap, _, rfl, tx_ints (by omega) (by omega) (by omega) hcell hwz, by omega⟩
end Go.Proofs.Ytkdkkbfbdjeoiaa
