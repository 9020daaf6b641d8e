/- How the arguments of the laws of object lie in memory, in the second form. -/
import Derived.Test.YtbknnicpdkpmiaaOpen
import Derived.JoinedCond
namespace Go.Proofs.Ytbknnicpdkpmiaa
open Go.ChangeShapes Go.WideShapes Go.ChangeAt Go.RowKit Go.Joins

theorem bulk_one {H : Type} (d : DataW H) : 1 ≤ Rows.uptoBulk d := by
  cases d with
  | lit l => cases l <;> simp [Rows.uptoBulk]
  | _ => simp [Rows.uptoBulk]
theorem bulk_len {H : Type} : ∀ l : List (DataW H), l.length ≤ Rows.uptoBulkAll l
  | [] => Nat.zero_le _
  | x :: r => by have h1 := bulk_one x; have h2 := bulk_len r; simp only [Rows.uptoBulkAll, List.length_cons]; omega
theorem open_txU {H : Type} {enc : TypeId × Value → H} {W : World} {fuel : Nat} {v : Value} {x : DataW H × List MemPlace} (hf : DataW.trod enc Try.prog W 0 (fun _ => true) true fuel 22 [v] = some x) (hk : Rows.uptoBulk x.1 ≤ 1048576) :
    ∃ ao n c l, v = .slice ao n c ∧ Tx W ao n c l ∧ n ≤ 1048576 := by
  rcases open_ints Try.underlying22 Try.underlying5 cells5 hf with ⟨hcs, _⟩ | ⟨a, len, cap, zs, hcs, _, hl, hm, hz, hx, hcell, hwz⟩
  · simp only [List.cons.injEq, and_true] at hcs
    subst hcs
    exact ⟨none, 0, 0, [], rfl, tx_nil W, by omega⟩
  · simp only [List.cons.injEq, and_true] at hcs
    subst hcs
    simp only [if_true] at hz
    subst hx
    have h2 := bulk_len (lits (H := H) .u8 (zs.take len))
    have h3 := bulk_len (lits (H := H) .u8 (zs.drop len))
    simp only [lits, List.length_map, List.length_take, List.length_drop] at h2 h3
    simp only [Rows.uptoBulk, lits] at hk
    exact ⟨some a, len, cap, _, rfl, tx_ints (by omega) (by omega) (by omega) hcell hwz, by omega⟩
theorem open0U {H : Type} {enc : TypeId × Value → H} {W : World} {v : Value} {d : DataW H} {p : List MemPlace} (h : DataW.Trod enc Try.prog W 0 (fun _ => true) true 22 v d p) (hv : ∃ a len cap, v = .slice a len cap) (hk : Rows.uptoBulk d ≤ 1048576) : ∃ ao n c l, v = .slice ao n c ∧ Tx W ao n c l ∧ n ≤ 1048576 := by
  obtain ⟨a, len, cap, rfl⟩ := hv
  obtain ⟨fuel, hf⟩ := h
  exact open_txU hf hk
end Go.Proofs.Ytbknnicpdkpmiaa
