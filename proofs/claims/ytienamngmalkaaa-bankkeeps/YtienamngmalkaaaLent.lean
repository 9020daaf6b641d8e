/- A copy of the text with two bytes behind it. -/
import Derived.Test.YtienamngmalkaaaRws
import Derived.Lib.BufferRead
namespace Go.Proofs.Ytienamngmalkaaa
open Go.RowKit

/-- bytes as cells -/
def bv (l : List UInt8) : List Value := l.map fun b => Value.int .u8 (b.toNat : Int)
theorem bv_length (l : List UInt8) : (bv l).length = l.length := by simp [bv]
theorem bv_at (l : List UInt8) (j : Nat) (h : j < l.length) : (bv l)[j]? = some (.int .u8 ((at8 l j).toNat : Int)) := by simp [bv, at8, h]
theorem bv_one (l : List UInt8) : ∀ u ∈ bv l, u.oneCell' = true := by
  intro u hu; obtain ⟨x, _, rfl⟩ := List.mem_map.1 hu; rfl
theorem info5 : (Try.prog.info? 5).map (fun i => (i.zero, i.size, i.bytes)) = some (some (.int .u8 0), 1, 1) := by kernel_rfl
theorem Tx.srv {w : World} {ao : Option Addr} {n c : Nat} {l : List UInt8} (h : Tx w ao n c l) : Srv w (.slice ao n c) n (bv l) := by
  cases ao with
  | none =>
    obtain ⟨rfl, rfl, rfl⟩ := h.none
    exact .inl ⟨rfl, rfl, rfl⟩
  | some a =>
    refine .inr ⟨a, c, rfl, fun j t hj => ?_⟩
    have hlt := (List.getElem?_eq_some_iff.1 hj).1
    rw [bv_length] at hlt
    rw [bv_at l j hlt] at hj
    rw [← hj]
    exact h.cells a rfl j (by rw [← h.len]; exact hlt)
theorem own_some {w : World} {base e size n : Nat} {v : Value} {xs : List Value} (h : w.ownsRow base e size v n xs) (hn : 1 ≤ n) : ∃ g cap, v = .slice (some ⟨g, 0, none⟩) n cap ∧ n ≤ cap ∧ cap ≤ maxLen := by
  rcases h.2 with ⟨_, h0⟩ | ⟨g, cap, cur, rfl, _, _, h1, h2, _⟩
  · omega
  · exact ⟨g, cap, rfl, h1, h2⟩
theorem conv_tx {W : World} {ao : Option Addr} {n c : Nat} {l : List UInt8} (h : Tx W ao n c l) : (convert 22 9 (.slice ao n c)).run Try.prog W = .ok (.string ⟨l.toArray⟩) W := by
  cases ao with
  | none =>
    obtain ⟨rfl, rfl, rfl⟩ := h.none
    exact Lib.run_convert_nil_bytes W 22 9 5 0 Try.underlying22 Try.underlying5 Try.underlying9
  | some a =>
    have := run_convert_bytes_back W 22 9 5 a c l Try.underlying22 Try.underlying5 Try.underlying9 (fun j hj => by rw [h.cells a rfl j (by rw [← h.len]; exact hj), at8_eq hj])
    rwa [h.len] at this
def mk2 : List Value := [.int .u8 77, .int .u8 78]
/-- what was lent reads as the text -/
theorem lent_tx {w : World} {g cap base n : Nat} {l : List UInt8} (hl : l.length = n) (hb : n ≤ 150000000000000) (h : w.ownsRow base 5 1 (.slice (some ⟨g, 0, none⟩) (n + 2) cap) (n + 2) (bv l ++ mk2)) : Tx w (some ⟨g, 0, none⟩) n cap l := by
  obtain ⟨g', cap', hv, hc1, hc2⟩ := own_some h (by omega)
  have hcap : n + 2 ≤ cap := by simp at hv; omega
  refine ⟨hl, by omega, hb, (fun h => by cases h), fun a ha j hj => ?_⟩
  obtain rfl : (⟨g, 0, none⟩ : Addr) = a := by simpa using ha
  rw [add_none, Nat.zero_add, h.cellAt j (by omega), List.getElem?_append_left (by rw [bv_length]; omega)]
  exact bv_at l j (by omega)

/-- and all of it as the text with two bytes more -/
theorem lent_all {w : World} {g cap base n : Nat} {l : List UInt8} (hl : l.length = n) (hb : n + 2 ≤ 150000000000000) (h : w.ownsRow base 5 1 (.slice (some ⟨g, 0, none⟩) (n + 2) cap) (n + 2) (bv l ++ mk2)) : Tx w (some ⟨g, 0, none⟩) (n + 2) cap (l ++ [77, 78]) := by
  obtain ⟨g', cap', hv, hc1, hc2⟩ := own_some h (by omega)
  have hcap : n + 2 ≤ cap := by simp at hv; omega
  have e : bv l ++ mk2 = bv (l ++ [77, 78]) := by simp [bv, mk2]
  rw [e] at h
  refine ⟨by simp; omega, by omega, hb, (fun h => by cases h), fun a ha j hj => ?_⟩
  obtain rfl : (⟨g, 0, none⟩ : Addr) = a := by simpa using ha
  rw [add_none, Nat.zero_add, h.cellAt j (by omega)]
  exact bv_at _ j (by simp; omega)
end Go.Proofs.Ytienamngmalkaaa
