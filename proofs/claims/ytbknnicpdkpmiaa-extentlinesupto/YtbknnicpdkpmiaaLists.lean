/- Lists of lists in memory: what Split gives, read again; the lines put together are the text. -/
import Derived.Test.YtbknnicpdkpmiaaSplt
import Derived.Lib.BufferRead
namespace Go.Proofs.Ytbknnicpdkpmiaa
open Go.RowKit

theorem below_drewN (w : World) (n : Nat) : Below w.heap.size w (w.drewN n) := ⟨rfl, rfl, rfl, Nat.le_refl _, fun _ _ => rfl⟩
theorem conv_drew {W : World} {ao : Option Addr} {n c : Nat} {l : List UInt8} (h : Tx W ao n c l) : ∀ q, (convert 22 9 (.slice ao n c)).run Try.prog (W.drewN q) = .ok (.string ⟨l.toArray⟩) (W.drewN q) := fun q => conv_tx (h.keep (below_drewN W q))
theorem own_txl {W : World} {base n : Nat} {v : Value} {l : List UInt8} (h : W.ownsRow base 5 1 v n (bv l)) (hb : n ≤ 140737488355328) : ∃ ao c, v = .slice ao n c ∧ Tx W ao n c l := by
  have hl : l.length = n := by have := h.1; rw [bv_length] at this; omega
  rcases h.2 with ⟨rfl, rfl⟩ | ⟨g, cap, cur, rfl, h1, h2, h3, h4, h5, h6⟩
  · obtain rfl := List.eq_nil_of_length_eq_zero hl
    exact ⟨none, 0, rfl, tx_nil W⟩
  · refine ⟨_, cap, rfl, hl, h3, hb, (fun h => by cases h), fun a ha j hj => ?_⟩
    obtain rfl : (⟨g, 0, none⟩ : Addr) = a := by simpa using ha
    rw [add_none, Nat.zero_add, h.cellAt j (by omega)]
    exact bv_at l j (by omega)

/-- what a list of lists holds at a place -/
structure Ls (W : World) (v : Value) (K : Nat) (f : Nat → List UInt8) : Prop where
  top : ∃ ao c, v = .slice ao K c
  each : ∀ i, i < K → ∃ g c ai ci, v = .slice (some ⟨g, 0, none⟩) K c ∧ W.cell? ⟨g, i, none⟩ = some (.slice ai (f i).length ci) ∧ Tx W ai (f i).length ci (f i)
theorem Ls.keep {W W' : World} {v : Value} {K : Nat} {f : Nat → List UInt8} (h : Ls W v K f) (hb : Below W.heap.size W W') : Ls W' v K f :=
  ⟨h.top, fun i hi => by
    obtain ⟨g, c, ai, ci, h1, h2, h3⟩ := h.each i hi
    exact ⟨g, c, ai, ci, h1, by rw [hb.cell (lt_of_cell h2)]; exact h2, h3.keep hb⟩⟩
theorem ls_of {w W : World} {v : Value} {D : List (Value × List UInt8)} {R : List Rw} {K : Nat} {f : Nat → List UInt8} (i0 : Nat) (h : Rws w W R) (hR : ∀ j, j ≤ D.length → R[i0 + j]? = (spl v D)[j]?) (hD : D.map (·.2) = (List.range K).map f) (hb : ∀ i, i < K → (f i).length ≤ 140737488355328) : Ls W v K f := by
  have hK : D.length = K := by have := congrArg List.length hD; simpa using this
  have h0 : R[i0]? = some (vrow v D) := by have := hR 0 (Nat.zero_le _); simpa [spl] using this
  have o0 := h.own _ _ h0
  refine ⟨?_, fun i hi => ?_⟩
  · obtain ⟨ao, c, e⟩ := own_shape o0
    exact ⟨ao, c, by rw [← hK]; exact e⟩
  · have hi' : i < D.length := by omega
    have h1 : R[i0 + (i + 1)]? = some (brow D[i]) := by rw [hR (i + 1) (by omega)]; simp [spl, hi']
    have o1 := h.own _ _ h1
    have e2 : D[i].2 = f i := by
      have := congrArg (fun L => L[i]?) hD
      simpa [hi', hi] using this
    have o1' : W.ownsRow w.heap.size 5 1 D[i].1 (f i).length (bv (f i)) := by rw [← e2]; exact o1
    obtain ⟨ai, ci, e3, h3⟩ := own_txl o1' (hb i hi)
    have o0' : W.ownsRow w.heap.size 22 1 v D.length (D.map (·.1)) := o0
    rcases o0'.2 with ⟨_, hz⟩ | ⟨g, cap, cur, e4, _⟩
    · omega
    · have hc : W.cell? ⟨g, i, none⟩ = some (.slice ai (f i).length ci) := by
        have hv : W.ownsRow w.heap.size 22 1 (.slice (some ⟨g, 0, none⟩) D.length cap) D.length (D.map (·.1)) := by rw [← e4]; exact o0'
        rw [hv.cellAt i (by omega), List.getElem?_map, List.getElem?_eq_getElem hi', ← e3]; rfl
      exact ⟨g, cap, ai, ci, by rw [← hK]; exact e4, hc, h3⟩

/-- the text up to the end of line number i - 1 -/
def jl (l : List UInt8) : Nat → List UInt8
  | 0 => []
  | i + 1 => l.take (en l (sp l i))
theorem sp_next {l : List UInt8} {i : Nat} (h : i + 1 ≤ nl l) : en l (sp l i) < l.length ∧ sp l (i + 1) = en l (sp l i) + 1 := by
  have hs := sp_st (t := l) (n := i) (by omega)
  have he : en l (sp l i) < l.length := by
    rcases Nat.lt_or_ge (en l (sp l i)) l.length with h1 | h1
    · exact h1
    · have := hs.last (by have := en_le hs.low'; omega); omega
  exact ⟨he, sp_eq (hs.next he)⟩
theorem jl_next {l : List UInt8} {i : Nat} (h : i ≤ nl l) : l.take (sp l i) ++ ln l i = jl l (i + 1) := by
  have h1 := en_ge l (sp l i)
  have h2 := sp_le h
  unfold ln jl
  rw [← List.take_add]
  congr 1; omega
theorem jl_end {l : List UInt8} {i : Nat} (h : i + 1 ≤ nl l) : jl l (i + 1) ++ [10] = l.take (sp l (i + 1)) := by
  obtain ⟨h1, h2⟩ := sp_next h
  unfold jl
  have h3 := en_edge (t := l) (s := sp l i) h1
  rw [le_ten, at8_eq h1] at h3
  rw [h2, List.take_succ_eq_append_getElem h1, eq_of_beq h3]
theorem jl_all (l : List UInt8) : jl l (nl l + 1) = l := by
  have hs := sp_st (t := l) (n := nl l) (Nat.le_refl _)
  show l.take (en l (sp l (nl l))) = l
  have he : en l (sp l (nl l)) = l.length := by
    rcases Nat.lt_or_ge (en l (sp l (nl l))) l.length with h1 | h1
    · have := (hs.next h1).low; omega
    · have := en_le hs.low'; omega
  rw [he, List.take_length]
theorem sp_zero (l : List UInt8) : sp l 0 = 0 := sp_eq (St.zero l)
end Go.Proofs.Ytbknnicpdkpmiaa
