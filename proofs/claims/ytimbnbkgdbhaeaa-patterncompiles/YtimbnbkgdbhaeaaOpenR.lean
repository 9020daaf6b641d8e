/- How a list of texts lies in memory. -/
import Derived.Test.YtimbnbkgdbhaeaaCmpW
import Derived.Test.YtimbnbkgdbhaeaaOpen
import Derived.Deep.Matrix
namespace Go.Proofs.Ytimbnbkgdbhaeaa
open Go.ChangeShapes Go.WideShapes Go.ChangeAt Go.RowKit Go.Joins Go.Deep
theorem weightsAll_mem {H : Type} {P : Program} {e : TypeId} : ∀ {l : List (DataW H)} {d : DataW H} {n : Nat}, d ∈ l → n ∈ d.weights P e → n ∈ DataW.weightsAll P e l
  | d0 :: l, d, n, hd, hn => by
    simp only [DataW.weightsAll, List.mem_append]
    rcases List.mem_cons.1 hd with rfl | h
    · exact .inl hn
    · exact .inr (weightsAll_mem h hn)
theorem cells24 : Try.prog.cellsOf 24 = 1 := by kernel_rfl
theorem bytes24 : Try.prog.bytesOf 24 = 24 := by kernel_rfl
/-- what an argument of type [][]byte is to the walk -/
theorem open_rows {H : Type} {enc : TypeId × Value → H} {W : World} {v : Value} {d : DataW H} {p : List MemPlace} (h : DataW.Trod enc Try.prog W 0 (fun _ => true) true 22 v d p) (hv : ∃ a len cap, v = .slice a len cap)
    (hsz : ∀ n ∈ d.weights Try.prog 22, n ≤ reachBytes) : ∃ ao n c A L C l, v = .slice ao n c ∧ Prow W ao n A L C l ∧ n ≤ 140737488351232 := by
  obtain ⟨a, len, cap, rfl⟩ := hv
  obtain ⟨fuel, hf⟩ := h
  rcases open_int_rows Try.underlying22 Try.underlying24 Try.underlying5 cells24 cells5 hf with ⟨hcs, _⟩ | ⟨x, l, c, A, L, C, Z, hcs, _, hl, hm, hx, hrow⟩
  · simp [Value.cells] at hcs
    obtain ⟨rfl, rfl, rfl⟩ := hcs
    exact ⟨none, 0, 0, fun _ => none, fun _ => 0, fun _ => 0, fun _ => [], rfl, fun r hr => by omega, by omega⟩
  · simp [Value.cells] at hcs
    obtain ⟨rfl, rfl, rfl⟩ := hcs
    simp only [Prod.mk.injEq] at hx
    obtain ⟨rfl, -⟩ := hx
    have hLb : ∀ i, i < len → L i ≤ 140737488351232 ∧ C i ≤ 140737488351232 := by
      intro i hi'
      obtain ⟨h1, h2, h3, h4, h5, h6, h7⟩ := hrow i (by omega)
      cases hA : A i with
      | none => have := h6 hA; omega
      | some a' =>
        have h8 := hsz ((lits (H := H) .u8 ((Z i).take (L i))).length + (lits (H := H) .u8 ((Z i).drop (L i))).length) (by
          have hmem : intRow (H := H) .u8 (A i) (L i) (Z i) ∈ ((List.range len).map fun r => intRow (H := H) .u8 (A r) (L r) (Z r)) := List.mem_map.2 ⟨i, List.mem_range.2 hi', rfl⟩
          have hn : ((lits (H := H) .u8 ((Z i).take (L i))).length + (lits (H := H) .u8 ((Z i).drop (L i))).length) ∈ (intRow (H := H) .u8 (A i) (L i) (Z i)).weights Try.prog 24 := by
            rw [hA]; simp [intRow, DataW.weights, Try.underlying24, bytes5]
          have h9 := weightsAll_mem (P := Try.prog) hmem hn
          simp only [DataW.weights, Try.underlying22, List.mem_cons, List.mem_append]
          exact .inr (.inl h9))
        simp only [lits, List.length_map, List.length_take, List.length_drop, reachBytes] at h8
        omega
    refine ⟨some x, len, cap, A, L, C, fun i => by8 ((Z i).take (L i)), rfl, fun r hr => ?_, ?_⟩
    · obtain ⟨h1, h2, h3, h4, h5, h6, h7⟩ := hrow r (by omega)
      have hb := hLb r hr
      obtain ⟨g, o, sp⟩ := x
      have hs : sp = none := by
        have := World.cell?_spot (hrow 0 (by omega)).1
        simpa [Addr.add] using this
      subst hs
      rw [add_none] at h1
      refine ⟨g, o, rfl, h1, ?_, hb.1⟩
      cases hA : A r with
      | none =>
        have hC := h6 hA
        have hL : L r = 0 := by omega
        have e : by8 ((Z r).take (L r)) = [] := List.eq_nil_of_length_eq_zero (by rw [by8_length, List.length_take]; omega)
        show Tx W none (L r) (C r) (by8 ((Z r).take (L r)))
        rw [e, hC, hL]
        exact tx_nil W
      | some a' => exact tx_ints h2 h4 (by omega) (fun k hk => (h7 a' hA).2 k (by omega)) h5
    · have h2 := hsz ((((List.range len).map fun r => intRow (H := H) .u8 (A r) (L r) (Z r)).length + ((List.range (cap - len)).map fun j => intRow (H := H) .u8 (A (len + j)) (L (len + j)) (Z (len + j))).length) * 24) (by simp [DataW.weights, Try.underlying22, bytes24])
      simp only [List.length_map, List.length_range, reachBytes] at h2
      omega
end Go.Proofs.Ytimbnbkgdbhaeaa
