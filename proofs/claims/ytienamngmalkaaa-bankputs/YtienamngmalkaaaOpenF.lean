/- A list of calls, opened. -/
import Derived.Test.YtienamngmalkaaaOpenS
import Derived.Test.YtienamngmalkaaaFrw
namespace Go.Proofs.Ytienamngmalkaaa
open Go.ChangeShapes Go.WideShapes Go.ChangeAt Go.RowKit Go.Joins Go.Deep
theorem bytes40 : Try.prog.bytesOf 40 = 48 := by kernel_rfl
theorem open_fills {H : Type} {enc : TypeId × Value → H} {W : World} {v : Value} {d : DataW H} {p : List MemPlace} (h : DataW.Trod enc Try.prog W 0 (fun _ => true) true 38 v d p) (hv : ∃ a len cap, v = .slice a len cap)
    (hsz : ∀ n ∈ d.weights Try.prog 38, n ≤ reachBytes) : ∃ ao n c, v = .slice ao n c ∧ Frow W ao n ∧ n ≤ 140737488351232 := by
  obtain ⟨a, len, cap, rfl⟩ := hv
  obtain ⟨fuel, hf⟩ := h
  rcases open_slice Try.underlying38 hf with ⟨hcs, _⟩ | ⟨x, l, c, m, n, D, Pl, hcs, _, hl, hm, hm2, hx, hrow⟩
  · simp [Value.cells] at hcs
    obtain ⟨rfl, rfl, rfl⟩ := hcs
    exact ⟨none, 0, 0, rfl, fun r hr => by omega, by omega⟩
  · simp [Value.cells] at hcs
    obtain ⟨rfl, rfl, rfl⟩ := hcs
    simp only [Prod.mk.injEq] at hx
    obtain ⟨rfl, -⟩ := hx
    simp only [if_true] at hm2
    subst hm2
    refine ⟨some x, len, _, rfl, fun r hr => ?_, ?_⟩
    · obtain ⟨cs', h1, h2⟩ := hrow r (by omega)
      rw [cells40] at h1
      obtain ⟨k, how, rr, cc, e, hk, hR⟩ := open_fill5 h2 (fun q hq => hsz q (by
        have hmem : D r ∈ (List.range len).map D := List.mem_map.2 ⟨r, List.mem_range.2 hr, rfl⟩
        have h9 := weightsAll_mem (P := Try.prog) hmem hq
        simp only [DataW.weights, Try.underlying38, List.mem_cons, List.mem_append]
        exact .inr (.inl h9)))
      subst e
      obtain ⟨_, hlen, hcell⟩ := World.cells?_some h1
      have c0 := hcell 0 (by omega)
      have c1 := hcell 1 (by omega)
      have c2 := hcell 2 (by omega)
      have c3 := hcell 3 (by omega)
      have c4 := hcell 4 (by omega)
      obtain ⟨g, o, sp⟩ := x
      have hs : sp = none := by
        obtain ⟨_, h01, _⟩ := hrow 0 (by omega)
        rw [cells40] at h01
        obtain ⟨_, hl0, hc0⟩ := World.cells?_some h01
        have := World.cell?_spot ((hc0 0 (by omega)).trans (List.getElem?_eq_getElem (by omega)))
        simpa [Addr.add] using this
      subst hs
      rw [add_none, add_none] at c0 c1 c2 c3 c4
      exact ⟨g, o, k, how, rr, cc, rfl, hk, hR, by simpa using c0, by simpa using c1, by simpa using c2, by simpa using c3, by simpa using c4⟩
    · have h2 := hsz ((((List.range len).map D).length + ((List.range (m - len)).map fun j => D (len + j)).length) * 48) (by simp [DataW.weights, Try.underlying38, bytes40])
      simp only [List.length_map, List.length_range, reachBytes] at h2
      omega
end Go.Proofs.Ytienamngmalkaaa
