/- How a list of Smalls lies in memory. -/
import Derived.Test.YtppefcnopkmhbaaGreatDoorKOpT
import Derived.Test.YtppefcnopkmhbaaGreatDoorKSmw
import Derived.Deep.Slices
namespace Go.Proofs.YtppefcnopkmhbaaGreatDoor
open Go.ChangeShapes Go.WideShapes Go.ChangeAt Go.RowKit Go.Joins Go.Deep

theorem bytesSmall : Tryz.prog.bytesOf 54 = 48 := by kernel_rfl
section
variable {H : Type} {enc : TypeId × Value → H} {W : World}
set_option maxRecDepth 100000 in
/-- a list of Smalls -/
theorem open_smalls0 {fuel : Nat} {v : Value} {x : DataW H × List MemPlace} (hf : DataW.trod enc Tryz.prog W 0 (fun _ => true) true fuel 52 [v] = some x) (hsz : ∀ n ∈ x.1.weights Tryz.prog 52, n ≤ reachBytes) :
    ∃ ao n c K, v = .slice ao n c ∧ Smz W ao K ∧ K.length = n ∧ n ≤ 140737488351232 := by
  rcases open_slice Tryz.underlying52 hf with ⟨hcs, hx⟩ | ⟨a, l, c, m, n, D, Pl, hcs, _, hl, hm, hm2, hx, hrow⟩
  · simp only [List.cons.injEq, and_true] at hcs
    subst hcs
    exact ⟨none, 0, 0, [], rfl, fun k r hr => by simp at hr, rfl, by omega⟩
  · simp only [List.cons.injEq, and_true] at hcs
    subst hcs
    simp only [if_true] at hm2
    subst hm2
    subst hx
    have each : ∀ r, ∃ e : Sm, r < l → (∃ g o, a = ⟨g, o, none⟩ ∧ W.cell? ⟨g, o + r * 5, none⟩ = some (.int .i64 e.kind) ∧ W.cell? ⟨g, o + r * 5 + 1, none⟩ = some (.int .i64 e.at') ∧ W.cell? ⟨g, o + r * 5 + 2, none⟩ = some (.int .i64 e.q) ∧ W.cell? ⟨g, o + r * 5 + 3, none⟩ = some (.int .u8 (e.b.toNat : Int)) ∧ W.cell? ⟨g, o + r * 5 + 4, none⟩ = some (.string e.s)) := fun r => by
      by_cases hr : r < l
      · obtain ⟨cs', h1, h2⟩ := hrow r (by omega)
        rw [cellsSmall] at h1
        obtain ⟨_, hlen, hcell⟩ := World.cells?_some h1
        obtain ⟨k, m1, m2, b, s, ee⟩ := trod_smallO hlen h2
        subst ee
        have c0 := hcell 0 (by omega)
        have c1 := hcell 1 (by omega)
        have c2 := hcell 2 (by omega)
        have c3 := hcell 3 (by omega)
        have c4 := hcell 4 (by omega)
        obtain ⟨g, o, sp⟩ := a
        have hs : sp = none := by
          obtain ⟨_, h01, _⟩ := hrow 0 (by omega)
          rw [cellsSmall] at h01
          obtain ⟨_, hl0, hc0⟩ := World.cells?_some h01
          have := World.cell?_spot ((hc0 0 (by omega)).trans (List.getElem?_eq_getElem (by omega)))
          simpa [Addr.add] using this
        subst hs
        rw [add_none, add_none] at c0 c1 c2 c3 c4
        exact ⟨⟨k, m1, m2, b, s⟩, fun _ => ⟨g, o, rfl, by simpa using c0, by simpa using c1, by simpa using c2, by simpa using c3, by simpa using c4⟩⟩
      · exact ⟨⟨0, 0, 0, 0, ⟨#[]⟩⟩, fun h => absurd h hr⟩
    obtain ⟨f, hff⟩ := Classical.axiomOfChoice each
    have hat : ∀ (k : Nat) (r : Sm), ((List.range l).map f)[k]? = some r → k < l ∧ r = f k := fun k r hk => by
      have hk' : k < l := by have := (List.getElem?_eq_some_iff.1 hk).1; simpa using this
      rw [List.getElem?_map, List.getElem?_range hk'] at hk
      simp at hk
      exact ⟨hk', hk.symm⟩
    refine ⟨some a, l, _, (List.range l).map f, rfl, fun k r hk => ?_, by simp, ?_⟩
    · obtain ⟨hk', rfl⟩ := hat k r hk
      obtain ⟨g, o, e0, e1⟩ := hff k hk'
      exact ⟨g, o, by rw [e0], e1⟩
    · have h2 := hsz ((((List.range l).map D).length + ((List.range (m - l)).map fun j => D (l + j)).length) * 48) (by simp [DataW.weights, Tryz.underlying52, bytesSmall])
      simp only [List.length_map, List.length_range, reachBytes] at h2
      omega
theorem open_smalls {v : Value} {d : DataW H} {p : List MemPlace} (h : DataW.Trod enc Tryz.prog W 0 (fun _ => true) true 52 v d p) (hv : ∃ a len cap, v = .slice a len cap) (hsz : ∀ n ∈ d.weights Tryz.prog 52, n ≤ reachBytes) :
    ∃ ao n c K, v = .slice ao n c ∧ Smz W ao K ∧ K.length = n ∧ n ≤ 140737488351232 := by
  obtain ⟨a, len, cap, rfl⟩ := hv
  obtain ⟨fuel, hf⟩ := h
  exact open_smalls0 hf hsz
end
end Go.Proofs.YtppefcnopkmhbaaGreatDoor
