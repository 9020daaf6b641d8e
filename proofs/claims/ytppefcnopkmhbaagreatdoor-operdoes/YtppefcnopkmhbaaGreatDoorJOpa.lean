/- How a list of Asks lies in memory. -/
import Derived.Test.YtppefcnopkmhbaaGreatDoorJOpT
import Derived.Test.YtppefcnopkmhbaaGreatDoorPt47
import Derived.Deep.Slices
namespace Go.Proofs.YtppefcnopkmhbaaGreatDoor
open Go.ChangeShapes Go.WideShapes Go.ChangeAt Go.RowKit Go.Joins Go.Deep

theorem bytesAsk : Tryz.prog.bytesOf 30 = 56 := by kernel_rfl
section
variable {H : Type} {enc : TypeId × Value → H} {W : World}
set_option maxRecDepth 100000 in
theorem open_Ask0 {fuel : Nat} {v : Value} {x : DataW H × List MemPlace} (hf : DataW.trod enc Tryz.prog W 0 (fun _ => true) true fuel 23 [v] = some x) (hsz : ∀ n ∈ x.1.weights Tryz.prog 23, n ≤ reachBytes) :
    ∃ ao n c K, v = .slice ao n c ∧ Akz W ao K ∧ K.length = n ∧ n ≤ 140737488351232 := by
  rcases open_slice Tryz.underlying23 hf with ⟨hcs, hx⟩ | ⟨a, l, c, m, n, D, Pl, hcs, _, hl, hm, hm2, hx, hrow⟩
  · simp only [List.cons.injEq, and_true] at hcs
    subst hcs
    exact ⟨none, 0, 0, [], rfl, fun k r hr => by simp at hr, rfl, by omega⟩
  · simp only [List.cons.injEq, and_true] at hcs
    subst hcs
    simp only [if_true] at hm2
    subst hm2
    subst hx
    have each : ∀ r, ∃ e : Ak, r < l → (∃ g o, a = ⟨g, o, none⟩ ∧ W.cell? ⟨g, o + r * 7, none⟩ = some (.int .i64 e.at') ∧ W.cell? ⟨g, o + r * 7 + 1, none⟩ = some (.int .i64 e.q) ∧ W.cell? ⟨g, o + r * 7 + 2, none⟩ = some (.string e.s) ∧ W.cell? ⟨g, o + r * 7 + 3, none⟩ = some (.int .i64 e.F) ∧ W.cell? ⟨g, o + r * 7 + 4, none⟩ = some (.int .i64 e.T) ∧ W.cell? ⟨g, o + r * 7 + 5, none⟩ = some (.bool e.L) ∧ W.cell? ⟨g, o + r * 7 + 6, none⟩ = some (.bool e.D)) := fun r => by
      by_cases hr : r < l
      · obtain ⟨cs', h1, h2⟩ := hrow r (by omega)
        rw [cellsAsk] at h1
        obtain ⟨_, hlen, hcell⟩ := World.cells?_some h1
        obtain ⟨b1, b2, s, F, T, L, D2, ee⟩ := trod_askO hlen h2
        subst ee
        have c0 := hcell 0 (by omega)
        have c1 := hcell 1 (by omega)
        have c2 := hcell 2 (by omega)
        have c3 := hcell 3 (by omega)
        have c4 := hcell 4 (by omega)
        have c5 := hcell 5 (by omega)
        have c6 := hcell 6 (by omega)
        obtain ⟨g, o, sp⟩ := a
        have hs : sp = none := by
          obtain ⟨_, h01, _⟩ := hrow 0 (by omega)
          rw [cellsAsk] at h01
          obtain ⟨_, hl0, hc0⟩ := World.cells?_some h01
          have := World.cell?_spot ((hc0 0 (by omega)).trans (List.getElem?_eq_getElem (by omega)))
          simpa [Addr.add] using this
        subst hs
        rw [add_none, add_none] at c0 c1 c2 c3 c4 c5 c6
        exact ⟨⟨b1, b2, s, F, T, L, D2⟩, fun _ => ⟨g, o, rfl, by simpa using c0, by simpa using c1, by simpa using c2, by simpa using c3, by simpa using c4, by simpa using c5, by simpa using c6⟩⟩
      · exact ⟨⟨0, 0, ⟨#[]⟩, 0, 0, false, false⟩, fun h => absurd h hr⟩
    obtain ⟨f, hff⟩ := Classical.axiomOfChoice each
    have hat : ∀ (k : Nat) (r : Ak), ((List.range l).map f)[k]? = some r → k < l ∧ r = f k := fun k r hk => by
      have hk' : k < l := by have := (List.getElem?_eq_some_iff.1 hk).1; simpa using this
      rw [List.getElem?_map, List.getElem?_range hk'] at hk
      simp at hk
      exact ⟨hk', hk.symm⟩
    refine ⟨some a, l, _, (List.range l).map f, rfl, fun k r hk => ?_, by simp, ?_⟩
    · obtain ⟨hk', rfl⟩ := hat k r hk
      obtain ⟨g, o, e0, e1⟩ := hff k hk'
      exact ⟨g, o, by rw [e0], e1⟩
    · have h2 := hsz ((((List.range l).map D).length + ((List.range (m - l)).map fun j => D (l + j)).length) * 56) (by simp [DataW.weights, Tryz.underlying23, bytesAsk])
      simp only [List.length_map, List.length_range, reachBytes] at h2
      omega
theorem open_Ask {v : Value} {d : DataW H} {p : List MemPlace} (h : DataW.Trod enc Tryz.prog W 0 (fun _ => true) true 23 v d p) (hv : ∃ a len cap, v = .slice a len cap) (hsz : ∀ n ∈ d.weights Tryz.prog 23, n ≤ reachBytes) :
    ∃ ao n c K, v = .slice ao n c ∧ Akz W ao K ∧ K.length = n ∧ n ≤ 140737488351232 := by
  obtain ⟨a, len, cap, rfl⟩ := hv
  obtain ⟨fuel, hf⟩ := h
  exact open_Ask0 hf hsz
end
end Go.Proofs.YtppefcnopkmhbaaGreatDoor
