/- How a list of Laids lies in memory. -/
import Derived.Test.YtppefcnopkmhbaaGreatDoorKOpT
import Derived.Test.YtppefcnopkmhbaaGreatDoorPq41
import Derived.Deep.Slices
namespace Go.Proofs.YtppefcnopkmhbaaGreatDoor
open Go.ChangeShapes Go.WideShapes Go.ChangeAt Go.RowKit Go.Joins Go.Deep

theorem weightsAll_mem {H : Type} {P : Program} {e : TypeId} : ∀ {l : List (DataW H)} {d : DataW H} {n : Nat}, d ∈ l → n ∈ d.weights P e → n ∈ DataW.weightsAll P e l
  | d0 :: l, d, n, hd, hn => by
    simp only [DataW.weightsAll, List.mem_append]
    rcases List.mem_cons.1 hd with rfl | h
    · exact .inl hn
    · exact .inr (weightsAll_mem h hn)
theorem bytesLaid : Tryz.prog.bytesOf 48 = 56 := by kernel_rfl
section
variable {H : Type} {enc : TypeId × Value → H} {W : World}
set_option maxRecDepth 100000 in
theorem open_Laid0 {fuel : Nat} {v : Value} {x : DataW H × List MemPlace} (hf : DataW.trod enc Tryz.prog W 0 (fun _ => true) true fuel 46 [v] = some x) (hsz : ∀ n ∈ x.1.weights Tryz.prog 46, n ≤ reachBytes) :
    ∃ ao n c K, v = .slice ao n c ∧ Ldz W ao K ∧ K.length = n ∧ n ≤ 140737488351232 := by
  rcases open_slice Tryz.underlying46 hf with ⟨hcs, hx⟩ | ⟨a, l, c, m, n, D, Pl, hcs, _, hl, hm, hm2, hx, hrow⟩
  · simp only [List.cons.injEq, and_true] at hcs
    subst hcs
    exact ⟨none, 0, 0, [], rfl, fun k r hr => by simp at hr, rfl, by omega⟩
  · simp only [List.cons.injEq, and_true] at hcs
    subst hcs
    simp only [if_true] at hm2
    subst hm2
    subst hx
    have each : ∀ r, ∃ e : Ld, r < l → (∃ g o, a = ⟨g, o, none⟩ ∧ W.cell? ⟨g, o + r * 6, none⟩ = some (.int .i64 e.at') ∧ W.cell? ⟨g, o + r * 6 + 1, none⟩ = some (.int .i64 e.q) ∧ W.cell? ⟨g, o + r * 6 + 2, none⟩ = some (.bool e.set) ∧ W.cell? ⟨g, o + r * 6 + 3, none⟩ = some (.bool e.lin) ∧ W.cell? ⟨g, o + r * 6 + 4, none⟩ = some (.slice e.xp e.xn e.xc) ∧ W.cell? ⟨g, o + r * 6 + 5, none⟩ = some (.bool e.ah)) ∧ Tx W e.xp e.xn e.xc e.X ∧ e.xn ≤ 140737488351232 := fun r => by
      by_cases hr : r < l
      · obtain ⟨cs', h1, h2⟩ := hrow r (by omega)
        rw [cellsLaid] at h1
        obtain ⟨_, hlen, hcell⟩ := World.cells?_some h1
        obtain ⟨b1, b2, s1, s2, xo, xn, xc, X, ah, ee, hT, hk⟩ := trod_laidO hlen h2 (fun q hq => hsz q (by
          have hmem : D r ∈ (List.range l).map D := List.mem_map.2 ⟨r, List.mem_range.2 hr, rfl⟩
          have h9 := weightsAll_mem (P := Tryz.prog) hmem hq
          simp only [DataW.weights, Tryz.underlying46, List.mem_cons, List.mem_append]
          exact .inr (.inl h9)))
        subst ee
        have c0 := hcell 0 (by omega)
        have c1 := hcell 1 (by omega)
        have c2 := hcell 2 (by omega)
        have c3 := hcell 3 (by omega)
        have c4 := hcell 4 (by omega)
        have c5 := hcell 5 (by omega)
        obtain ⟨g, o, sp⟩ := a
        have hs : sp = none := by
          obtain ⟨_, h01, _⟩ := hrow 0 (by omega)
          rw [cellsLaid] at h01
          obtain ⟨_, hl0, hc0⟩ := World.cells?_some h01
          have := World.cell?_spot ((hc0 0 (by omega)).trans (List.getElem?_eq_getElem (by omega)))
          simpa [Addr.add] using this
        subst hs
        rw [add_none, add_none] at c0 c1 c2 c3 c4 c5
        exact ⟨⟨b1, b2, s1, s2, xo, xn, xc, X, ah⟩, fun _ => ⟨⟨g, o, rfl, by simpa using c0, by simpa using c1, by simpa using c2, by simpa using c3, by simpa using c4, by simpa using c5⟩, hT, hk⟩⟩
      · exact ⟨⟨0, 0, false, false, none, 0, 0, [], false⟩, fun h => absurd h hr⟩
    obtain ⟨f, hff⟩ := Classical.axiomOfChoice each
    have hat : ∀ (k : Nat) (r : Ld), ((List.range l).map f)[k]? = some r → k < l ∧ r = f k := fun k r hk => by
      have hk' : k < l := by have := (List.getElem?_eq_some_iff.1 hk).1; simpa using this
      rw [List.getElem?_map, List.getElem?_range hk'] at hk
      simp at hk
      exact ⟨hk', hk.symm⟩
    refine ⟨some a, l, _, (List.range l).map f, rfl, fun k r hk => ?_, by simp, ?_⟩
    · obtain ⟨hk', rfl⟩ := hat k r hk
      obtain ⟨⟨g, o, e0, e1⟩, e2, e3⟩ := hff k hk'
      exact ⟨⟨g, o, by rw [e0], e1⟩, e2, e3⟩
    · have h2 := hsz ((((List.range l).map D).length + ((List.range (m - l)).map fun j => D (l + j)).length) * 56) (by simp [DataW.weights, Tryz.underlying46, bytesLaid])
      simp only [List.length_map, List.length_range, reachBytes] at h2
      omega
theorem open_Laid {v : Value} {d : DataW H} {p : List MemPlace} (h : DataW.Trod enc Tryz.prog W 0 (fun _ => true) true 46 v d p) (hv : ∃ a len cap, v = .slice a len cap) (hsz : ∀ n ∈ d.weights Tryz.prog 46, n ≤ reachBytes) :
    ∃ ao n c K, v = .slice ao n c ∧ Ldz W ao K ∧ K.length = n ∧ n ≤ 140737488351232 := by
  obtain ⟨a, len, cap, rfl⟩ := hv
  obtain ⟨fuel, hf⟩ := h
  exact open_Laid0 hf hsz
end
end Go.Proofs.YtppefcnopkmhbaaGreatDoor
