/- How a list of questions lies in memory. -/
import Derived.Test.YtkapddemgodamaaDoorMovW
import Derived.Test.YtkapddemgodamaaDoorOpenT
import Derived.Deep.Matrix
namespace Go.Proofs.YtkapddemgodamaaDoor
open Go.ChangeShapes Go.WideShapes Go.ChangeAt Go.RowKit Go.Joins Go.Deep

theorem bytes28 : Tryd.prog.bytesOf 28 = 32 := by kernel_rfl
theorem open_asks {H : Type} {enc : TypeId × Value → H} {W : World} {v : Value} {d : DataW H} {p : List MemPlace} (h : DataW.Trod enc Tryd.prog W 0 (fun _ => true) true 23 v d p) (hv : ∃ a len cap, v = .slice a len cap) (hsz : ∀ n ∈ d.weights Tryd.prog 23, n ≤ reachBytes) :
    ∃ bo m c A, v = .slice bo m c ∧ Qs W bo m A := by
  obtain ⟨a, len, cap, rfl⟩ := hv
  obtain ⟨fuel, hf⟩ := h
  rcases open_slice Tryd.underlying23 hf with ⟨hcs, _⟩ | ⟨x, l', c, m, n, D, Pl, hcs, _, hl, hm, hmm, hx, hall⟩
  · simp [Value.cells] at hcs
    obtain ⟨rfl, rfl, rfl⟩ := hcs
    exact ⟨none, 0, 0, fun _ => ⟨0, 0, ⟨#[]⟩⟩, rfl, by omega, fun t ht => by omega⟩
  · simp [Value.cells] at hcs
    obtain ⟨rfl, rfl, rfl⟩ := hcs
    simp only [if_true] at hmm
    subst hmm
    simp only [Prod.mk.injEq] at hx
    obtain ⟨rfl, -⟩ := hx
    have h2 := hsz ((((List.range len).map D).length + ((List.range (m - len)).map fun j => D (len + j)).length) * 32) (by simp [DataW.weights, Tryd.underlying23, bytes28])
    simp only [List.length_map, List.length_range, reachBytes] at h2
    have each : ∀ t, t < len → ∃ q : Qn, ∃ g off, x = ⟨g, off, none⟩ ∧ W.cell? ⟨g, off + t * 3, none⟩ = some (.int .i64 q.at') ∧ W.cell? ⟨g, off + t * 3 + 1, none⟩ = some (.int .i64 q.cnt) ∧ W.cell? ⟨g, off + t * 3 + 2, none⟩ = some (.string q.key) := by
      intro t ht
      obtain ⟨cs', h1, h2⟩ := hall t (by omega)
      rw [cells28] at h1
      obtain ⟨_, hlen, hcell⟩ := World.cells?_some h1
      obtain ⟨i, cnt, s, rfl, _⟩ := trod_ask hlen h2
      obtain ⟨g, off, spot⟩ := x
      have hspot : spot = none := by
        obtain ⟨cz, z1, z2⟩ := hall 0 (by omega)
        rw [cells28] at z1
        obtain ⟨_, zl, zc⟩ := World.cells?_some z1
        have h0 := zc 0 (by omega)
        rw [List.getElem?_eq_getElem (by omega)] at h0
        simpa [Addr.add] using World.cell?_spot h0
      subst hspot
      have hc : ∀ j, j < 3 → W.cell? ⟨g, off + t * 3 + j, none⟩ = [Value.int .i64 i, .int .i64 cnt, .string s][j]? := fun j hj => by
        have h0 := hcell j hj
        rw [add_none, add_none] at h0
        exact h0
      exact ⟨⟨i, cnt, s⟩, g, off, rfl, hc 0 (by omega), hc 1 (by omega), hc 2 (by omega)⟩
    have _inh : Inhabited Qn := ⟨⟨0, 0, ⟨#[]⟩⟩⟩
    obtain ⟨A, hA⟩ := choose_lt each
    refine ⟨some x, len, m, A, rfl, by omega, fun t ht => ?_⟩
    obtain ⟨g, off, h0, h1, h2, h3⟩ := hA t ht
    exact ⟨g, off, by rw [h0], h1, h2, h3⟩
end Go.Proofs.YtkapddemgodamaaDoor
