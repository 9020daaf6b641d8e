/- How a list of questions lies in memory. -/
import Derived.Test.YtgdhdegmjljbfaaSlw
import Derived.Test.YtgdhdegmjljbfaaOpen
import Derived.Deep.Matrix
namespace Go.Proofs.Ytgdhdegmjljbfaa
open Go.ChangeShapes Go.WideShapes Go.ChangeAt Go.RowKit Go.Joins Go.Deep

theorem cells9 : Try.prog.cellsOf 9 = 1 := by kernel_rfl
theorem cells27 : Try.prog.cellsOf 27 = 3 := by kernel_rfl
/-- the cells of an Ask -/
theorem trod_ask {H : Type} {enc : TypeId × Value → H} {W : World} {fuel : Nat} {cs : List Value} {x : DataW H × List MemPlace} (hc : cs.length = 3) (hf : DataW.trod enc Try.prog W 0 (fun _ => true) true fuel 27 cs = some x) :
    ∃ (i cnt : Int) (s : ByteArray), cs = [.int .i64 i, .int .i64 cnt, .string s] ∧ -9223372036854775808 ≤ i ∧ i ≤ 9223372036854775807 ∧ -9223372036854775808 ≤ cnt ∧ cnt ≤ 9223372036854775807 := by
  obtain ⟨xs, n, -, hx, hl, hxl, hfl⟩ := DataW.trod_struct Try.underlying27 hf
  match xs, hxl, cs, hc with
  | [y0, y1, y2], _, [v0, v1, v2], _ =>
    have g0 : DataW.trod enc Try.prog W 0 (fun _ => true) true n 3 [v0] = some y0 := by simpa [Value.cells, cells3] using hfl 0 _ rfl
    have g1 : DataW.trod enc Try.prog W 0 (fun _ => true) true n 3 [v1] = some y1 := by simpa [Value.cells, cells3] using hfl 1 _ rfl
    have g2 : DataW.trod enc Try.prog W 0 (fun _ => true) true n 9 [v2] = some y2 := by simpa [Value.cells, cells9] using hfl 2 _ rfl
    obtain ⟨i, e0, -, wi⟩ := DataW.trod_int Try.underlying3 g0
    obtain ⟨cnt, e1, -, wc⟩ := DataW.trod_int Try.underlying3 g1
    obtain ⟨s, e2, -, -⟩ := DataW.trod_string Try.underlying9 g2
    simp only [List.cons.injEq, and_true] at e0 e1 e2
    subst e0 e1 e2
    exact ⟨i, cnt, s, rfl, (bounds_i64 wi).1, (bounds_i64 wi).2, (bounds_i64 wc).1, (bounds_i64 wc).2⟩
theorem bytes27 : Try.prog.bytesOf 27 = 32 := by kernel_rfl
set_option maxRecDepth 100000 in
theorem open_asks {H : Type} {enc : TypeId × Value → H} {W : World} {v : Value} {d : DataW H} {p : List MemPlace} (h : DataW.Trod enc Try.prog W 0 (fun _ => true) true 23 v d p) (hv : ∃ a len cap, v = .slice a len cap) (hsz : ∀ n ∈ d.weights Try.prog 23, n ≤ reachBytes) :
    ∃ bo m c A, v = .slice bo m c ∧ Qs W bo m A := by
  obtain ⟨a, len, cap, rfl⟩ := hv
  obtain ⟨fuel, hf⟩ := h
  rcases open_slice Try.underlying23 hf with ⟨hcs, _⟩ | ⟨x, l', c, m, n, D, Pl, hcs, _, hl, hm, hmm, hx, hall⟩
  · simp [Value.cells] at hcs
    obtain ⟨rfl, rfl, rfl⟩ := hcs
    exact ⟨none, 0, 0, fun _ => ⟨0, 0, ⟨#[]⟩⟩, rfl, by omega, fun t ht => by omega⟩
  · simp [Value.cells] at hcs
    obtain ⟨rfl, rfl, rfl⟩ := hcs
    simp only [if_true] at hmm
    subst hmm
    simp only [Prod.mk.injEq] at hx
    obtain ⟨rfl, -⟩ := hx
    have h2 := hsz ((((List.range len).map D).length + ((List.range (m - len)).map fun j => D (len + j)).length) * 32) (by simp [DataW.weights, Try.underlying23, bytes27])
    simp only [List.length_map, List.length_range, reachBytes] at h2
    have each : ∀ t, t < len → ∃ q : Qn, ∃ g off, x = ⟨g, off, none⟩ ∧ W.cell? ⟨g, off + t * 3, none⟩ = some (.int .i64 q.at') ∧ W.cell? ⟨g, off + t * 3 + 1, none⟩ = some (.int .i64 q.cnt) ∧ W.cell? ⟨g, off + t * 3 + 2, none⟩ = some (.string q.key) := by
      intro t ht
      obtain ⟨cs', h1, h2⟩ := hall t (by omega)
      rw [cells27] at h1
      obtain ⟨_, hlen, hcell⟩ := World.cells?_some h1
      obtain ⟨i, cnt, s, rfl, _⟩ := trod_ask hlen h2
      obtain ⟨g, off, spot⟩ := x
      have hspot : spot = none := by
        obtain ⟨cz, z1, z2⟩ := hall 0 (by omega)
        rw [cells27] at z1
        obtain ⟨_, zl, zc⟩ := World.cells?_some z1
        have h0 := zc 0 (by omega)
        rw [List.getElem?_eq_getElem (by omega)] at h0
        simpa [Addr.add] using World.cell?_spot h0
      subst hspot
      have hc : ∀ j, j < 3 → W.cell? ⟨g, off + t * 3 + j, none⟩ = [Value.int .i64 i, .int .i64 cnt, .string s][j]? := fun j hj => by
        have h0 := hcell j hj
        rw [add_none, add_none] at h0
        exact h0
      exact ⟨⟨i, cnt, s⟩, g, off, rfl, hc 0 (by omega), hc 1 (by omega), hc 2 (by omega)⟩
    have _inh : Inhabited Qn := ⟨⟨0, 0, ⟨#[]⟩⟩⟩
    obtain ⟨A, hA⟩ := choose_lt each
    refine ⟨some x, len, m, A, rfl, by omega, fun t ht => ?_⟩
    obtain ⟨g, off, h0, h1, h2, h3⟩ := hA t ht
    exact ⟨g, off, by rw [h0], h1, h2, h3⟩
end Go.Proofs.Ytgdhdegmjljbfaa
