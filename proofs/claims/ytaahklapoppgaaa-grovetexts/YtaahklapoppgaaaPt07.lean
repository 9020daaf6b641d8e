/- How steps lie in memory. -/
import Derived.Test.YtaahklapoppgaaaPm38
import Derived.Test.YtaahklapoppgaaaPt05
namespace Go.Proofs.Ytaahklapoppgaaa
open Go.ChangeShapes Go.WideShapes Go.ChangeAt Go.RowKit Go.Joins Go.Deep

theorem cells74 : Try.prog.cellsOf 74 = 5 := by kernel_rfl
section
variable {H : Type} {enc : TypeId × Value → H} {W : World}
set_option maxRecDepth 100000 in
/-- one step -/
theorem open_step {fuel : Nat} {cs : List Value} {x : DataW H × List MemPlace} (h : DataW.trod enc Try.prog W 0 (fun _ => true) true fuel 74 cs = some x) (hsz : ∀ n ∈ x.1.weights Try.prog 74, n ≤ reachBytes) :
    ∃ s : Sp, cs = [.int .i64 s.k, .int .i64 s.a, .int .i64 s.n, .int .i64 s.t, .slice s.p s.l s.c] ∧ Spz W s := by
  obtain ⟨xs, n, -, hx, hl, hxl, hf⟩ := DataW.trod_struct Try.underlying74 h
  rw [cells74] at hl
  match xs, hxl, cs, hl with
  | [y0, y1, y2, y3, y4], _, [v0, v1, v2, v3, v4], _ =>
    have g0 : DataW.trod enc Try.prog W 0 (fun _ => true) true n 3 [v0] = some y0 := by simpa [cells3] using hf 0 _ rfl
    have g1 : DataW.trod enc Try.prog W 0 (fun _ => true) true n 3 [v1] = some y1 := by simpa [cells3] using hf 1 _ rfl
    have g2 : DataW.trod enc Try.prog W 0 (fun _ => true) true n 3 [v2] = some y2 := by simpa [cells3] using hf 2 _ rfl
    have g3 : DataW.trod enc Try.prog W 0 (fun _ => true) true n 3 [v3] = some y3 := by simpa [cells3] using hf 3 _ rfl
    have g4 : DataW.trod enc Try.prog W 0 (fun _ => true) true n 70 [v4] = some y4 := by simpa [cells3, cells70] using hf 4 _ rfl
    have e9 : x.1 = .agg ([y0, y1, y2, y3, y4].map (·.1)) := by have := congrArg Prod.fst hx; simpa using this
    have hw : ∀ m ∈ y4.1.weights Try.prog 70, m ≤ reachBytes := fun m hm => hsz m (by
      rw [e9]
      simp only [DataW.weights, Try.underlying74]
      exact DataW.weights_mem_each (j := 4) (t := 70) (d := y4.1) rfl (by rfl) m hm)
    obtain ⟨z0, e0, -, -⟩ := DataW.trod_int Try.underlying3 g0
    obtain ⟨z1, e1, -, w1⟩ := DataW.trod_int Try.underlying3 g1
    obtain ⟨z2, e2, -, w2⟩ := DataW.trod_int Try.underlying3 g2
    obtain ⟨z3, e3, -, w3⟩ := DataW.trod_int Try.underlying3 g3
    obtain ⟨a1, k1, c1, l1, rfl, hT1, hk1⟩ := open_tx g4 hw
    simp only [List.cons.injEq, and_true] at e0 e1 e2 e3
    subst e0 e1 e2 e3
    exact ⟨⟨z0, z1, z2, z3, a1, k1, c1, l1⟩, rfl, ⟨hT1, bounds_i64 w1, bounds_i64 w2, bounds_i64 w3⟩⟩
set_option maxRecDepth 100000 in
/-- a list of steps -/
theorem open_steps0 {fuel : Nat} {v : Value} {x : DataW H × List MemPlace} (hf : DataW.trod enc Try.prog W 0 (fun _ => true) true fuel 71 [v] = some x) (hsz : ∀ n ∈ x.1.weights Try.prog 71, n ≤ reachBytes) :
    ∃ ao n c L, v = .slice ao n c ∧ Stz W ao L ∧ L.length = n := by
  rcases open_slice Try.underlying71 hf with ⟨hcs, hx⟩ | ⟨a, l, c, m, n, D, Pl, hcs, _, hl, hm, hm2, hx, hrow⟩
  · simp only [List.cons.injEq, and_true] at hcs
    subst hcs
    exact ⟨none, 0, 0, [], rfl, fun k r hr => by simp at hr, rfl⟩
  · simp only [List.cons.injEq, and_true] at hcs
    subst hcs
    simp only [if_true] at hm2
    subst hm2
    subst hx
    have each : ∀ r, ∃ e : Sp, r < l → (∃ g o, a = ⟨g, o, none⟩ ∧ Sp5 W g (o + r * 5) e) ∧ Spz W e := fun r => by
      by_cases hr : r < l
      · obtain ⟨cs', h1, h2⟩ := hrow r (by omega)
        rw [cells74] at h1
        obtain ⟨e, ee, t1⟩ := open_step h2 (fun q hq => hsz q (by
          have hmem : D r ∈ (List.range l).map D := List.mem_map.2 ⟨r, List.mem_range.2 hr, rfl⟩
          have h9 := weightsAll_mem (P := Try.prog) hmem hq
          simp only [DataW.weights, Try.underlying71, List.mem_cons, List.mem_append]
          exact .inr (.inl h9)))
        subst ee
        obtain ⟨_, hlen, hcell⟩ := World.cells?_some h1
        have c0 := hcell 0 (by omega)
        have c1 := hcell 1 (by omega)
        have c2 := hcell 2 (by omega)
        have c3 := hcell 3 (by omega)
        have c4 := hcell 4 (by omega)
        obtain ⟨g, o, sp⟩ := a
        have hs : sp = none := by
          obtain ⟨_, h01, _⟩ := hrow 0 (by omega)
          rw [cells74] at h01
          obtain ⟨_, hl0, hc0⟩ := World.cells?_some h01
          have := World.cell?_spot ((hc0 0 (by omega)).trans (List.getElem?_eq_getElem (by omega)))
          simpa [Addr.add] using this
        subst hs
        rw [add_none, add_none] at c0 c1 c2 c3 c4
        exact ⟨e, fun _ => ⟨⟨g, o, rfl, ⟨by simpa using c0, by simpa using c1, by simpa using c2, by simpa using c3, by simpa using c4⟩⟩, t1⟩⟩
      · exact ⟨⟨0, 0, 0, 0, none, 0, 0, []⟩, fun h => absurd h hr⟩
    obtain ⟨f, hff⟩ := Classical.axiomOfChoice each
    have hat : ∀ (k : Nat) (r : Sp), ((List.range l).map f)[k]? = some r → k < l ∧ r = f k := fun k r hk => by
      have hk' : k < l := by have := (List.getElem?_eq_some_iff.1 hk).1; simpa using this
      rw [List.getElem?_map, List.getElem?_range hk'] at hk
      simp at hk
      exact ⟨hk', hk.symm⟩
    refine ⟨some a, l, _, (List.range l).map f, rfl, fun k r hk => ?_, by simp⟩
    obtain ⟨hk', rfl⟩ := hat k r hk
    obtain ⟨⟨g, o, e0, e1⟩, e2⟩ := hff k hk'
    exact ⟨⟨g, o, by rw [e0], e1⟩, e2⟩
theorem open_steps {v : Value} {d : DataW H} {p : List MemPlace} (h : DataW.Trod enc Try.prog W 0 (fun _ => true) true 71 v d p) (hv : ∃ a len cap, v = .slice a len cap) (hsz : ∀ n ∈ d.weights Try.prog 71, n ≤ reachBytes) :
    ∃ ao n c L, v = .slice ao n c ∧ Stz W ao L ∧ L.length = n := by
  obtain ⟨a, len, cap, rfl⟩ := hv
  obtain ⟨fuel, hf⟩ := h
  exact open_steps0 hf hsz
end
end Go.Proofs.Ytaahklapoppgaaa
