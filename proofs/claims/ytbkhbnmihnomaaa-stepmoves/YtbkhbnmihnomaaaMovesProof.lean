/- Proved: quoinlaw07.StepMoves returns true for every text and all questions, and leaves its arguments as they were; no condition. -/
import Derived.Test.YtbkhbnmihnomaaaMoves
import Derived.Test.YtbkhbnmihnomaaaOpen
import Derived.Deep.Matrix
namespace Go.Proofs.Ytbkhbnmihnomaaa.stepMoves
open Go.ChangeShapes Go.WideShapes Go.ChangeAt Go.RowKit Go.Joins Go.Deep

theorem cells3 : Try.prog.cellsOf 3 = 1 := by kernel_rfl
theorem cells9 : Try.prog.cellsOf 9 = 1 := by kernel_rfl
theorem bytes27 : Try.prog.bytesOf 27 = 40 := by kernel_rfl
section
variable {H : Type} {enc : TypeId × Value → H} {W : World}
/-- one question -/
theorem open_ask {fuel : Nat} {cs : List Value} {x : DataW H × List MemPlace} (h : DataW.trod enc Try.prog W 0 (fun _ => true) true fuel 27 cs = some x) :
    ∃ q : Qn, cs = [.int .i64 q.at', .int .i64 q.want, .int .i64 q.cnt, .string q.key] ∧ q.want ≤ 9223372036854775807 := by
  obtain ⟨xs, n, -, rfl, hl, hxl, hf⟩ := DataW.trod_struct Try.underlying27 h
  rw [cells27] at hl
  match xs, hxl, cs, hl with
  | [y0, y1, y2, y3], _, [v0, v1, v2, v3], _ =>
    have g0 : DataW.trod enc Try.prog W 0 (fun _ => true) true n 3 [v0] = some y0 := by have := hf 0 { name := "At", type := 3, offset := 0, embedded := false, tag := "", pkgPath := "", byteOffset := 0 } rfl; dsimp only at this; rw [cells3] at this; exact this
    have g1 : DataW.trod enc Try.prog W 0 (fun _ => true) true n 3 [v1] = some y1 := by have := hf 1 { name := "Want", type := 3, offset := 1, embedded := false, tag := "", pkgPath := "", byteOffset := 8 } rfl; dsimp only at this; rw [cells3] at this; exact this
    have g2 : DataW.trod enc Try.prog W 0 (fun _ => true) true n 3 [v2] = some y2 := by have := hf 2 { name := "Count", type := 3, offset := 2, embedded := false, tag := "", pkgPath := "", byteOffset := 16 } rfl; dsimp only at this; rw [cells3] at this; exact this
    have g3 : DataW.trod enc Try.prog W 0 (fun _ => true) true n 9 [v3] = some y3 := by have := hf 3 { name := "Key", type := 9, offset := 3, embedded := false, tag := "", pkgPath := "", byteOffset := 24 } rfl; dsimp only at this; rw [cells9] at this; exact this
    obtain ⟨i, e0, -, -⟩ := DataW.trod_int Try.underlying3 g0
    obtain ⟨want, e1, -, ww⟩ := DataW.trod_int Try.underlying3 g1
    obtain ⟨cnt, e2, -, -⟩ := DataW.trod_int Try.underlying3 g2
    obtain ⟨s, e3, -, -⟩ := DataW.trod_string Try.underlying9 g3
    simp only [List.cons.injEq, and_true] at e0 e1 e2 e3
    subst e0 e1 e2 e3
    exact ⟨⟨i, want, cnt, s⟩, rfl, (bounds_i64 ww).2⟩

/-- a list of questions -/
theorem open_asks {v : Value} {d : DataW H} {p : List MemPlace} (h : DataW.Trod enc Try.prog W 0 (fun _ => true) true 23 v d p) (hv : ∃ a len cap, v = .slice a len cap) (hsz : ∀ n ∈ d.weights Try.prog 23, n ≤ reachBytes) :
    ∃ bo m c A, v = .slice bo m c ∧ Qs W bo m A := by
  obtain ⟨a, len, cap, rfl⟩ := hv
  obtain ⟨fuel, hf⟩ := h
  rcases open_slice Try.underlying23 hf with ⟨hcs, _⟩ | ⟨x, l', c, m, n, D, Pl, hcs, _, hl, hm, hmm, hx, hall⟩
  · simp [Value.cells] at hcs
    obtain ⟨rfl, rfl, rfl⟩ := hcs
    exact ⟨none, 0, 0, fun _ => ⟨0, 0, 0, ⟨#[]⟩⟩, rfl, by omega, fun t ht => by omega, fun t ht => by omega⟩
  · simp [Value.cells] at hcs
    obtain ⟨rfl, rfl, rfl⟩ := hcs
    simp only [if_true] at hmm
    subst hmm
    simp only [Prod.mk.injEq] at hx
    obtain ⟨rfl, -⟩ := hx
    have h2 := hsz ((((List.range len).map D).length + ((List.range (m - len)).map fun j => D (len + j)).length) * 40) (by simp [DataW.weights, Try.underlying23, bytes27])
    simp only [List.length_map, List.length_range, reachBytes] at h2
    have each : ∀ t, t < len → ∃ q : Qn, ∃ g off, x = ⟨g, off, none⟩ ∧ W.cell? ⟨g, off + t * 4, none⟩ = some (.int .i64 q.at') ∧ W.cell? ⟨g, off + t * 4 + 1, none⟩ = some (.int .i64 q.want) ∧ W.cell? ⟨g, off + t * 4 + 2, none⟩ = some (.int .i64 q.cnt) ∧ W.cell? ⟨g, off + t * 4 + 3, none⟩ = some (.string q.key) ∧ q.want ≤ 9223372036854775807 := by
      intro t ht
      obtain ⟨cs', h1, h2⟩ := hall t (by omega)
      rw [cells27] at h1
      obtain ⟨_, hlen, hcell⟩ := World.cells?_some h1
      obtain ⟨q, rfl, hb⟩ := open_ask h2
      obtain ⟨g, off, spot⟩ := x
      have hspot : spot = none := by
        obtain ⟨cz, z1, z2⟩ := hall 0 (by omega)
        rw [cells27] at z1
        obtain ⟨_, zl, zc⟩ := World.cells?_some z1
        have h0 := zc 0 (by omega)
        rw [List.getElem?_eq_getElem (by omega)] at h0
        simpa [Addr.add] using World.cell?_spot h0
      subst hspot
      have hc : ∀ j, j < 4 → W.cell? ⟨g, off + t * 4 + j, none⟩ = [Value.int .i64 q.at', .int .i64 q.want, .int .i64 q.cnt, .string q.key][j]? := fun j hj => by
        have h0 := hcell j hj
        rw [add_none, add_none] at h0
        exact h0
      exact ⟨q, g, off, rfl, hc 0 (by omega), hc 1 (by omega), hc 2 (by omega), hc 3 (by omega), hb⟩
    have _inh : Inhabited Qn := ⟨⟨0, 0, 0, ⟨#[]⟩⟩⟩
    obtain ⟨A, hA⟩ := choose_lt each
    refine ⟨some x, len, m, A, rfl, by omega, fun t ht => ?_, fun t ht => ?_⟩
    · obtain ⟨g, off, h0, h1, h2, h3, h4, h5⟩ := hA t ht
      exact h5
    · obtain ⟨g, off, h0, h1, h2, h3, h4, h5⟩ := hA t ht
      exact ⟨g, off, by rw [h0], h1, h2, h3, h4⟩
end
/-- the text's bytes are bounded by what can be read -/
theorem open0' {H : Type} {enc : TypeId × Value → H} {W : World} {v : Value} {d : DataW H} {p : List MemPlace} (h : DataW.Trod enc Try.prog W 0 (fun _ => true) true 22 v d p) (hv : ∃ a len cap, v = .slice a len cap)
    (hsz : ∀ n ∈ d.weights Try.prog 22, n ≤ reachBytes) : ∃ ao n c l, v = .slice ao n c ∧ Tx W ao n c l ∧ n ≤ 140737488351232 := by
  obtain ⟨ao, n, c, l, rfl, hT⟩ := open0 h hv hsz
  refine ⟨ao, n, c, l, rfl, hT, ?_⟩
  obtain ⟨fuel, hf⟩ := h
  rcases open_ints Try.underlying22 Try.underlying5 cells5 hf with ⟨hcs, _⟩ | ⟨x, l', c', zs, hcs, _, hl, hm, hz, hx, hcell, hwz⟩
  · simp [Value.cells] at hcs
    omega
  · simp [Value.cells] at hcs
    obtain ⟨rfl, rfl, rfl⟩ := hcs
    simp only [if_true] at hz
    simp only [Prod.mk.injEq] at hx
    obtain ⟨rfl, -⟩ := hx
    have h2 := hsz ((lits (H := H) .u8 (zs.take n)).length + (lits (H := H) .u8 (zs.drop n)).length) (by simp [DataW.weights, Try.underlying22, bytes5])
    simp only [lits, List.length_map, List.length_take, List.length_drop, reachBytes] at h2
    omega

set_option maxRecDepth 100000 in
theorem lifted (os : Os) (started : os.Started) (H : Type) (enc : TypeId × Value → H) :
    ReturnsInHanded {} Try.checked os 3 .any (Rows.stepMovesSpec.pre6 enc Try.prog Try.f3 Rows.stepMovesRow.domain false) (Rows.stepMovesSpec.post enc Try.prog Try.f3 false true false false) := by
  refine returnsInHanded_of_change_sized (C := Try.checked) own started (by kernel_rfl) Try.func3
    (ChangeSpec.witness6 (enc := enc) (C := Try.checked) false ⟨#[], #[.slice none 0 0, .slice none 0 0], []⟩ 8 (by kernel_rfl) (by kernel_rfl) (by kernel_rfl) (by kernel_rfl)) ?_
  intro W base args ds gs before hval0 hW _ hsz0 _
  have hval : ∀ (j : Nat) t v, Try.f3.params[j]? = some t → args[j]? = some v → Value.okWide Try.prog W .any base t v := hval0
  have hsz : (DataW.weightsEach Try.prog (Try.f3.params.toList ++ Rows.stepMovesSpec.plain.varTypes Try.prog) (ds ++ gs)).all (· ≤ reachBytes) = true := hsz0
  have hW' := hW
  obtain ⟨p, q, hA0, hV, rfl, _, _⟩ := hW
  have hA : DataW.TrodAll enc Try.prog W 0 (fun _ => true) true Try.f3.params.toList args.toList ds p := hA0
  rw [Try.params3] at hA hval hsz
  obtain ⟨v0, vs0, d0, ds0, p0, q0, hargs, rfl, rfl, h0, r0⟩ := trodAll_cons hA
  obtain ⟨v1, vs1, d1, ds1, p1, q1, rfl, rfl, rfl, h1, r1⟩ := trodAll_cons r0
  obtain ⟨rfl, rfl, rfl⟩ := trodAll_nil r1
  obtain rfl : args = #[v0, v1] := by cases args; simp_all
  obtain ⟨rfl, rfl⟩ := trodVars_none hV
  have lt0 : ∀ x ∈ p0, x.block < W.heap.size := by obtain ⟨m, hm⟩ := h0; exact DataW.trod_lt m _ _ _ hm
  have lt1 : ∀ x ∈ p1, x.block < W.heap.size := by obtain ⟨m, hm⟩ := h1; exact DataW.trod_lt m _ _ _ hm
  have w0 : ∀ n ∈ d0.weights Try.prog 22, n ≤ reachBytes := fun n hn => by
    have := List.all_eq_true.1 hsz n (DataW.weights_mem_each (j := 0) (t := 22) (d := d0) rfl rfl n hn)
    simpa using this
  have w1 : ∀ n ∈ d1.weights Try.prog 23, n ≤ reachBytes := fun n hn => by
    have := List.all_eq_true.1 hsz n (DataW.weights_mem_each (j := 1) (t := 23) (d := d1) rfl rfl n hn)
    simpa using this
  obtain ⟨ao, n, c, l, e0, hT, hn⟩ := open0' h0 (okWide_slice Try.underlying22 (hval 0 22 v0 rfl rfl)) w0
  obtain ⟨bo, m, d, A, e1, hQ⟩ := open_asks h1 (okWide_slice Try.underlying23 (hval 1 23 v1 rfl rfl)) w1
  subst e0 e1
  clear hA0 hval0 hsz hsz0
  refine (stepMoves_walk ao n c l bo m d A W hn hT hQ).mono fun e W' ⟨he, bel⟩ => ?_
  subst he
  exact ⟨_, rfl, _, _, _, [], _, [], hW', trodAll_mk1 (shut_bool Try.underlying4 _), (trodAll_cons_mk (Below.trod laidOut (by kernel_rfl) (of_decide_eq_true (by kernel_rfl)) h0 bel lt0) (trodAll_cons_mk (Below.trod laidOut (by kernel_rfl) (of_decide_eq_true (by kernel_rfl)) h1 bel lt1) trodAll_mk0)), rfl, bel.frame _, fun h => by cases h⟩

theorem over : Rows.stepMovesRow.holds Try.pinned (OpenSpec.ofChange Rows.stepMovesSpec) :=
  OpenClaim.holds_of_wide 3 Try.f3 rfl rfl rfl rfl rfl rfl rfl ⟨rfl, rfl, rfl, rfl, rfl⟩ rfl rfl rfl rfl rfl (by kernel_rfl) Try.func3 (by kernel_rfl)
    (of_decide_eq_true (by kernel_rfl)) (by unfold Func.isWrapper; first | (rw [if_pos (by decide +kernel)]; kernel_rfl) | (rw [if_neg (by decide +kernel)]; exact ⟨rfl, rfl⟩))
    (fun os started H enc _ => lifted os started H enc)

end Go.Proofs.Ytbkhbnmihnomaaa.stepMoves
namespace Go.Proofs.Ytbkhbnmihnomaaa
/-- The given statement. -/
theorem stepMoves_holds : Rows.StepMovesSaid := stepMoves.over
end Go.Proofs.Ytbkhbnmihnomaaa
