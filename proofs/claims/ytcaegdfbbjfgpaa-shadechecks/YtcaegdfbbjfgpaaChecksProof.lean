/- Proved: quoinlaw02.ShadeChecks returns true for every list of rows, and leaves its argument as it was; no condition. -/
import Derived.Test.YtcaegdfbbjfgpaaOpen
import Derived.Test.YtcaegdfbbjfgpaaChecksWalk
namespace Go.Proofs.Ytcaegdfbbjfgpaa.checks
open Go.ChangeShapes Go.WideShapes Go.ChangeAt Go.RowKit Go.Deep

theorem cells4 : Try.prog.cellsOf 4 = 1 := by kernel_rfl
theorem cells72 : Try.prog.cellsOf 72 = 10 := by kernel_rfl

section
variable {H : Type} {enc : TypeId × Value → H} {W : World}
set_option maxRecDepth 100000 in
theorem open_row {fuel : Nat} {cs : List Value} {x : DataW H × List MemPlace} (h : DataW.trod enc Try.prog W 0 (fun _ => true) true fuel 72 cs = some x) :
    ∃ q : Rw, cs = [.int .i64 q.p.s, .int .i64 q.p.o, .int .i64 q.p.l, .int .i64 q.p.n, .bool q.red, .bool q.left, .bool q.right, .int .i64 q.cnt, .int .i64 q.byt, .int .i64 q.lin] := by
  obtain ⟨xs, n, -, rfl, hl, hxl, hf⟩ := DataW.trod_struct Try.underlying72 h
  rw [cells72] at hl
  match xs, hxl, cs, hl with
  | [y0, y1, y2, y3, y4, y5, y6], _, [v0, v1, v2, v3, v4, v5, v6, v7, v8, v9], _ =>
    have g0 : DataW.trod enc Try.prog W 0 (fun _ => true) true n 32 [v0, v1, v2, v3] = some y0 := by have := hf 0 { name := "Piece", type := 32, offset := 0, embedded := false, tag := "", pkgPath := "", byteOffset := 0 } rfl; dsimp only at this; rw [cells32] at this; exact this
    have g1 : DataW.trod enc Try.prog W 0 (fun _ => true) true n 4 [v4] = some y1 := by have := hf 1 { name := "Red", type := 4, offset := 4, embedded := false, tag := "", pkgPath := "", byteOffset := 32 } rfl; dsimp only at this; rw [cells4] at this; exact this
    have g2 : DataW.trod enc Try.prog W 0 (fun _ => true) true n 4 [v5] = some y2 := by have := hf 2 { name := "Left", type := 4, offset := 5, embedded := false, tag := "", pkgPath := "", byteOffset := 33 } rfl; dsimp only at this; rw [cells4] at this; exact this
    have g3 : DataW.trod enc Try.prog W 0 (fun _ => true) true n 4 [v6] = some y3 := by have := hf 3 { name := "Right", type := 4, offset := 6, embedded := false, tag := "", pkgPath := "", byteOffset := 34 } rfl; dsimp only at this; rw [cells4] at this; exact this
    have g4 : DataW.trod enc Try.prog W 0 (fun _ => true) true n 3 [v7] = some y4 := by have := hf 4 { name := "Pieces", type := 3, offset := 7, embedded := false, tag := "", pkgPath := "", byteOffset := 40 } rfl; dsimp only at this; rw [cells3] at this; exact this
    have g5 : DataW.trod enc Try.prog W 0 (fun _ => true) true n 3 [v8] = some y5 := by have := hf 5 { name := "Bytes", type := 3, offset := 8, embedded := false, tag := "", pkgPath := "", byteOffset := 48 } rfl; dsimp only at this; rw [cells3] at this; exact this
    have g6 : DataW.trod enc Try.prog W 0 (fun _ => true) true n 3 [v9] = some y6 := by have := hf 6 { name := "Lines", type := 3, offset := 9, embedded := false, tag := "", pkgPath := "", byteOffset := 56 } rfl; dsimp only at this; rw [cells3] at this; exact this
    obtain ⟨s, o, l, k, e0, -, -, -, -⟩ := open_piece g0
    obtain ⟨b1, e1, -⟩ := DataW.trod_bool Try.underlying4 g1
    obtain ⟨b2, e2, -⟩ := DataW.trod_bool Try.underlying4 g2
    obtain ⟨b3, e3, -⟩ := DataW.trod_bool Try.underlying4 g3
    obtain ⟨i4, e4, -, -⟩ := DataW.trod_int Try.underlying3 g4
    obtain ⟨i5, e5, -, -⟩ := DataW.trod_int Try.underlying3 g5
    obtain ⟨i6, e6, -, -⟩ := DataW.trod_int Try.underlying3 g6
    simp only [List.cons.injEq, and_true] at e0 e1 e2 e3 e4 e5 e6
    obtain ⟨a0, a1, a2, a3⟩ := e0
    subst a0 a1 a2 a3 e1 e2 e3 e4 e5 e6
    exact ⟨⟨⟨s, o, l, k⟩, b1, b2, b3, i4, i5, i6⟩, rfl⟩

set_option maxRecDepth 100000 in
/-- a slice of rows -/
theorem open_rows {v : Value} {d : DataW H} {p : List MemPlace} (h : DataW.Trod enc Try.prog W 0 (fun _ => true) true 37 v d p) (hv : ∃ a len cap, v = .slice a len cap) :
    ∃ L, Rdr W v L := by
  obtain ⟨a, len, cap, rfl⟩ := hv
  obtain ⟨fuel, hf⟩ := h
  rcases open_slice Try.underlying37 hf with ⟨hcs, _⟩ | ⟨x, l', c, m, n, D, Pl, hcs, _, hl, hm, hmm, hx, hall⟩
  · simp [Value.cells] at hcs
    obtain ⟨rfl, rfl, rfl⟩ := hcs
    exact ⟨[], _, _, _, rfl, rfl, Nat.le_refl _, .inl rfl⟩
  · simp [Value.cells] at hcs
    obtain ⟨rfl, rfl, rfl⟩ := hcs
    simp only [if_true] at hmm
    subst hmm
    have each : ∀ t, t < len → ∃ q : Rw, ∃ g off, x = ⟨g, off, none⟩ ∧ W.cell? ⟨g, off + t * 10, none⟩ = some (.int .i64 q.p.s) ∧ W.cell? ⟨g, off + t * 10 + 1, none⟩ = some (.int .i64 q.p.o) ∧ W.cell? ⟨g, off + t * 10 + 2, none⟩ = some (.int .i64 q.p.l) ∧ W.cell? ⟨g, off + t * 10 + 3, none⟩ = some (.int .i64 q.p.n) ∧ W.cell? ⟨g, off + t * 10 + 4, none⟩ = some (.bool q.red) ∧ W.cell? ⟨g, off + t * 10 + 5, none⟩ = some (.bool q.left) ∧ W.cell? ⟨g, off + t * 10 + 6, none⟩ = some (.bool q.right) ∧ W.cell? ⟨g, off + t * 10 + 7, none⟩ = some (.int .i64 q.cnt) ∧ W.cell? ⟨g, off + t * 10 + 8, none⟩ = some (.int .i64 q.byt) ∧ W.cell? ⟨g, off + t * 10 + 9, none⟩ = some (.int .i64 q.lin) := by
      intro t ht
      obtain ⟨cs', h1, h2⟩ := hall t (by omega)
      rw [cells72] at h1
      obtain ⟨_, hlen, hcell⟩ := World.cells?_some h1
      obtain ⟨q, rfl⟩ := open_row h2
      obtain ⟨g, off, spot⟩ := x
      have hspot : spot = none := by
        obtain ⟨cz, z1, z2⟩ := hall 0 (by omega)
        rw [cells72] at z1
        obtain ⟨_, zl, zc⟩ := World.cells?_some z1
        have h0 := zc 0 (by omega)
        rw [List.getElem?_eq_getElem (by omega)] at h0
        simpa [Addr.add] using World.cell?_spot h0
      subst hspot
      have hc : ∀ j, j < 10 → W.cell? ⟨g, off + t * 10 + j, none⟩ = ([Value.int .i64 q.p.s, .int .i64 q.p.o, .int .i64 q.p.l, .int .i64 q.p.n, .bool q.red, .bool q.left, .bool q.right, .int .i64 q.cnt, .int .i64 q.byt, .int .i64 q.lin] : List Value)[j]? := fun j hj => by
        have h0 := hcell j hj
        rw [add_add, Go.WideShapes.add_plain, ← Nat.add_assoc] at h0
        exact h0
      exact ⟨q, g, off, rfl, hc 0 (by omega), hc 1 (by omega), hc 2 (by omega), hc 3 (by omega), hc 4 (by omega), hc 5 (by omega), hc 6 (by omega), hc 7 (by omega), hc 8 (by omega), hc 9 (by omega)⟩
    have inh : Inhabited Rw := ⟨⟨⟨0, 0, 0, 0⟩, false, false, false, 0, 0, 0⟩⟩
    obtain ⟨q, hq⟩ := choose_lt each
    refine ⟨(List.range len).map q, _, _, _, rfl, by simp, by omega, ?_⟩
    by_cases h0 : len = 0
    · subst h0; exact .inl (by simp)
    · obtain ⟨g, off, e, -⟩ := hq 0 (by omega)
      refine .inr ⟨g, off, by rw [e], fun j p hj => ?_⟩
      have hj' : j < len := by have := (List.getElem?_eq_some_iff.1 hj).1; simpa using this
      have e2 : p = q j := by
        rw [List.getElem?_map, List.getElem?_range hj'] at hj
        simpa using hj.symm
      obtain ⟨g', off', e', h1⟩ := hq j hj'
      rw [e] at e'
      injection e' with e3 e4
      subst e3 e4 e2
      exact h1
end

set_option maxRecDepth 100000 in
theorem lifted (os : Os) (started : os.Started) (H : Type) (enc : TypeId × Value → H) :
    ReturnsInHanded {} Try.checked os 5 .any (Rows.shadeChecksSpec.pre6 enc Try.prog Try.f5 Rows.shadeChecksRow.domain false) (Rows.shadeChecksSpec.post enc Try.prog Try.f5 false true false false) := by
  refine returnsInHanded_of_change_sized (C := Try.checked) own started (by kernel_rfl) Try.func5
    (ChangeSpec.witness6 (enc := enc) (C := Try.checked) false ⟨#[], #[.slice none 0 0], []⟩ 8 (by kernel_rfl) (by kernel_rfl) (by kernel_rfl) (by kernel_rfl)) ?_
  intro W base args ds gs before hval0 hW _ hsz0 _
  have hval : ∀ (j : Nat) t v, Try.f5.params[j]? = some t → args[j]? = some v → Value.okWide Try.prog W .any base t v := hval0
  have hW' := hW
  obtain ⟨p, q, hA0, hV, rfl, _, _⟩ := hW
  have hA : DataW.TrodAll enc Try.prog W 0 (fun _ => true) true Try.f5.params.toList args.toList ds p := hA0
  rw [Try.params5] at hA hval
  obtain ⟨v0, vs0, d0, ds0, p0, q0, hargs, rfl, rfl, h0, r0⟩ := trodAll_cons hA
  obtain ⟨rfl, rfl, rfl⟩ := trodAll_nil r0
  obtain rfl : args = #[v0] := by cases args; simp_all
  obtain ⟨rfl, rfl⟩ := trodVars_none hV
  have lt0 : ∀ x ∈ p0, x.block < W.heap.size := by obtain ⟨m, hm⟩ := h0; exact DataW.trod_lt m _ _ _ hm
  obtain ⟨L, hR⟩ := open_rows h0 (okWide_slice Try.underlying37 (hval 0 37 v0 rfl rfl))
  clear hA0 hval0 hsz0
  refine (checks_walk L v0 W hR).mono fun e W' ⟨he, bel⟩ => ?_
  subst he
  exact ⟨_, rfl, _, _, _, [], _, [], hW', trodAll_mk1 (shut_bool Try.underlying4 _), (trodAll_cons_mk (Below.trod laidOut (by kernel_rfl) (of_decide_eq_true (by kernel_rfl)) h0 bel lt0) trodAll_mk0), rfl, bel.frame _, fun h => by cases h⟩

theorem over : Rows.shadeChecksRow.holds Try.pinned (OpenSpec.ofChange Rows.shadeChecksSpec) :=
  OpenClaim.holds_of_wide 5 Try.f5 rfl rfl rfl rfl rfl rfl rfl ⟨rfl, rfl, rfl, rfl, rfl⟩ rfl rfl rfl rfl rfl (by kernel_rfl) Try.func5 (by kernel_rfl)
    (of_decide_eq_true (by kernel_rfl)) (by unfold Func.isWrapper; first | (rw [if_pos (by decide +kernel)]; kernel_rfl) | (rw [if_neg (by decide +kernel)]; exact ⟨rfl, rfl⟩))
    (fun os started H enc _ => lifted os started H enc)
end Go.Proofs.Ytcaegdfbbjfgpaa.checks
namespace Go.Proofs.Ytcaegdfbbjfgpaa
/-- The given statement. -/
theorem shadeChecks_holds : Rows.ShadeChecksSaid := checks.over
end Go.Proofs.Ytcaegdfbbjfgpaa
