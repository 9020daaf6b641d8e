/- A slice of pieces that came in, opened. -/
import Derived.Test.YtcaegdfbbjfgpaaAm02
import Derived.ProofKit
import Derived.OpenShut
import Derived.SizedLaws
import Derived.Deep.Matrix
namespace Go.Proofs.Ytcaegdfbbjfgpaa
open Go.ChangeShapes Go.WideShapes Go.ChangeAt Go.RowKit Go.Deep

theorem own : ownKnob Try.prog.godebug = none := by kernel_rfl
theorem laidOut : laidOutB Try.prog = true := by kernel_rfl
theorem cells3 : Try.prog.cellsOf 3 = 1 := by kernel_rfl
theorem cells30 : Try.prog.cellsOf 30 = 3 := by kernel_rfl
theorem cells32 : Try.prog.cellsOf 32 = 4 := by kernel_rfl

section
variable {H : Type} {enc : TypeId × Value → H} {W : World}

set_option maxRecDepth 100000 in
theorem open_piece {fuel : Nat} {cs : List Value} {x : DataW H × List MemPlace} (h : DataW.trod enc Try.prog W 0 (fun _ => true) true fuel 32 cs = some x) :
    ∃ (s o l k : Int), cs = [.int .i64 s, .int .i64 o, .int .i64 l, .int .i64 k] ∧ -9223372036854775808 ≤ l ∧ l ≤ 9223372036854775807 ∧ -9223372036854775808 ≤ k ∧ k ≤ 9223372036854775807 := by
  obtain ⟨xs, n, -, rfl, hl, hxl, hf⟩ := DataW.trod_struct Try.underlying32 h
  rw [cells32] at hl
  match xs, hxl, cs, hl with
  | [y0, y1], _, [v0, v1, v2, v3], _ =>
    have g0 : DataW.trod enc Try.prog W 0 (fun _ => true) true n 30 [v0, v1, v2] = some y0 := by have := hf 0 { name := "Span", type := 30, offset := 0, embedded := false, tag := "", pkgPath := "", byteOffset := 0 } rfl; dsimp only at this; rw [cells30] at this; exact this
    have g1 : DataW.trod enc Try.prog W 0 (fun _ => true) true n 3 [v3] = some y1 := by have := hf 1 { name := "Lines", type := 3, offset := 3, embedded := false, tag := "", pkgPath := "", byteOffset := 24 } rfl; dsimp only at this; rw [cells3] at this; exact this
    obtain ⟨k, e3, -, wk⟩ := DataW.trod_int Try.underlying3 g1
    obtain ⟨zs, n', -, -, hl', hzl, hf'⟩ := DataW.trod_struct Try.underlying30 g0
    match zs, hzl with
    | [z0, z1, z2], _ =>
      have k0 : DataW.trod enc Try.prog W 0 (fun _ => true) true n' 3 [v0] = some z0 := by have := hf' 0 { name := "Src", type := 3, offset := 0, embedded := false, tag := "", pkgPath := "", byteOffset := 0 } rfl; dsimp only at this; rw [cells3] at this; exact this
      have k1 : DataW.trod enc Try.prog W 0 (fun _ => true) true n' 3 [v1] = some z1 := by have := hf' 1 { name := "Off", type := 3, offset := 1, embedded := false, tag := "", pkgPath := "", byteOffset := 8 } rfl; dsimp only at this; rw [cells3] at this; exact this
      have k2 : DataW.trod enc Try.prog W 0 (fun _ => true) true n' 3 [v2] = some z2 := by have := hf' 2 { name := "Len", type := 3, offset := 2, embedded := false, tag := "", pkgPath := "", byteOffset := 16 } rfl; dsimp only at this; rw [cells3] at this; exact this
      obtain ⟨s, e0, -, -⟩ := DataW.trod_int Try.underlying3 k0
      obtain ⟨o, e1, -, -⟩ := DataW.trod_int Try.underlying3 k1
      obtain ⟨l, e2, -, wl⟩ := DataW.trod_int Try.underlying3 k2
      simp only [List.cons.injEq, and_true] at e0 e1 e2 e3
      subst e0 e1 e2 e3
      exact ⟨s, o, l, k, rfl, (bounds_i64 wl).1, (bounds_i64 wl).2, (bounds_i64 wk).1, (bounds_i64 wk).2⟩

set_option maxRecDepth 100000 in
/-- a slice of pieces -/
theorem open_pieces {v : Value} {d : DataW H} {p : List MemPlace} (h : DataW.Trod enc Try.prog W 0 (fun _ => true) true 33 v d p) (hv : ∃ a len cap, v = .slice a len cap) :
    ∃ ao n c L, v = .slice ao n c ∧ n = L.length ∧ Rdb W (.slice ao n c) L := by
  obtain ⟨a, len, cap, rfl⟩ := hv
  obtain ⟨fuel, hf⟩ := h
  rcases open_slice Try.underlying33 hf with ⟨hcs, _⟩ | ⟨x, l', c, m, n, D, Pl, hcs, _, hl, hm, hmm, hx, hall⟩
  · simp [Value.cells] at hcs
    obtain ⟨rfl, rfl, rfl⟩ := hcs
    exact ⟨none, 0, 0, [], rfl, rfl, _, _, _, rfl, rfl, Nat.le_refl _, .inl rfl⟩
  · simp [Value.cells] at hcs
    obtain ⟨rfl, rfl, rfl⟩ := hcs
    simp only [if_true] at hmm
    subst hmm
    have each : ∀ t, t < len → ∃ q : Pc, ∃ g off, x = ⟨g, off, none⟩ ∧ W.cell? ⟨g, off + t * 4, none⟩ = some (.int .i64 q.s) ∧ W.cell? ⟨g, off + t * 4 + 1, none⟩ = some (.int .i64 q.o) ∧ W.cell? ⟨g, off + t * 4 + 2, none⟩ = some (.int .i64 q.l) ∧ W.cell? ⟨g, off + t * 4 + 3, none⟩ = some (.int .i64 q.n) := by
      intro t ht
      obtain ⟨cs', h1, h2⟩ := hall t (by omega)
      rw [cells32] at h1
      obtain ⟨_, hlen, hcell⟩ := World.cells?_some h1
      obtain ⟨s, o, l, k, rfl, b1, b2, b3, b4⟩ := open_piece h2
      obtain ⟨g, off, spot⟩ := x
      have hspot : spot = none := by
        obtain ⟨cz, z1, z2⟩ := hall 0 (by omega)
        rw [cells32] at z1
        obtain ⟨_, zl, zc⟩ := World.cells?_some z1
        have h0 := zc 0 (by omega)
        rw [List.getElem?_eq_getElem (by omega)] at h0
        simpa [Addr.add] using World.cell?_spot h0
      subst hspot
      have hc : ∀ j, j < 4 → W.cell? ⟨g, off + t * 4 + j, none⟩ = [Value.int .i64 s, .int .i64 o, .int .i64 l, .int .i64 k][j]? := fun j hj => by
        have h0 := hcell j hj
        rw [add_add, Go.WideShapes.add_plain, ← Nat.add_assoc] at h0
        exact h0
      exact ⟨⟨s, o, l, k⟩, g, off, rfl, hc 0 (by omega), hc 1 (by omega), hc 2 (by omega), hc 3 (by omega)⟩
    have inh : Inhabited Pc := ⟨⟨0, 0, 0, 0⟩⟩
    obtain ⟨q, hq⟩ := choose_lt each
    refine ⟨some x, len, m, (List.range len).map q, rfl, by simp, _, _, _, rfl, by simp, by omega, ?_⟩
    by_cases h0 : len = 0
    · subst h0; exact .inl (by simp)
    · obtain ⟨g, off, e, -⟩ := hq 0 (by omega)
      refine .inr ⟨g, off, by rw [e], fun j p hj => ?_⟩
      have hj' : j < len := by have := (List.getElem?_eq_some_iff.1 hj).1; simpa using this
      have e2 : p = q j := by
        rw [List.getElem?_map, List.getElem?_range hj'] at hj
        simpa using hj.symm
      obtain ⟨g', off', e', h1, h2, h3, h4⟩ := hq j hj'
      rw [e] at e'
      injection e' with e3 e4
      subst e3 e4 e2
      exact ⟨h1, h2, h3, h4⟩
end
end Go.Proofs.Ytcaegdfbbjfgpaa

