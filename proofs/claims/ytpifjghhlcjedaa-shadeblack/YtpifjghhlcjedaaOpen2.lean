/- A script that came in, opened: a slice of steps, each with a list of pieces. -/
import Derived.Test.YtpifjghhlcjedaaOpen
namespace Go.Proofs.Ytpifjghhlcjedaa
open Go.ChangeShapes Go.WideShapes Go.ChangeAt Go.RowKit Go.Deep

theorem cells35 : Try.prog.cellsOf 35 = 9 := by kernel_rfl
theorem cells33 : Try.prog.cellsOf 33 = 1 := by kernel_rfl

/-- A step: kind, two places, a place, a piece, a list. -/
structure Stp where
  k : Int
  a : Int
  b : Int
  i : Int
  p : Pc
  v : Value
  l : List Pc
def i64B (x : Int) : Prop := -9223372036854775808 ≤ x ∧ x ≤ 9223372036854775807
def Stp.ok (W : World) (s : Stp) : Prop := i64B s.k ∧ i64B s.a ∧ i64B s.b ∧ i64B s.i ∧ (∃ ao n c, s.v = .slice ao n c) ∧ Rdb W s.v s.l
def Stp.cs (s : Stp) : List Value := [.int .i64 s.k, .int .i64 s.a, .int .i64 s.b, .int .i64 s.i, .int .i64 s.p.s, .int .i64 s.p.o, .int .i64 s.p.l, .int .i64 s.p.n, s.v]
/-- what a script reads -/
def Rds (W : World) (ao : Option Addr) (S : List Stp) : Prop := S = [] ∨ ∃ b off, ao = some ⟨b, off, none⟩ ∧ ∀ j s, S[j]? = some s → s.ok W ∧ ∀ q, q < 9 → W.cell? ⟨b, off + j * 9 + q, none⟩ = s.cs[q]?

theorem Rds.below {w W : World} {ao : Option Addr} {S : List Stp} (h : Rds w ao S) (hb : Below w.heap.size w W) : Rds W ao S := by
  rcases h with h | ⟨b, off, e, h⟩
  · exact .inl h
  · refine .inr ⟨b, off, e, fun j s hj => ?_⟩
    obtain ⟨⟨k1, k2, k3, k4, k5, k6⟩, hc⟩ := h j s hj
    refine ⟨⟨k1, k2, k3, k4, k5, k6.keep hb⟩, fun q hq => ?_⟩
    have h0 := hc q hq
    have hl : q < s.cs.length := hq
    rw [List.getElem?_eq_getElem hl] at h0 ⊢
    rw [hb.cell (World.block_lt_of_cell? w _ h0)]
    exact h0
/-- the step at j, its nine cells -/
theorem Rds.at {w : World} {ao : Option Addr} {S : List Stp} (h : Rds w ao S) {j : Nat} {s : Stp} (hj : S[j]? = some s) : ∃ b off, ao = some ⟨b, off, none⟩ ∧ s.ok w ∧ w.cell? ⟨b, off + j * 9, none⟩ = some (.int .i64 s.k) ∧ w.cell? ⟨b, off + j * 9 + 1, none⟩ = some (.int .i64 s.a) ∧ w.cell? ⟨b, off + j * 9 + 2, none⟩ = some (.int .i64 s.b) ∧ w.cell? ⟨b, off + j * 9 + 3, none⟩ = some (.int .i64 s.i) ∧ w.cell? ⟨b, off + j * 9 + 4, none⟩ = some (.int .i64 s.p.s) ∧ w.cell? ⟨b, off + j * 9 + 5, none⟩ = some (.int .i64 s.p.o) ∧ w.cell? ⟨b, off + j * 9 + 6, none⟩ = some (.int .i64 s.p.l) ∧ w.cell? ⟨b, off + j * 9 + 7, none⟩ = some (.int .i64 s.p.n) ∧ w.cell? ⟨b, off + j * 9 + 8, none⟩ = some s.v := by
  rcases h with h | ⟨b, off, e, h⟩
  · subst h; simp at hj
  · obtain ⟨h1, h2⟩ := h j s hj
    exact ⟨b, off, e, h1, h2 0 (by omega), h2 1 (by omega), h2 2 (by omega), h2 3 (by omega), h2 4 (by omega), h2 5 (by omega), h2 6 (by omega), h2 7 (by omega), h2 8 (by omega)⟩

section
variable {H : Type} {enc : TypeId × Value → H} {W : World}

set_option maxRecDepth 100000 in
theorem open_step {fuel : Nat} {cs : List Value} {x : DataW H × List MemPlace} (h : DataW.trod enc Try.prog W 0 (fun _ => true) true fuel 35 cs = some x) :
    ∃ s : Stp, cs = s.cs ∧ s.ok W := by
  obtain ⟨xs, n, -, rfl, hl, hxl, hf⟩ := DataW.trod_struct Try.underlying35 h
  rw [cells35] at hl
  match xs, hxl, cs, hl with
  | [y0, y1, y2, y3, y4, y5], _, [v0, v1, v2, v3, v4, v5, v6, v7, v8], _ =>
    have g0 : DataW.trod enc Try.prog W 0 (fun _ => true) true n 3 [v0] = some y0 := by have := hf 0 { name := "Kind", type := 3, offset := 0, embedded := false, tag := "", pkgPath := "", byteOffset := 0 } rfl; dsimp only at this; rw [cells3] at this; exact this
    have g1 : DataW.trod enc Try.prog W 0 (fun _ => true) true n 3 [v1] = some y1 := by have := hf 1 { name := "A", type := 3, offset := 1, embedded := false, tag := "", pkgPath := "", byteOffset := 8 } rfl; dsimp only at this; rw [cells3] at this; exact this
    have g2 : DataW.trod enc Try.prog W 0 (fun _ => true) true n 3 [v2] = some y2 := by have := hf 2 { name := "B", type := 3, offset := 2, embedded := false, tag := "", pkgPath := "", byteOffset := 16 } rfl; dsimp only at this; rw [cells3] at this; exact this
    have g3 : DataW.trod enc Try.prog W 0 (fun _ => true) true n 3 [v3] = some y3 := by have := hf 3 { name := "At", type := 3, offset := 3, embedded := false, tag := "", pkgPath := "", byteOffset := 24 } rfl; dsimp only at this; rw [cells3] at this; exact this
    have g4 : DataW.trod enc Try.prog W 0 (fun _ => true) true n 32 [v4, v5, v6, v7] = some y4 := by have := hf 4 { name := "P", type := 32, offset := 4, embedded := false, tag := "", pkgPath := "", byteOffset := 32 } rfl; dsimp only at this; rw [cells32] at this; exact this
    have g5 : DataW.trod enc Try.prog W 0 (fun _ => true) true n 33 [v8] = some y5 := by have := hf 5 { name := "List", type := 33, offset := 8, embedded := false, tag := "", pkgPath := "", byteOffset := 64 } rfl; dsimp only at this; rw [cells33] at this; exact this
    obtain ⟨k0, e0, -, w0⟩ := DataW.trod_int Try.underlying3 g0
    obtain ⟨k1, e1, -, w1⟩ := DataW.trod_int Try.underlying3 g1
    obtain ⟨k2, e2, -, w2⟩ := DataW.trod_int Try.underlying3 g2
    obtain ⟨k3, e3, -, w3⟩ := DataW.trod_int Try.underlying3 g3
    obtain ⟨s, o, l, k, e4, -, -, -, -⟩ := open_piece g4
    have hsl : ∃ a len cap, v8 = .slice a len cap := by
      rcases open_slice Try.underlying33 g5 with ⟨hcs, _⟩ | ⟨x, l', c, m, n, D, Pl, hcs, _⟩
      · simp at hcs; exact ⟨_, _, _, hcs⟩
      · simp at hcs; exact ⟨_, _, _, hcs⟩
    obtain ⟨ao, m, c, L, e5, hm, hR⟩ := open_pieces (enc := enc) (W := W) (v := v8) (d := y5.1) (p := y5.2) ⟨n, by obtain ⟨_, _, _, rfl⟩ := hsl; exact g5⟩ hsl
    simp only [List.cons.injEq, and_true] at e0 e1 e2 e3 e4
    obtain ⟨rfl, rfl, rfl, rfl⟩ := e4
    subst e0 e1 e2 e3
    refine ⟨⟨k0, k1, k2, k3, ⟨s, o, l, k⟩, v8, L⟩, rfl, bounds_i64 w0, bounds_i64 w1, bounds_i64 w2, bounds_i64 w3, ⟨_, _, _, e5⟩, ?_⟩
    show Rdb W v8 L
    rw [e5]
    exact hR

set_option maxRecDepth 100000 in
theorem open_steps {v : Value} {d : DataW H} {p : List MemPlace} (h : DataW.Trod enc Try.prog W 0 (fun _ => true) true 22 v d p) (hv : ∃ a len cap, v = .slice a len cap) :
    ∃ ao n c S, v = .slice ao n c ∧ n = S.length ∧ Rds W ao S := by
  obtain ⟨a, len, cap, rfl⟩ := hv
  obtain ⟨fuel, hf⟩ := h
  rcases open_slice Try.underlying22 hf with ⟨hcs, _⟩ | ⟨x, l', c, m, n, D, Pl, hcs, _, hl, hm, hmm, hx, hall⟩
  · simp [Value.cells] at hcs
    obtain ⟨rfl, rfl, rfl⟩ := hcs
    exact ⟨none, 0, 0, [], rfl, rfl, .inl rfl⟩
  · simp [Value.cells] at hcs
    obtain ⟨rfl, rfl, rfl⟩ := hcs
    simp only [if_true] at hmm
    subst hmm
    have each : ∀ t, t < len → ∃ q : Stp, ∃ g off, x = ⟨g, off, none⟩ ∧ q.ok W ∧ ∀ j, j < 9 → W.cell? ⟨g, off + t * 9 + j, none⟩ = q.cs[j]? := by
      intro t ht
      obtain ⟨cs', h1, h2⟩ := hall t (by omega)
      rw [cells35] at h1
      obtain ⟨_, hlen, hcell⟩ := World.cells?_some h1
      obtain ⟨q, rfl, hq⟩ := open_step h2
      obtain ⟨g, off, spot⟩ := x
      have hspot : spot = none := by
        obtain ⟨cz, z1, z2⟩ := hall 0 (by omega)
        rw [cells35] at z1
        obtain ⟨_, zl, zc⟩ := World.cells?_some z1
        have h0 := zc 0 (by omega)
        rw [List.getElem?_eq_getElem (by omega)] at h0
        simpa [Addr.add] using World.cell?_spot h0
      subst hspot
      refine ⟨q, g, off, rfl, hq, fun j hj => ?_⟩
      have h0 := hcell j hj
      rw [add_add, Go.WideShapes.add_plain, ← Nat.add_assoc] at h0
      exact h0
    have inh : Inhabited Stp := ⟨⟨0, 0, 0, 0, ⟨0, 0, 0, 0⟩, .bool false, []⟩⟩
    obtain ⟨q, hq⟩ := choose_lt each
    refine ⟨some x, len, m, (List.range len).map q, rfl, by simp, ?_⟩
    by_cases h0 : len = 0
    · subst h0; exact .inl (by simp)
    · obtain ⟨g, off, e, -⟩ := hq 0 (by omega)
      refine .inr ⟨g, off, by rw [e], fun j p hj => ?_⟩
      have hj' : j < len := by have := (List.getElem?_eq_some_iff.1 hj).1; simpa using this
      have e2 : p = q j := by
        rw [List.getElem?_map, List.getElem?_range hj'] at hj
        simpa using hj.symm
      obtain ⟨g', off', e', h1, h2⟩ := hq j hj'
      rw [e] at e'
      injection e' with e3 e4
      subst e3 e4 e2
      exact ⟨h1, h2⟩
end
end Go.Proofs.Ytpifjghhlcjedaa
