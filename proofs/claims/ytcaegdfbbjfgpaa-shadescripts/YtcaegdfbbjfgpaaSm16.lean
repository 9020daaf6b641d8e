/- How a script of trees lies in memory. -/
import Derived.Test.YtcaegdfbbjfgpaaAm03
import Derived.Test.YtcaegdfbbjfgpaaSm15
namespace Go.Proofs.Ytcaegdfbbjfgpaa.scr
open Go.ChangeShapes Go.WideShapes Go.ChangeAt Go.RowKit Go.Deep

theorem cells33 : Try.prog.cellsOf 33 = 1 := by kernel_rfl
theorem cells35 : Try.prog.cellsOf 35 = 9 := by kernel_rfl
theorem bytes32 : Try.prog.bytesOf 32 = 32 := by kernel_rfl
theorem weightsAll_mem {H : Type} {P : Program} {e : TypeId} : ∀ {l : List (DataW H)} {d : DataW H} {n : Nat}, d ∈ l → n ∈ d.weights P e → n ∈ DataW.weightsAll P e l
  | [], _, _, h, _ => by simp at h
  | x :: r, d, n, h, hn => by
    simp only [DataW.weightsAll, List.mem_append]
    rcases List.mem_cons.1 h with h | h
    · subst h; exact .inl hn
    · exact .inr (weightsAll_mem h hn)

section
variable {H : Type} {enc : TypeId × Value → H} {W : World}
set_option maxRecDepth 100000 in
theorem open_list {fuel : Nat} {v : Value} {x : DataW H × List MemPlace} (h : DataW.trod enc Try.prog W 0 (fun _ => true) true fuel 33 [v] = some x) :
    ∃ ao c L, v = .slice ao (List.length L) c ∧ Rdb W (.slice ao (List.length L) c) L ∧ (L.length = 0 ∨ ∃ n ∈ x.1.weights Try.prog 33, L.length * 32 ≤ n) := by
  rcases open_slice Try.underlying33 h with ⟨hcs, _⟩ | ⟨a, len, cap, m, n, D, Pl, hcs, _, hl, hm, hmm, hx, hall⟩
  · simp at hcs
    subst hcs
    exact ⟨none, 0, [], rfl, ⟨_, _, _, rfl, rfl, Nat.le_refl _, .inl rfl⟩, .inl rfl⟩
  · simp at hcs
    subst hcs
    obtain ⟨ao, n', c, L, e, hn, hR⟩ := open_pieces (d := x.1) (p := x.2) ⟨fuel, by simpa [Value.cells] using h⟩ ⟨_, _, _, rfl⟩
    cases e
    subst hn
    refine ⟨_, _, L, rfl, hR, .inr ⟨(L.length + (m - L.length)) * 32, ?_, Nat.mul_le_mul_right _ (by omega)⟩⟩
    subst hx
    simp only [DataW.weights, Try.underlying33, bytes32, List.length_map, List.length_range]
    exact List.mem_cons_self

set_option maxRecDepth 100000 in
/-- one step -/
theorem open_step {fuel : Nat} {cs : List Value} {x : DataW H × List MemPlace} (h : DataW.trod enc Try.prog W 0 (fun _ => true) true fuel 35 cs = some x) :
    ∃ q : Stp, cs = [.int .i64 q.kd, .int .i64 q.a, .int .i64 q.b, .int .i64 q.at', .int .i64 q.p.s, .int .i64 q.p.o, .int .i64 q.p.l, .int .i64 q.p.n, .slice q.lx q.L.length q.lz] ∧ Rdb W (.slice q.lx q.L.length q.lz) q.L ∧ ((-9223372036854775808 ≤ q.kd ∧ q.kd ≤ 9223372036854775807) ∧ (-9223372036854775808 ≤ q.a ∧ q.a ≤ 9223372036854775807) ∧ (-9223372036854775808 ≤ q.b ∧ q.b ≤ 9223372036854775807)) ∧ (q.L.length = 0 ∨ ∃ n ∈ x.1.weights Try.prog 35, q.L.length * 32 ≤ n) := by
  obtain ⟨xs, n, -, rfl, hl, hxl, hf⟩ := DataW.trod_struct Try.underlying35 h
  rw [cells35] at hl
  match xs, hxl, cs, hl with
  | [y0, y1, y2, y3, y4, y5], _, [v0, v1, v2, v3, v4, v5, v6, v7, v8], _ =>
    have g0 : DataW.trod enc Try.prog W 0 (fun _ => true) true n 3 [v0] = some y0 := by have := hf 0 { name := "Kind", type := 3, offset := 0, embedded := false, tag := "", pkgPath := "", byteOffset := 0 } rfl; dsimp only at this; rw [cells3] at this; exact this
    have g1 : DataW.trod enc Try.prog W 0 (fun _ => true) true n 3 [v1] = some y1 := by have := hf 1 { name := "A", type := 3, offset := 1, embedded := false, tag := "", pkgPath := "", byteOffset := 8 } rfl; dsimp only at this; rw [cells3] at this; exact this
    have g2 : DataW.trod enc Try.prog W 0 (fun _ => true) true n 3 [v2] = some y2 := by have := hf 2 { name := "B", type := 3, offset := 2, embedded := false, tag := "", pkgPath := "", byteOffset := 16 } rfl; dsimp only at this; rw [cells3] at this; exact this
    have g3 : DataW.trod enc Try.prog W 0 (fun _ => true) true n 3 [v3] = some y3 := by have := hf 3 { name := "At", type := 3, offset := 3, embedded := false, tag := "", pkgPath := "", byteOffset := 24 } rfl; dsimp only at this; rw [cells3] at this; exact this
    have g4 : DataW.trod enc Try.prog W 0 (fun _ => true) true n 32 [v4, v5, v6, v7] = some y4 := by have := hf 4 { name := "P", type := 32, offset := 4, embedded := false, tag := "", pkgPath := "", byteOffset := 32 } rfl; dsimp only at this; rw [cells32] at this; exact this
    have g5 : DataW.trod enc Try.prog W 0 (fun _ => true) true n 33 [v8] = some y5 := by have := hf 5 { name := "List", type := 33, offset := 8, embedded := false, tag := "", pkgPath := "", byteOffset := 64 } rfl; dsimp only at this; rw [cells33] at this; exact this
    obtain ⟨k, e0, -, w0⟩ := DataW.trod_int Try.underlying3 g0
    obtain ⟨a, e1, -, w1⟩ := DataW.trod_int Try.underlying3 g1
    obtain ⟨b, e2, -, w2⟩ := DataW.trod_int Try.underlying3 g2
    obtain ⟨t, e3, -, -⟩ := DataW.trod_int Try.underlying3 g3
    obtain ⟨s, o, l, m, e4, -, -, -, -⟩ := open_piece g4
    obtain ⟨lx, lz, L, e5, r5, b5⟩ := open_list g5
    simp only [List.cons.injEq, and_true] at e0 e1 e2 e3 e4
    obtain ⟨f0, f1, f2, f3⟩ := e4
    subst e0 e1 e2 e3 f0 f1 f2 f3 e5
    refine ⟨⟨k, a, b, t, ⟨s, o, l, m⟩, lx, lz, L⟩, rfl, r5, ⟨bounds_i64 w0, bounds_i64 w1, bounds_i64 w2⟩, ?_⟩
    rcases b5 with h0 | ⟨n', hn, hle⟩
    · exact .inl h0
    · refine .inr ⟨n', ?_, hle⟩
      simp only [DataW.weights, Try.underlying35]
      exact DataW.weights_mem_each (j := 5) (t := 33) (d := y5.1) rfl rfl n' hn

set_option maxRecDepth 100000 in
/-- a script -/
theorem open_script {v : Value} {d : DataW H} {p : List MemPlace} (h : DataW.Trod enc Try.prog W 0 (fun _ => true) true 22 v d p) (hv : ∃ a len cap, v = .slice a len cap) (hw : ∀ n ∈ d.weights Try.prog 22, n ≤ 140737488351232) :
    ∃ so sn sc S, v = .slice so sn sc ∧ sn = List.length S ∧ Scr W so S := by
  obtain ⟨a, len, cap, rfl⟩ := hv
  obtain ⟨fuel, hf⟩ := h
  rcases open_slice Try.underlying22 hf with ⟨hcs, _⟩ | ⟨x, l', c, m, n, D, Pl, hcs, _, hl, hm, hmm, hx, hall⟩
  · simp [Value.cells] at hcs
    obtain ⟨rfl, rfl, rfl⟩ := hcs
    exact ⟨none, 0, 0, [], rfl, rfl, .inl rfl⟩
  · simp [Value.cells] at hcs
    obtain ⟨rfl, rfl, rfl⟩ := hcs
    simp only [if_true] at hmm
    subst hmm
    simp only [Prod.mk.injEq] at hx
    obtain ⟨rfl, -⟩ := hx
    have each : ∀ t, t < len → ∃ q : Stp, ∃ g off, x = ⟨g, off, none⟩ ∧ (W.cell? ⟨g, off + t * 9, none⟩ = some (.int .i64 q.kd) ∧ W.cell? ⟨g, off + t * 9 + 1, none⟩ = some (.int .i64 q.a) ∧ W.cell? ⟨g, off + t * 9 + 2, none⟩ = some (.int .i64 q.b) ∧ W.cell? ⟨g, off + t * 9 + 3, none⟩ = some (.int .i64 q.at') ∧ W.cell? ⟨g, off + t * 9 + 4, none⟩ = some (.int .i64 q.p.s) ∧ W.cell? ⟨g, off + t * 9 + 5, none⟩ = some (.int .i64 q.p.o) ∧ W.cell? ⟨g, off + t * 9 + 6, none⟩ = some (.int .i64 q.p.l) ∧ W.cell? ⟨g, off + t * 9 + 7, none⟩ = some (.int .i64 q.p.n) ∧ W.cell? ⟨g, off + t * 9 + 8, none⟩ = some (.slice q.lx q.L.length q.lz)) ∧ Rdb W (.slice q.lx q.L.length q.lz) q.L ∧ q.ok := by
      intro t ht
      obtain ⟨cs', h1, h2⟩ := hall t (by omega)
      rw [cells35] at h1
      obtain ⟨_, hlen, hcell⟩ := World.cells?_some h1
      obtain ⟨q, rfl, hR, ⟨o1, o2, o3⟩, hz⟩ := open_step h2
      obtain ⟨g, off, spot⟩ := x
      have hspot : spot = none := by
        obtain ⟨cz, z1, z2⟩ := hall 0 (by omega)
        rw [cells35] at z1
        obtain ⟨_, zl, zc⟩ := World.cells?_some z1
        have h0 := zc 0 (by omega)
        rw [List.getElem?_eq_getElem (by omega)] at h0
        simpa [Addr.add] using World.cell?_spot h0
      subst hspot
      have hc : ∀ j, j < 9 → W.cell? ⟨g, off + t * 9 + j, none⟩ = ([Value.int .i64 q.kd, .int .i64 q.a, .int .i64 q.b, .int .i64 q.at', .int .i64 q.p.s, .int .i64 q.p.o, .int .i64 q.p.l, .int .i64 q.p.n, .slice q.lx q.L.length q.lz] : List Value)[j]? := fun j hj => by
        have h0 := hcell j hj
        rw [add_add, Go.WideShapes.add_plain, ← Nat.add_assoc] at h0
        exact h0
      refine ⟨q, g, off, rfl, ⟨hc 0 (by omega), hc 1 (by omega), hc 2 (by omega), hc 3 (by omega), hc 4 (by omega), hc 5 (by omega), hc 6 (by omega), hc 7 (by omega), hc 8 (by omega)⟩, hR, o1, o2, o3, ?_⟩
      rcases hz with h0 | ⟨k, hk, hle⟩
      · omega
      · have := hw k (by
          simp only [DataW.weights, Try.underlying22]
          exact List.mem_cons_of_mem _ (List.mem_append_left _ (weightsAll_mem (List.mem_map.2 ⟨t, List.mem_range.2 ht, rfl⟩) hk)))
        omega
    have inh : Inhabited Stp := ⟨⟨0, 0, 0, 0, ⟨0, 0, 0, 0⟩, none, 0, []⟩⟩
    obtain ⟨q, hq⟩ := choose_lt each
    refine ⟨some x, len, m, (List.range len).map q, rfl, by simp, ?_⟩
    by_cases h0 : len = 0
    · subst h0; exact .inl (by simp)
    · obtain ⟨g, off, e, -⟩ := hq 0 (by omega)
      refine .inr ⟨g, off, by rw [e], fun j p hj => ?_⟩
      have hj' : j < len := by have := (List.getElem?_eq_some_iff.1 hj).1; simpa using this
      have e2 : p = q j := by
        rw [List.getElem?_map, List.getElem?_range hj'] at hj
        simpa using hj.symm
      obtain ⟨g', off', e', h1⟩ := hq j hj'
      rw [e] at e'
      injection e' with e3 e4
      subst e3 e4 e2
      exact h1
end

set_option maxRecDepth 100000 in
theorem lifted (os : Os) (started : os.Started) (H : Type) (enc : TypeId × Value → H) :
    ReturnsInHanded {} Try.checked os 3 .any (Rows.shadeScriptsSpec.pre6 enc Try.prog Try.f3 Rows.shadeScriptsRow.domain false) (Rows.shadeScriptsSpec.post enc Try.prog Try.f3 false true false false) := by
  refine returnsInHanded_of_change_sized (C := Try.checked) own started (by kernel_rfl) Try.func3
    (ChangeSpec.witness6 (enc := enc) (C := Try.checked) false ⟨#[], #[.slice none 0 0], []⟩ 8 (by kernel_rfl) (by kernel_rfl) (by kernel_rfl) (by kernel_rfl)) ?_
  intro W base args ds gs before hval0 hW _ hsz0 _
  have hval : ∀ (j : Nat) t v, Try.f3.params[j]? = some t → args[j]? = some v → Value.okWide Try.prog W .any base t v := hval0
  have hW' := hW
  obtain ⟨p, q, hA0, hV, rfl, _, _⟩ := hW
  have hA : DataW.TrodAll enc Try.prog W 0 (fun _ => true) true Try.f3.params.toList args.toList ds p := hA0
  have hsz : ∀ n ∈ DataW.weightsEach Try.prog (Try.f3.params.toList ++ Rows.shadeScriptsSpec.plain.varTypes Try.prog) (ds ++ gs), n ≤ 140737488351232 := fun n hn => by
    have := List.all_eq_true.1 hsz0 n hn
    exact of_decide_eq_true this
  rw [Try.params3] at hA hval hsz
  obtain ⟨v0, vs0, d0, ds0, p0, q0, hargs, rfl, rfl, h0, r0⟩ := trodAll_cons hA
  obtain ⟨rfl, rfl, rfl⟩ := trodAll_nil r0
  obtain rfl : args = #[v0] := by cases args; simp_all
  obtain ⟨rfl, rfl⟩ := trodVars_none hV
  have lt0 : ∀ x ∈ p0, x.block < W.heap.size := by obtain ⟨m, hm⟩ := h0; exact DataW.trod_lt m _ _ _ hm
  obtain ⟨so, sn, sc, S, e0, hn, hS⟩ := open_script h0 (okWide_slice Try.underlying22 (hval 0 22 v0 rfl rfl)) (fun n hn => hsz n (DataW.weights_mem_each (j := 0) (t := 22) (d := d0) rfl rfl n hn))
  subst e0
  clear hA0 hval0 hsz0 hsz
  refine (scripts_walk so sn sc S W hn hS).mono fun e W' ⟨he, bel⟩ => ?_
  subst he
  exact ⟨_, rfl, _, _, _, [], _, [], hW', trodAll_mk1 (shut_bool Try.underlying4 _), (trodAll_cons_mk (Below.trod laidOut (by kernel_rfl) (of_decide_eq_true (by kernel_rfl)) h0 bel lt0) trodAll_mk0), rfl, bel.frame _, fun h => by cases h⟩

theorem over : Rows.shadeScriptsRow.holds Try.pinned (OpenSpec.ofChange Rows.shadeScriptsSpec) :=
  OpenClaim.holds_of_wide 3 Try.f3 rfl rfl rfl rfl rfl rfl rfl ⟨rfl, rfl, rfl, rfl, rfl⟩ rfl rfl rfl rfl rfl (by kernel_rfl) Try.func3 (by kernel_rfl)
    (of_decide_eq_true (by kernel_rfl)) (by unfold Func.isWrapper; first | (rw [if_pos (by decide +kernel)]; kernel_rfl) | (rw [if_neg (by decide +kernel)]; exact ⟨rfl, rfl⟩))
    (fun os started H enc _ => lifted os started H enc)
end Go.Proofs.Ytcaegdfbbjfgpaa.scr
namespace Go.Proofs.Ytcaegdfbbjfgpaa
/-- The given statement. -/
theorem shadeScripts_holds : Rows.ShadeScriptsSaid := scr.over
end Go.Proofs.Ytcaegdfbbjfgpaa
