/- Proved: quoinlaw01.AddbufScripts returns true for every text and every script that are together of a bulk of at most 1048576, and leaves its arguments as they were. -/
import Derived.Test.YtfjfflkdcmpgnaaScriptWalk
import Derived.ProofKit
import Derived.OpenShut
import Derived.JoinedCond
import Derived.Deep.Matrix
namespace Go.Proofs.Ytfjfflkdcmpgnaa.scripts
open Go.ChangeShapes Go.WideShapes Go.ChangeAt Go.RowKit Go.Deep

theorem own : ownKnob Try.prog.godebug = none := by kernel_rfl
theorem laidOut : laidOutB Try.prog = true := by kernel_rfl
theorem cells3 : Try.prog.cellsOf 3 = 1 := by kernel_rfl
theorem cells5 : Try.prog.cellsOf 5 = 1 := by kernel_rfl
theorem cells22 : Try.prog.cellsOf 22 = 1 := by kernel_rfl
theorem cells33 : Try.prog.cellsOf 33 = 3 := by kernel_rfl
theorem cells35 : Try.prog.cellsOf 35 = 6 := by kernel_rfl

/-- numbers that are bytes -/
def by8 (zs : List Int) : List UInt8 := zs.map fun z => UInt8.ofNat z.toNat
theorem by8_length (zs : List Int) : (by8 zs).length = zs.length := by simp [by8]
theorem rd_ints {W : World} {a : Addr} {len cap : Nat} {zs : List Int} (hl : len ≤ zs.length) (hc : ∀ i, i < zs.length → W.cell? (a.add i) = some (.int .u8 (zs.getD i 0))) (hw : ∀ n ∈ zs, (Lit.int .u8 n).wf = true) :
    Rd W (.slice (some a) (by8 (zs.take len)).length cap) (by8 (zs.take len)) := by
  refine .inr ⟨a, cap, rfl, fun j u hu => ?_⟩
  have hj : j < len := by
    have h1 := (List.getElem?_eq_some_iff.1 hu).1
    rw [bv_length, by8_length, List.length_take] at h1
    omega
  have hz : j < zs.length := by omega
  have hb := bounds_u8 (hw zs[j] (List.getElem_mem hz))
  rw [hc j hz, ← hu]
  have e : (UInt8.ofNat zs[j].toNat).toNat = zs[j].toNat := by
    rw [UInt8.toNat_ofNat']; omega
  simp [bv, by8, hj, hz, e]
  omega

theorem bulk_one {H : Type} (d : DataW H) : 1 ≤ Rows.uptoBulk d := by
  cases d with
  | lit l => cases l <;> simp [Rows.uptoBulk]
  | _ => simp [Rows.uptoBulk]
theorem bulk_len {H : Type} : ∀ l : List (DataW H), l.length ≤ Rows.uptoBulkAll l
  | [] => Nat.zero_le _
  | x :: r => by have h1 := bulk_one x; have h2 := bulk_len r; simp only [Rows.uptoBulkAll, List.length_cons]; omega
theorem bulk_snoc {H : Type} : ∀ (l : List (DataW H)) (d : DataW H), Rows.uptoBulkAll (l ++ [d]) = Rows.uptoBulkAll l + Rows.uptoBulk d
  | [], d => by simp [Rows.uptoBulkAll]
  | x :: r, d => by have h := bulk_snoc r d; simp only [List.cons_append, Rows.uptoBulkAll, h]; omega
theorem bulk_sum {H : Type} (P : Nat → List UInt8) (D : Nat → DataW H) : ∀ n, (∀ t, t < n → (P t).length ≤ Rows.uptoBulk (D t)) → sumP P n ≤ Rows.uptoBulkAll ((List.range n).map D)
  | 0, _ => Nat.zero_le _
  | n + 1, h => by
    have h1 := bulk_sum P D n (fun t ht => h t (by omega))
    have h2 := h n (by omega)
    have e : sumP P (n + 1) = sumP P n + (P n).length := rfl
    rw [List.range_succ, List.map_append, List.map_cons, List.map_nil, bulk_snoc, e]
    omega

section
variable {H : Type} {enc : TypeId × Value → H} {W : World}

/-- a list of bytes -/
theorem open_bytes {fuel : Nat} {cs : List Value} {x : DataW H × List MemPlace} (h : DataW.trod enc Try.prog W 0 (fun _ => true) true fuel 22 cs = some x) :
    ∃ a0 c0 O, cs = [.slice a0 (List.length O) c0] ∧ Rd W (.slice a0 (List.length O) c0) O ∧ O.length ≤ Rows.uptoBulk x.1 := by
  rcases open_ints Try.underlying22 Try.underlying5 cells5 h with ⟨rfl, rfl⟩ | ⟨a, len, cap, zs, rfl, _, hl, hm, hz, rfl, hcell, hwz⟩
  · exact ⟨none, 0, [], rfl, .inl ⟨rfl, rfl⟩, by simp⟩
  · simp only [if_true] at hz
    have hlen : (by8 (zs.take len)).length = len := by rw [by8_length, List.length_take]; omega
    have h1 := rd_ints (cap := cap) (len := len) (by omega) hcell hwz
    refine ⟨some a, cap, by8 (zs.take len), by rw [hlen], h1, ?_⟩
    have h2 := bulk_len (lits (H := H) .u8 (zs.take len))
    simp only [lits, List.length_map, List.length_take] at h2
    simp only [Rows.uptoBulk, lits]
    omega

/-- one step of a script -/
theorem open_step {fuel : Nat} {cs : List Value} {x : DataW H × List MemPlace} (h : DataW.trod enc Try.prog W 0 (fun _ => true) true fuel 35 cs = some x) :
    ∃ (kd s o l i : Int) (ap : Option Addr) (cp : Nat) (P : List UInt8), cs = [.int .i64 kd, .slice ap P.length cp, .int .i64 s, .int .i64 o, .int .i64 l, .int .i64 i] ∧ Rd W (.slice ap P.length cp) P ∧ P.length ≤ Rows.uptoBulk x.1 ∧
      -9223372036854775808 ≤ l ∧ l ≤ 9223372036854775807 ∧ -9223372036854775808 ≤ o ∧ o ≤ 9223372036854775807 ∧ i ≤ 9223372036854775807 := by
  obtain ⟨xs, n, -, rfl, hl, hxl, hf⟩ := DataW.trod_struct Try.underlying35 h
  rw [cells35] at hl
  match xs, hxl, cs, hl with
  | [y0, y1, y2, y3], _, [v0, v1, v2, v3, v4, v5], _ =>
    have g0 : DataW.trod enc Try.prog W 0 (fun _ => true) true n 3 [v0] = some y0 := by have := hf 0 { name := "Kind", type := 3, offset := 0, embedded := false, tag := "", pkgPath := "", byteOffset := 0 } rfl; dsimp only at this; rw [cells3] at this; exact this
    have g1 : DataW.trod enc Try.prog W 0 (fun _ => true) true n 22 [v1] = some y1 := by have := hf 1 { name := "P", type := 22, offset := 1, embedded := false, tag := "", pkgPath := "", byteOffset := 8 } rfl; dsimp only at this; rw [cells22] at this; exact this
    have g2 : DataW.trod enc Try.prog W 0 (fun _ => true) true n 33 [v2, v3, v4] = some y2 := by have := hf 2 { name := "S", type := 33, offset := 2, embedded := false, tag := "", pkgPath := "", byteOffset := 32 } rfl; dsimp only at this; rw [cells33] at this; exact this
    have g3 : DataW.trod enc Try.prog W 0 (fun _ => true) true n 3 [v5] = some y3 := by have := hf 3 { name := "I", type := 3, offset := 5, embedded := false, tag := "", pkgPath := "", byteOffset := 56 } rfl; dsimp only at this; rw [cells3] at this; exact this
    obtain ⟨kd, e0, -, -⟩ := DataW.trod_int Try.underlying3 g0
    obtain ⟨ap, cp, P, e1, hr, hb⟩ := open_bytes g1
    obtain ⟨i, e5, -, wi⟩ := DataW.trod_int Try.underlying3 g3
    obtain ⟨zs, n', -, -, hl', hzl, hf'⟩ := DataW.trod_struct Try.underlying33 g2
    match zs, hzl with
    | [z0, z1, z2], _ =>
      have k0 : DataW.trod enc Try.prog W 0 (fun _ => true) true n' 3 [v2] = some z0 := by have := hf' 0 { name := "Src", type := 3, offset := 0, embedded := false, tag := "", pkgPath := "", byteOffset := 0 } rfl; dsimp only at this; rw [cells3] at this; exact this
      have k1 : DataW.trod enc Try.prog W 0 (fun _ => true) true n' 3 [v3] = some z1 := by have := hf' 1 { name := "Off", type := 3, offset := 1, embedded := false, tag := "", pkgPath := "", byteOffset := 8 } rfl; dsimp only at this; rw [cells3] at this; exact this
      have k2 : DataW.trod enc Try.prog W 0 (fun _ => true) true n' 3 [v4] = some z2 := by have := hf' 2 { name := "Len", type := 3, offset := 2, embedded := false, tag := "", pkgPath := "", byteOffset := 16 } rfl; dsimp only at this; rw [cells3] at this; exact this
      obtain ⟨s, e2, -, -⟩ := DataW.trod_int Try.underlying3 k0
      obtain ⟨o, e3, -, wo⟩ := DataW.trod_int Try.underlying3 k1
      obtain ⟨l, e4, -, wl⟩ := DataW.trod_int Try.underlying3 k2
      simp only [List.cons.injEq, and_true] at e0 e1 e2 e3 e4 e5
      subst e0 e1 e2 e3 e4 e5
      refine ⟨kd, s, o, l, i, ap, cp, P, rfl, hr, ?_, (bounds_i64 wl).1, (bounds_i64 wl).2, (bounds_i64 wo).1, (bounds_i64 wo).2, (bounds_i64 wi).2⟩
      simp only [List.map_cons, List.map_nil, Rows.uptoBulk, Rows.uptoBulkAll]
      omega

/-- a script -/
theorem open_steps {v : Value} {d : DataW H} {p : List MemPlace} (h : DataW.Trod enc Try.prog W 0 (fun _ => true) true 23 v d p) (hv : ∃ a len cap, v = .slice a len cap) :
    ∃ as' n cs kd s o l i P, v = .slice as' n cs ∧ ScAt W as' n kd s o l i P ∧ Bds n o l i ∧ n ≤ Rows.uptoBulk d ∧ sumP P n ≤ Rows.uptoBulk d := by
  obtain ⟨a, len, cap, rfl⟩ := hv
  obtain ⟨fuel, hf⟩ := h
  rcases open_slice Try.underlying23 hf with ⟨hcs, _⟩ | ⟨x, l', c, m, n, D, Pl, hcs, _, hl, hm, hmm, hx, hall⟩
  · simp [Value.cells] at hcs
    obtain ⟨rfl, rfl, rfl⟩ := hcs
    exact ⟨none, 0, 0, fun _ => 0, fun _ => 0, fun _ => 0, fun _ => 0, fun _ => 0, fun _ => [], rfl, ⟨fun t ht => by omega⟩, fun t ht => by omega, by omega, Nat.zero_le _⟩
  · simp [Value.cells] at hcs
    obtain ⟨rfl, rfl, rfl⟩ := hcs
    simp only [if_true] at hmm
    subst hmm
    simp only [Prod.mk.injEq] at hx
    obtain ⟨rfl, -⟩ := hx
    have each : ∀ t, t < len → ∃ q : (Int × Int × Int × Int × Int × List UInt8), ∃ g off ap cp, x = ⟨g, off, none⟩ ∧ W.cell? ⟨g, off + t * 6, none⟩ = some (.int .i64 q.1) ∧ W.cell? ⟨g, off + t * 6 + 1, none⟩ = some (.slice ap q.2.2.2.2.2.length cp) ∧ W.cell? ⟨g, off + t * 6 + 2, none⟩ = some (.int .i64 q.2.1) ∧ W.cell? ⟨g, off + t * 6 + 3, none⟩ = some (.int .i64 q.2.2.1) ∧ W.cell? ⟨g, off + t * 6 + 4, none⟩ = some (.int .i64 q.2.2.2.1) ∧ W.cell? ⟨g, off + t * 6 + 5, none⟩ = some (.int .i64 q.2.2.2.2.1) ∧ Rd W (.slice ap q.2.2.2.2.2.length cp) q.2.2.2.2.2 ∧ q.2.2.2.2.2.length ≤ Rows.uptoBulk (D t) ∧
        -9223372036854775808 ≤ q.2.2.2.1 ∧ q.2.2.2.1 ≤ 9223372036854775807 ∧ -9223372036854775808 ≤ q.2.2.1 ∧ q.2.2.1 ≤ 9223372036854775807 ∧ q.2.2.2.2.1 ≤ 9223372036854775807 := by
      intro t ht
      obtain ⟨cs', h1, h2⟩ := hall t (by omega)
      rw [cells35] at h1
      obtain ⟨_, hlen, hcell⟩ := World.cells?_some h1
      obtain ⟨kd, s, o, l, i, ap, cp, P, rfl, hr, hb, b1, b2, b3, b4, b5⟩ := open_step h2
      obtain ⟨g, off, spot⟩ := x
      have hspot : spot = none := by
        obtain ⟨cz, z1, z2⟩ := hall 0 (by omega)
        rw [cells35] at z1
        obtain ⟨_, zl, zc⟩ := World.cells?_some z1
        have h0 := zc 0 (by omega)
        rw [List.getElem?_eq_getElem (by omega)] at h0
        simpa [Addr.add] using World.cell?_spot h0
      subst hspot
      have hc : ∀ j, j < 6 → W.cell? ⟨g, off + t * 6 + j, none⟩ = [Value.int .i64 kd, .slice ap P.length cp, .int .i64 s, .int .i64 o, .int .i64 l, .int .i64 i][j]? := fun j hj => by
        have h0 := hcell j hj
        rw [add_add, Go.WideShapes.add_plain, ← Nat.add_assoc] at h0
        exact h0
      exact ⟨(kd, s, o, l, i, P), g, off, ap, cp, rfl, hc 0 (by omega), hc 1 (by omega), hc 2 (by omega), hc 3 (by omega), hc 4 (by omega), hc 5 (by omega), hr, hb, b1, b2, b3, b4, b5⟩
    obtain ⟨q, hq⟩ := choose_lt each
    refine ⟨some x, len, m, fun t => (q t).1, fun t => (q t).2.1, fun t => (q t).2.2.1, fun t => (q t).2.2.2.1, fun t => (q t).2.2.2.2.1, fun t => (q t).2.2.2.2.2, rfl, ⟨fun t ht => ?_⟩, fun t ht => ?_, ?_, ?_⟩
    · obtain ⟨g, off, ap, cp, h0, h1, h2, h3, h4, h5, h6, h7, -⟩ := hq t ht
      exact ⟨g, off, ap, cp, by rw [h0], h1, h2, h3, h4, h5, h6, h7⟩
    · obtain ⟨g, off, ap, cp, h0, h1, h2, h3, h4, h5, h6, h7, -, b1, b2, b3, b4, b5⟩ := hq t ht
      exact ⟨b1, b2, b3, b4, b5⟩
    · have h2 := bulk_len ((List.range len).map D)
      simp only [List.length_map, List.length_range] at h2
      simp only [Rows.uptoBulk]
      omega
    · have h2 := bulk_sum (fun t => (q t).2.2.2.2.2) D len (fun t ht => by
        obtain ⟨g, off, ap, cp, h0, h1, h2, h3, h4, h5, h6, h7, hb, -⟩ := hq t ht
        exact hb)
      simp only [Rows.uptoBulk]
      omega
end

set_option maxRecDepth 100000 in
theorem lifted (os : Os) (started : os.Started) (H : Type) (enc : TypeId × Value → H) (F : Stop.Interp) :
    ReturnsInHanded {} Try.checked os 3 .any ((Rows.OpenSpec.upto Rows.addbufScriptsSpec).pre6 enc Try.prog Try.f3 Rows.addbufScriptsUptoRow.domain false) (((Rows.OpenSpec.upto Rows.addbufScriptsSpec).at F).post enc Try.prog Try.f3 false true false false) := by
  refine returnsInHanded_of_cond (C := Try.checked) (s := Rows.OpenSpec.upto Rows.addbufScriptsSpec) (k := Rows.uptoSmall) rfl own started (by kernel_rfl) Try.func3
    (OpenSpec.witness (enc := enc) (C := Try.checked) (s := Rows.OpenSpec.upto Rows.addbufScriptsSpec) (k := Rows.uptoSmall) rfl false ⟨#[], #[.slice none 0 0, .slice none 0 0], []⟩ 8 (by kernel_rfl) (by kernel_rfl) (by kernel_rfl)
      (x := ([.nil, .nil], [], [])) (by kernel_rfl) rfl (by kernel_rfl)) ?_
  intro W base args ds gs before hval0 hW _ hk0 _
  have hval : ∀ (j : Nat) t v, Try.f3.params[j]? = some t → args[j]? = some v → Value.okWide Try.prog W .any base t v := hval0
  have hW' := hW
  obtain ⟨p, q, hA0, hV, rfl, _, _⟩ := hW
  have hA : DataW.TrodAll enc Try.prog W 0 (fun _ => true) true Try.f3.params.toList args.toList ds p := hA0
  rw [Try.params3] at hA hval
  obtain ⟨v0, vs0, d0, ds0, p0, q0, hargs, rfl, rfl, h0, r0⟩ := trodAll_cons hA
  obtain ⟨v1, vs1, d1, ds1, p1, q1, rfl, rfl, rfl, h1, r1⟩ := trodAll_cons r0
  obtain ⟨rfl, rfl, rfl⟩ := trodAll_nil r1
  obtain rfl : args = #[v0, v1] := by cases args; simp_all
  obtain ⟨rfl, rfl⟩ := trodVars_none hV
  have lt0 : ∀ x ∈ p0, x.block < W.heap.size := by obtain ⟨m, hm⟩ := h0; exact DataW.trod_lt m _ _ _ hm
  have lt1 : ∀ x ∈ p1, x.block < W.heap.size := by obtain ⟨m, hm⟩ := h1; exact DataW.trod_lt m _ _ _ hm
  have hk : Rows.uptoBulkAll [d0, d1] ≤ 1048576 := of_decide_eq_true hk0
  simp only [Rows.uptoBulkAll] at hk
  obtain ⟨a, len, cap, rfl⟩ := okWide_slice Try.underlying22 (hval 0 22 v0 rfl rfl)
  obtain ⟨as', n, cs, kd, s, o, l, i, P, e1, hS, hB, bn, bP⟩ := open_steps h1 (okWide_slice Try.underlying23 (hval 1 23 v1 rfl rfl))
  obtain ⟨m0, hm0⟩ := id h0
  obtain ⟨a0, c0, O, e0, hO, bO⟩ := open_bytes hm0
  simp [Value.cells] at e0
  obtain ⟨rfl, rfl, rfl⟩ := e0
  subst e1
  clear hA0 hval0 hk0
  refine (script_walk a cap O as' cs n kd s o l i P W hO hS hB (by simp only at bO; omega) (by omega) (by omega)).mono fun e W' ⟨he, bel⟩ => ?_
  subst he
  exact ⟨_, rfl, _, _, _, [], _, [], hW', trodAll_mk1 (shut_bool Try.underlying4 _), (trodAll_cons_mk (Below.trod laidOut (by kernel_rfl) (of_decide_eq_true (by kernel_rfl)) h0 bel lt0) (trodAll_cons_mk (Below.trod laidOut (by kernel_rfl) (of_decide_eq_true (by kernel_rfl)) h1 bel lt1) trodAll_mk0)), rfl, bel.frame _, fun h => by cases h⟩

theorem over : Rows.addbufScriptsUptoRow.holds Try.pinned (Rows.OpenSpec.upto Rows.addbufScriptsSpec) :=
  OpenClaim.holds_of_cond 3 Try.f3 rfl rfl rfl rfl rfl rfl rfl ⟨rfl, rfl, rfl, rfl, rfl⟩ rfl rfl rfl rfl rfl (by kernel_rfl) Try.func3 (by kernel_rfl)
    (of_decide_eq_true (by kernel_rfl)) (by unfold Func.isWrapper; first | (rw [if_pos (by decide +kernel)]; kernel_rfl) | (rw [if_neg (by decide +kernel)]; exact ⟨rfl, rfl⟩))
    (fun os started H enc _ F => lifted os started H enc F)
end Go.Proofs.Ytfjfflkdcmpgnaa.scripts
namespace Go.Proofs.Ytfjfflkdcmpgnaa
/-- The given statement, in its second form. -/
theorem addbufScripts_holds : Rows.AddbufScriptsUptoSaid := scripts.over
end Go.Proofs.Ytfjfflkdcmpgnaa
