/- Proved: quoinlaw03.SpliceKeeps returns true for every list of spans, every two numbers and every span, where what comes in is of bulk at most 1048576, and leaves its arguments as they were. -/
import Derived.Test.YtjjgloioppjcaaaUpto
import Derived.Test.YtjjgloioppjcaaaKeepsWalk
import Derived.Lib.SmallJoins
namespace Go.Proofs.Ytjjgloioppjcaaa.keeps
open Go.ChangeShapes Go.WideShapes Go.ChangeAt Go.RowKit Go.Deep Go.Joins

set_option maxRecDepth 100000 in
theorem lifted (os : Os) (started : os.Started) (H : Type) (enc : TypeId × Value → H) (F : Stop.Interp) :
    ReturnsInHanded {} Try.checked os 8 .any ((Rows.OpenSpec.upto Rows.spliceKeepsSpec).pre6 enc Try.prog Try.f8 Rows.spliceKeepsUptoRow.domain false) (((Rows.OpenSpec.upto Rows.spliceKeepsSpec).at F).post enc Try.prog Try.f8 false true false false) := by
  refine returnsInHanded_of_cond (C := Try.checked) (s := Rows.OpenSpec.upto Rows.spliceKeepsSpec) (k := Rows.uptoSmall) rfl own started (by kernel_rfl) Try.func8
    (OpenSpec.witness (enc := enc) (C := Try.checked) (s := Rows.OpenSpec.upto Rows.spliceKeepsSpec) (k := Rows.uptoSmall) rfl false ⟨#[], #[.slice none 0 0, .int .i64 0, .int .i64 0, .agg #[.int .i64 0, .int .i64 0, .int .i64 0]], []⟩ 8 (by kernel_rfl) (by kernel_rfl) (by kernel_rfl)
      (x := ([.nil, .lit (.int .i64 0), .lit (.int .i64 0), .agg [.lit (.int .i64 0), .lit (.int .i64 0), .lit (.int .i64 0)]], [], [])) (by kernel_rfl) rfl (by kernel_rfl)) ?_
  intro W base args ds gs before hval0 hW _ hk0 _
  have hval : ∀ (j : Nat) t v, Try.f8.params[j]? = some t → args[j]? = some v → Value.okWide Try.prog W .any base t v := hval0
  have hW' := hW
  obtain ⟨p, q, hA0, hV, rfl, _, _⟩ := hW
  have hA : DataW.TrodAll enc Try.prog W 0 (fun _ => true) true Try.f8.params.toList args.toList ds p := hA0
  rw [Try.params8] at hA hval
  obtain ⟨v0, vs0, d0, ds0, p0, q0, hargs, rfl, rfl, h0, r0⟩ := trodAll_cons hA
  obtain ⟨v1, vs1, d1, ds1, p1, q1, rfl, rfl, rfl, h1, r1⟩ := trodAll_cons r0
  obtain ⟨v2, vs2, d2, ds2, p2, q2, rfl, rfl, rfl, h2, r2⟩ := trodAll_cons r1
  obtain ⟨v3, vs3, d3, ds3, p3, q3, rfl, rfl, rfl, h3, r3⟩ := trodAll_cons r2
  obtain ⟨rfl, rfl, rfl⟩ := trodAll_nil r3
  obtain rfl : args = #[v0, v1, v2, v3] := by cases args; simp_all
  obtain ⟨rfl, rfl⟩ := trodVars_none hV
  have lt0 : ∀ x ∈ p0, x.block < W.heap.size := by obtain ⟨m, hm⟩ := h0; exact DataW.trod_lt m _ _ _ hm
  have lt1 : ∀ x ∈ p1, x.block < W.heap.size := by obtain ⟨m, hm⟩ := h1; exact DataW.trod_lt m _ _ _ hm
  have lt2 : ∀ x ∈ p2, x.block < W.heap.size := by obtain ⟨m, hm⟩ := h2; exact DataW.trod_lt m _ _ _ hm
  have lt3 : ∀ x ∈ p3, x.block < W.heap.size := by obtain ⟨m, hm⟩ := h3; exact DataW.trod_lt m _ _ _ hm
  have hk : Rows.uptoBulkAll [d0, d1, d2, d3] ≤ 1048576 := of_decide_eq_true hk0
  simp only [Rows.uptoBulkAll] at hk
  obtain ⟨ao, c, L, e0, hR, hg, hz⟩ := open_spansU h0 (okWide_slice Try.underlying22 (hval 0 22 v0 rfl rfl)) (by omega)
  rw [← e0] at hR
  have i1 := h1
  obtain ⟨m1, e1, _, _, _⟩ := open_int Try.underlying3 (hval 1 3 v1 rfl rfl) i1
  subst e1
  have i2 := h2
  obtain ⟨m2, e2, _, _, _⟩ := open_int Try.underlying3 (hval 2 3 v2 rfl rfl) i2
  subst e2
  have k3 := h3
  obtain ⟨c0, c1, c2, y0, y1, y2, mm, rfl, -, -, hy0, hy1, hy2⟩ := open_agg3 Try.underlying39 (by kernel_rfl) cells39 (hval 3 39 v3 rfl rfl) k3
  obtain ⟨s, f0, -, -⟩ := DataW.trod_int Try.underlying3 hy0
  obtain ⟨o, f1, -, -⟩ := DataW.trod_int Try.underlying3 hy1
  obtain ⟨l, f2, -, wl⟩ := DataW.trod_int Try.underlying3 hy2
  simp at f0 f1 f2
  subst f0 f1 f2
  clear hA0 hval0 hk0
  refine (keeps_walk v0 L m1 m2 s o l W (bounds_i64 wl).2 hz hg hR (open_none h0)).mono fun e W' ⟨he, bel⟩ => ?_
  subst he
  exact ⟨_, rfl, _, _, _, [], _, [], hW', trodAll_mk1 (shut_bool Try.underlying4 _), (trodAll_cons_mk (Below.trod laidOut (by kernel_rfl) (of_decide_eq_true (by kernel_rfl)) h0 bel lt0) (trodAll_cons_mk (Below.trod laidOut (by kernel_rfl) (of_decide_eq_true (by kernel_rfl)) h1 bel lt1) (trodAll_cons_mk (Below.trod laidOut (by kernel_rfl) (of_decide_eq_true (by kernel_rfl)) h2 bel lt2) (trodAll_cons_mk (Below.trod laidOut (by kernel_rfl) (of_decide_eq_true (by kernel_rfl)) h3 bel lt3) trodAll_mk0)))), rfl, bel.frame _, fun h => by cases h⟩

theorem over : Rows.spliceKeepsUptoRow.holds Try.pinned (Rows.OpenSpec.upto Rows.spliceKeepsSpec) :=
  OpenClaim.holds_of_cond 8 Try.f8 rfl rfl rfl rfl rfl rfl rfl ⟨rfl, rfl, rfl, rfl, rfl⟩ rfl rfl rfl rfl rfl (by kernel_rfl) Try.func8 (by kernel_rfl)
    (of_decide_eq_true (by kernel_rfl)) (by unfold Func.isWrapper; first | (rw [if_pos (by decide +kernel)]; kernel_rfl) | (rw [if_neg (by decide +kernel)]; exact ⟨rfl, rfl⟩))
    (fun os started H enc _ F => lifted os started H enc F)
end Go.Proofs.Ytjjgloioppjcaaa.keeps
namespace Go.Proofs.Ytjjgloioppjcaaa
/-- The given statement, in its second form. -/
theorem spliceKeeps_holds : Rows.SpliceKeepsUptoSaid := keeps.over
end Go.Proofs.Ytjjgloioppjcaaa
