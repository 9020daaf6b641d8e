/- Proved: quoinlaw05.LinesNumbers returns true for every text, every list of numbers and every column, and leaves its arguments as they were; no condition. -/
import Derived.Test.YtkdkkbfbdjeoiaaNumWalk
import Derived.Test.YtkdkkbfbdjeoiaaOpen
namespace Go.Proofs.Ytkdkkbfbdjeoiaa.numbers
open Go.ChangeShapes Go.WideShapes Go.ChangeAt Go.RowKit Go.Joins

theorem cells3 : Try.prog.cellsOf 3 = 1 := by kernel_rfl
theorem bytes3 : Try.prog.bytesOf 3 = 8 := by kernel_rfl
/-- what an argument of type []int is to the walk -/
theorem open1 {H : Type} {enc : TypeId × Value → H} {W : World} {v : Value} {d : DataW H} {p : List MemPlace} (h : DataW.Trod enc Try.prog W 0 (fun _ => true) true 23 v d p) (hv : ∃ a len cap, v = .slice a len cap)
    (hsz : ∀ n ∈ d.weights Try.prog 23, n ≤ reachBytes) : ∃ bo m c Z, v = .slice bo m c ∧ Nx W bo m c Z := by
  obtain ⟨a, len, cap, rfl⟩ := hv
  obtain ⟨fuel, hf⟩ := h
  rcases open_ints Try.underlying23 Try.underlying3 cells3 hf with ⟨hcs, _⟩ | ⟨x, l, c, zs, hcs, _, hl, hm, hz, hx, hcell, hwz⟩
  · simp [Value.cells] at hcs
    obtain ⟨rfl, rfl, rfl⟩ := hcs
    refine ⟨none, 0, 0, [], rfl, rfl, Nat.le_refl _, fun _ => rfl, by omega, fun i => ?_, fun _ h => by cases h⟩
    simp [atI]
  · simp [Value.cells] at hcs
    obtain ⟨rfl, rfl, rfl⟩ := hcs
    simp only [if_true] at hz
    simp only [Prod.mk.injEq] at hx
    obtain ⟨rfl, -⟩ := hx
    have h2 := hsz (((lits (H := H) .i64 (zs.take len)).length + (lits (H := H) .i64 (zs.drop len)).length) * 8) (by simp [DataW.weights, Try.underlying23, bytes3])
    simp only [lits, List.length_map, List.length_take, List.length_drop, reachBytes] at h2
    refine ⟨some x, len, cap, zs.take len, rfl, by rw [List.length_take]; omega, by omega, (fun h => by cases h), by omega, fun i => ?_, fun a' ha j hj => ?_⟩
    · rcases Nat.lt_or_ge i (zs.take len).length with hi | hi
      · have hi2 : i < zs.length := by rw [List.length_take] at hi; omega
        have e : atI (zs.take len) i = zs[i] := by have hi3 : i < len := (by rw [List.length_take] at hi; omega); simp [atI, List.getD, hi2, hi3]
        rw [e]
        exact bounds_i64 (hwz _ (List.getElem_mem hi2))
      · have e : atI (zs.take len) i = 0 := by unfold atI; rw [List.getD_eq_getElem?_getD, List.getElem?_eq_none hi]; rfl
        rw [e]; omega
    · obtain rfl : x = a' := by simpa using ha
      have hj2 : j < zs.length := by omega
      rw [hcell j hj2]
      simp [atI, List.getD, hj]

set_option maxRecDepth 100000 in
theorem lifted (os : Os) (started : os.Started) (H : Type) (enc : TypeId × Value → H) :
    ReturnsInHanded {} Try.checked os 3 .any (Rows.linesNumbersSpec.pre6 enc Try.prog Try.f3 Rows.linesNumbersRow.domain false) (Rows.linesNumbersSpec.post enc Try.prog Try.f3 false true false false) := by
  refine returnsInHanded_of_change_sized (C := Try.checked) own started (by kernel_rfl) Try.func3
    (ChangeSpec.witness6 (enc := enc) (C := Try.checked) false ⟨#[], #[.slice none 0 0, .slice none 0 0, .int .i64 0], []⟩ 8 (by kernel_rfl) (by kernel_rfl) (by kernel_rfl) (by kernel_rfl)) ?_
  intro W base args ds gs before hval0 hW _ hsz0 _
  have hval : ∀ (j : Nat) t v, Try.f3.params[j]? = some t → args[j]? = some v → Value.okWide Try.prog W .any base t v := hval0
  have hsz : (DataW.weightsEach Try.prog (Try.f3.params.toList ++ Rows.linesNumbersSpec.plain.varTypes Try.prog) (ds ++ gs)).all (· ≤ reachBytes) = true := hsz0
  have hW' := hW
  obtain ⟨p, q, hA0, hV, rfl, _, _⟩ := hW
  have hA : DataW.TrodAll enc Try.prog W 0 (fun _ => true) true Try.f3.params.toList args.toList ds p := hA0
  rw [Try.params3] at hA hval hsz
  obtain ⟨v0, vs0, d0, ds0, p0, q0, hargs, rfl, rfl, h0, r0⟩ := trodAll_cons hA
  obtain ⟨v1, vs1, d1, ds1, p1, q1, rfl, rfl, rfl, h1, r1⟩ := trodAll_cons r0
  obtain ⟨v2, vs2, d2, ds2, p2, q2, rfl, rfl, rfl, h2, r2⟩ := trodAll_cons r1
  obtain ⟨rfl, rfl, rfl⟩ := trodAll_nil r2
  obtain rfl : args = #[v0, v1, v2] := by cases args; simp_all
  obtain ⟨rfl, rfl⟩ := trodVars_none hV
  have lt0 : ∀ x ∈ p0, x.block < W.heap.size := by obtain ⟨m, hm⟩ := h0; exact DataW.trod_lt m _ _ _ hm
  have lt1 : ∀ x ∈ p1, x.block < W.heap.size := by obtain ⟨m, hm⟩ := h1; exact DataW.trod_lt m _ _ _ hm
  have w0 : ∀ n ∈ d0.weights Try.prog 22, n ≤ reachBytes := fun n hn => by
    have := List.all_eq_true.1 hsz n (DataW.weights_mem_each (j := 0) (t := 22) (d := d0) rfl rfl n hn)
    simpa using this
  have w1 : ∀ n ∈ d1.weights Try.prog 23, n ≤ reachBytes := fun n hn => by
    have := List.all_eq_true.1 hsz n (DataW.weights_mem_each (j := 1) (t := 23) (d := d1) rfl rfl n hn)
    simpa using this
  obtain ⟨ao, n, c, l, e0, hT⟩ := open0 h0 (okWide_slice Try.underlying22 (hval 0 22 v0 rfl rfl)) w0
  obtain ⟨bo, m, d, Z, e1, hN⟩ := open1 h1 (okWide_slice Try.underlying23 (hval 1 23 v1 rfl rfl)) w1
  obtain ⟨t, rfl, rfl, rfl, wt⟩ := open_int Try.underlying3 (hval 2 3 v2 rfl rfl) h2
  subst e0 e1
  clear hA0 hval0 hsz hsz0
  refine (linesNumbers_walk ao n c l bo m d Z t W (bounds_i64 wt).2 hT hN).mono fun e W' ⟨he, bel⟩ => ?_
  subst he
  exact ⟨_, rfl, _, _, _, [], _, [], hW', trodAll_mk1 (shut_bool Try.underlying4 _), (trodAll_cons_mk (Below.trod laidOut (by kernel_rfl) (of_decide_eq_true (by kernel_rfl)) h0 bel lt0) (trodAll_cons_mk (Below.trod laidOut (by kernel_rfl) (of_decide_eq_true (by kernel_rfl)) h1 bel lt1) (trodAll_cons_mk (shut_int Try.underlying3 wt) trodAll_mk0))), rfl, bel.frame _, fun h => by cases h⟩

theorem over : Rows.linesNumbersRow.holds Try.pinned (OpenSpec.ofChange Rows.linesNumbersSpec) :=
  OpenClaim.holds_of_wide 3 Try.f3 rfl rfl rfl rfl rfl rfl rfl ⟨rfl, rfl, rfl, rfl, rfl⟩ rfl rfl rfl rfl rfl (by kernel_rfl) Try.func3 (by kernel_rfl)
    (of_decide_eq_true (by kernel_rfl)) (by unfold Func.isWrapper; first | (rw [if_pos (by decide +kernel)]; kernel_rfl) | (rw [if_neg (by decide +kernel)]; exact ⟨rfl, rfl⟩))
    (fun os started H enc _ => lifted os started H enc)

end Go.Proofs.Ytkdkkbfbdjeoiaa.numbers
namespace Go.Proofs.Ytkdkkbfbdjeoiaa
/-- The given statement. -/
theorem linesNumbers_holds : Rows.LinesNumbersSaid := numbers.over
end Go.Proofs.Ytkdkkbfbdjeoiaa
