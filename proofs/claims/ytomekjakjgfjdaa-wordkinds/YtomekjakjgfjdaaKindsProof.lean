/- Proved: quoinlaw08.WordKinds returns true for every text, every question and every table of bytes, and leaves its arguments as they were; no condition. -/
import Derived.Test.YtomekjakjgfjdaaKindsW
import Derived.Test.YtomekjakjgfjdaaOpen
import Derived.Deep.Matrix
namespace Go.Proofs.Ytomekjakjgfjdaa.wordKinds
open Go.ChangeShapes Go.WideShapes Go.ChangeAt Go.RowKit Go.Joins Go.Deep

theorem cells42 : Try.prog.cellsOf 42 = 256 := by kernel_rfl
/-- what a table of bytes is to the walk -/
theorem open_other {H : Type} {enc : TypeId × Value → H} {W : World} {r : Reach} {b0 : Nat} {v : Value} {d : DataW H} {p : List MemPlace} (hval : Value.okWide Try.prog W r b0 42 v) (h : DataW.Trod enc Try.prog W 0 (fun _ => true) true 42 v d p) :
    ∃ (O : Array Value) (ot : Nat → UInt8), v = .agg O ∧ (O.size = 256 ∧ ∀ j, j < 256 → O[j]? = some (.int .u8 ((ot j).toNat : Int))) := by
  unfold Value.okWide at hval
  simp only [Try.underlying42] at hval
  obtain ⟨O, rfl, hsz, -⟩ := hval
  rw [cells42] at hsz
  obtain ⟨fuel, hf⟩ := h
  obtain ⟨xs, m, -, -, -, hl, hel⟩ := DataW.trod_array Try.underlying42 hf
  have each : ∀ j, j < 256 → ∃ b : UInt8, O[j]? = some (.int .u8 (b.toNat : Int)) := by
    intro j hj
    have hy : xs[j]? = some xs[j] := List.getElem?_eq_getElem (by omega)
    have g := hel j hj
    rw [hy, cells5, Nat.mul_one] at g
    obtain ⟨z, e, -, wz⟩ := DataW.trod_int Try.underlying5 g
    have hb := bounds_u8 wz
    have e2 : O.toList[j]? = some (.int .u8 z) := by
      have e3 : ((O.toList.drop j).take 1)[0]? = some (.int .u8 z) := by
        have e4 : (Value.agg O).cells = O := by simp [Value.cells]
        rw [e4] at e
        rw [e]; rfl
      rw [List.getElem?_take_of_lt (by omega), List.getElem?_drop] at e3
      simpa using e3
    refine ⟨UInt8.ofNat z.toNat, ?_⟩
    rw [← Array.getElem?_toList, e2]
    have e5 : (UInt8.ofNat z.toNat).toNat = z.toNat := by rw [UInt8.toNat_ofNat']; omega
    rw [e5]
    congr 2
    omega
  obtain ⟨ot, ho⟩ := choose_lt each
  exact ⟨O, ot, rfl, hsz, ho⟩

set_option maxRecDepth 100000 in
theorem lifted (os : Os) (started : os.Started) (H : Type) (enc : TypeId × Value → H) :
    ReturnsInHanded {} Try.checked os 7 .any (Rows.wordKindsSpec.pre6 enc Try.prog Try.f7 Rows.wordKindsRow.domain false) (Rows.wordKindsSpec.post enc Try.prog Try.f7 false true false false) := by
  refine returnsInHanded_of_change_sized (C := Try.checked) own started (by kernel_rfl) Try.func7
    (ChangeSpec.witness6 (enc := enc) (C := Try.checked) false ⟨#[], #[.agg #[.slice none 0 0, .int .i64 0, .int .i64 0, .int .i64 0, .string { data := #[] }], .agg (Array.replicate 256 (.int .u8 0))], []⟩ 8 (by kernel_rfl) (by kernel_rfl) (by kernel_rfl) (by kernel_rfl)) ?_
  intro W base args ds gs before hval0 hW _ hsz0 _
  have hval : ∀ (j : Nat) t v, Try.f7.params[j]? = some t → args[j]? = some v → Value.okWide Try.prog W .any base t v := hval0
  have hsz : (DataW.weightsEach Try.prog (Try.f7.params.toList ++ Rows.wordKindsSpec.plain.varTypes Try.prog) (ds ++ gs)).all (· ≤ reachBytes) = true := hsz0
  have hW' := hW
  obtain ⟨p, q, hA0, hV, rfl, _, _⟩ := hW
  have hA : DataW.TrodAll enc Try.prog W 0 (fun _ => true) true Try.f7.params.toList args.toList ds p := hA0
  rw [Try.params7] at hA hval hsz
  obtain ⟨v0, vs0, d0, ds0, p0, q0, hargs, rfl, rfl, h0, r0⟩ := trodAll_cons hA
  obtain ⟨v1, vs1, d1, ds1, p1, q1, rfl, rfl, rfl, h1, r1⟩ := trodAll_cons r0
  obtain ⟨rfl, rfl, rfl⟩ := trodAll_nil r1
  obtain rfl : args = #[v0, v1] := by cases args; simp_all
  obtain ⟨rfl, rfl⟩ := trodVars_none hV
  have lt0 : ∀ x ∈ p0, x.block < W.heap.size := by obtain ⟨m, hm⟩ := h0; exact DataW.trod_lt m _ _ _ hm
  have lt1 : ∀ x ∈ p1, x.block < W.heap.size := by obtain ⟨m, hm⟩ := h1; exact DataW.trod_lt m _ _ _ hm
  have w0 : ∀ n ∈ d0.weights Try.prog 35, n ≤ reachBytes := fun n hn => by
    have := List.all_eq_true.1 hsz n (DataW.weights_mem_each (j := 0) (t := 35) (d := d0) rfl rfl n hn)
    simpa using this
  obtain ⟨ao, n, c, l, i, M, C, s, e0, hT, hn⟩ := open_job (hval 0 35 v0 rfl rfl) h0 w0
  obtain ⟨O, ot, e1, hO⟩ := open_other (hval 1 42 v1 rfl rfl) h1
  subst e0 e1
  clear hA0 hval0 hsz hsz0
  refine (wordKinds_walk ao n c i M C s l O ot W hn hT hO).mono fun e W' ⟨he, bel⟩ => ?_
  subst he
  exact ⟨_, rfl, _, _, _, [], _, [], hW', trodAll_mk1 (shut_bool Try.underlying4 _), (trodAll_cons_mk (Below.trod laidOut (by kernel_rfl) (of_decide_eq_true (by kernel_rfl)) h0 bel lt0) (trodAll_cons_mk (Below.trod laidOut (by kernel_rfl) (of_decide_eq_true (by kernel_rfl)) h1 bel lt1) trodAll_mk0)), rfl, bel.frame _, fun h => by cases h⟩

theorem over : Rows.wordKindsRow.holds Try.pinned (OpenSpec.ofChange Rows.wordKindsSpec) :=
  OpenClaim.holds_of_wide 7 Try.f7 rfl rfl rfl rfl rfl rfl rfl ⟨rfl, rfl, rfl, rfl, rfl⟩ rfl rfl rfl rfl rfl (by kernel_rfl) Try.func7 (by kernel_rfl)
    (of_decide_eq_true (by kernel_rfl)) (by unfold Func.isWrapper; first | (rw [if_pos (by decide +kernel)]; kernel_rfl) | (rw [if_neg (by decide +kernel)]; exact ⟨rfl, rfl⟩))
    (fun os started H enc _ => lifted os started H enc)

end Go.Proofs.Ytomekjakjgfjdaa.wordKinds
namespace Go.Proofs.Ytomekjakjgfjdaa
/-- The given statement. -/
theorem wordKinds_holds : Rows.WordKindsSaid := wordKinds.over
end Go.Proofs.Ytomekjakjgfjdaa
