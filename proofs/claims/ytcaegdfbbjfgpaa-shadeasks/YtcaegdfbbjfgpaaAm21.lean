/- Proved: quoinlaw02.ShadeAsks returns true for every list of pieces and every list of numbers, and leaves its arguments as they were; no condition. -/
import Derived.Test.YtcaegdfbbjfgpaaAm03
import Derived.Test.YtcaegdfbbjfgpaaAm20
import Derived.ChangeSlices
namespace Go.Proofs.Ytcaegdfbbjfgpaa.asks
open Go.ChangeShapes Go.WideShapes Go.ChangeAt Go.RowKit Go.Deep

theorem walk (ao : Option Addr) (n c : Nat) (L : List Pc) (no : Option Addr) (nc an : Nat) (A : List Int) (w : World) (hn : n = L.length) (hr : Rdb w (.slice ao n c) L) (han : an = A.length) (hA : RdN w no A) (hA2 : ∀ x ∈ A, -9223372036854775808 ≤ x ∧ x ≤ 9223372036854775807) (hA3 : an ≤ 9223372036854775807) :
    Calls Try.prog 4 #[.slice ao n c, .slice no an nc] w fun e w' => e = .returned (.bool true) ∧ Below w.heap.size w w' := by
  by_cases h : n ≤ 5000
  · exact asksL_walk ao n c L no nc an A w (by omega) (by unfold Hid; omega) hr han hA hA2 hA3
  · exact asksL_long ao n c _ w (by omega)

section
variable {H : Type} {enc : TypeId × Value → H} {W : World}
/-- a slice of numbers -/
theorem open_ns {v : Value} {d : DataW H} {p : List MemPlace} (h : DataW.Trod enc Try.prog W 0 (fun _ => true) true 44 v d p) (hv : ∃ a len cap, v = .slice a len cap) :
    ∃ no an nc A, v = .slice no an nc ∧ an = A.length ∧ RdN W no A ∧ (∀ x ∈ A, -9223372036854775808 ≤ x ∧ x ≤ 9223372036854775807) ∧ an ≤ 9223372036854775807 := by
  obtain ⟨a, len, cap, rfl⟩ := hv
  obtain ⟨fuel, hf⟩ := h
  rcases open_ints Try.underlying44 Try.underlying3 cells3 hf with ⟨hcs, _⟩ | ⟨x, l', c', zs, hcs, _, hl, hm, hz, _, hcell, hwz⟩
  · simp [Value.cells] at hcs
    obtain ⟨rfl, rfl, rfl⟩ := hcs
    exact ⟨none, 0, 0, [], rfl, rfl, .inl rfl, fun x hx => by simp at hx, by omega⟩
  · simp [Value.cells] at hcs
    obtain ⟨rfl, rfl, rfl⟩ := hcs
    simp only [if_true] at hz
    refine ⟨some x, len, cap, zs.take len, rfl, by rw [List.length_take]; omega, ?_, fun y hy => bounds_i64 (hwz y (List.mem_of_mem_take hy)), by unfold maxLen at hm; omega⟩
    by_cases h0 : len = 0
    · subst h0; exact .inl (by simp)
    · obtain ⟨g, off, spot⟩ := x
      have hspot : spot = none := by
        have h1 := hcell 0 (by omega)
        simpa [Addr.add] using World.cell?_spot h1
      subst hspot
      refine .inr ⟨g, off, rfl, fun j y hj => ?_⟩
      have hj' : j < len := by have := (List.getElem?_eq_some_iff.1 hj).1; rw [List.length_take] at this; omega
      have h1 := hcell j (by omega)
      rw [Go.WideShapes.add_plain] at h1
      rw [h1]
      rw [List.getElem?_take_of_lt hj'] at hj
      rw [List.getD_eq_getElem?_getD, hj]
      rfl
end

set_option maxRecDepth 100000 in
theorem lifted (os : Os) (started : os.Started) (H : Type) (enc : TypeId × Value → H) :
    ReturnsInHanded {} Try.checked os 4 .any (Rows.shadeAsksSpec.pre6 enc Try.prog Try.f4 Rows.shadeAsksRow.domain false) (Rows.shadeAsksSpec.post enc Try.prog Try.f4 false true false false) := by
  refine returnsInHanded_of_change_sized (C := Try.checked) own started (by kernel_rfl) Try.func4
    (ChangeSpec.witness6 (enc := enc) (C := Try.checked) false ⟨#[], #[.slice none 0 0, .slice none 0 0], []⟩ 8 (by kernel_rfl) (by kernel_rfl) (by kernel_rfl) (by kernel_rfl)) ?_
  intro W base args ds gs before hval0 hW _ hsz0 _
  have hval : ∀ (j : Nat) t v, Try.f4.params[j]? = some t → args[j]? = some v → Value.okWide Try.prog W .any base t v := hval0
  have hW' := hW
  obtain ⟨p, q, hA0, hV, rfl, _, _⟩ := hW
  have hA : DataW.TrodAll enc Try.prog W 0 (fun _ => true) true Try.f4.params.toList args.toList ds p := hA0
  rw [Try.params4] at hA hval
  obtain ⟨v0, vs0, d0, ds0, p0, q0, hargs, rfl, rfl, h0, r0⟩ := trodAll_cons hA
  obtain ⟨v1, vs1, d1, ds1, p1, q1, rfl, rfl, rfl, h1, r1⟩ := trodAll_cons r0
  obtain ⟨rfl, rfl, rfl⟩ := trodAll_nil r1
  obtain rfl : args = #[v0, v1] := by cases args; simp_all
  obtain ⟨rfl, rfl⟩ := trodVars_none hV
  have lt0 : ∀ x ∈ p0, x.block < W.heap.size := by obtain ⟨m, hm⟩ := h0; exact DataW.trod_lt m _ _ _ hm
  have lt1 : ∀ x ∈ p1, x.block < W.heap.size := by obtain ⟨m, hm⟩ := h1; exact DataW.trod_lt m _ _ _ hm
  obtain ⟨ao, n, c, L, e0, hn, hR⟩ := open_pieces h0 (okWide_slice Try.underlying33 (hval 0 33 v0 rfl rfl))
  obtain ⟨no, an, nc, A, e1, han, hNA, hN2, hN3⟩ := open_ns h1 (okWide_slice Try.underlying44 (hval 1 44 v1 rfl rfl))
  subst e0 e1
  clear hA0 hval0 hsz0
  refine (walk ao n c L no nc an A W hn hR han hNA hN2 hN3).mono fun e W' ⟨he, bel⟩ => ?_
  subst he
  exact ⟨_, rfl, _, _, _, [], _, [], hW', trodAll_mk1 (shut_bool Try.underlying4 _), (trodAll_cons_mk (Below.trod laidOut (by kernel_rfl) (of_decide_eq_true (by kernel_rfl)) h0 bel lt0) (trodAll_cons_mk (Below.trod laidOut (by kernel_rfl) (of_decide_eq_true (by kernel_rfl)) h1 bel lt1) trodAll_mk0)), rfl, bel.frame _, fun h => by cases h⟩

theorem over : Rows.shadeAsksRow.holds Try.pinned (OpenSpec.ofChange Rows.shadeAsksSpec) :=
  OpenClaim.holds_of_wide 4 Try.f4 rfl rfl rfl rfl rfl rfl rfl ⟨rfl, rfl, rfl, rfl, rfl⟩ rfl rfl rfl rfl rfl (by kernel_rfl) Try.func4 (by kernel_rfl)
    (of_decide_eq_true (by kernel_rfl)) (by unfold Func.isWrapper; first | (rw [if_pos (by decide +kernel)]; kernel_rfl) | (rw [if_neg (by decide +kernel)]; exact ⟨rfl, rfl⟩))
    (fun os started H enc _ => lifted os started H enc)
end Go.Proofs.Ytcaegdfbbjfgpaa.asks
namespace Go.Proofs.Ytcaegdfbbjfgpaa
/-- The given statement. -/
theorem shadeAsks_holds : Rows.ShadeAsksSaid := asks.over
end Go.Proofs.Ytcaegdfbbjfgpaa

