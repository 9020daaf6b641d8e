/- Proved: quoinlaw02.ShadeFinds returns true for every list of pieces and every number, and leaves its arguments as they were; no condition. -/
import Derived.Test.YtcaegdfbbjfgpaaOpen
import Derived.Test.YtcaegdfbbjfgpaaFindsLow
import Derived.Test.YtcaegdfbbjfgpaaFindsHigh
import Derived.Test.YtcaegdfbbjfgpaaFindsMid
import Derived.Test.YtcaegdfbbjfgpaaFindsBoth
namespace Go.Proofs.Ytcaegdfbbjfgpaa.finds
open Go.ChangeShapes Go.WideShapes Go.ChangeAt Go.RowKit Go.Deep

theorem walk (ao : Option Addr) (n c : Nat) (L : List Pc) (m : Int) (w : World) (hn : n = L.length) (hr : Rdb w (.slice ao n c) L) :
    Calls Try.prog 7 #[.slice ao n c, .int .i64 m] w fun e w' => e = .returned (.bool true) ∧ Below w.heap.size w w' := by
  by_cases h : n ≤ 5000
  · have hF := (buildT_fine (L := L) (by omega)).1
    have hb := (Tr.buildT (good L)).fits_bounds hF.1
    by_cases h0 : m < 0
    · exact finds_low ao n c L m w (by omega) (by unfold Hid; omega) hr h0
    · by_cases h1 : m < (Tr.buildT (good L)).byt
      · by_cases h2 : m < (Tr.buildT (good L)).lin
        · exact finds_both ao n c L m w (by omega) (by unfold Hid; omega) hr (by omega) h1 h2
        · exact finds_mid ao n c L m w (by omega) (by unfold Hid; omega) hr (by omega) h1 (by omega)
      · exact finds_high ao n c L m w (by omega) (by unfold Hid; omega) hr (by omega) (by omega) (by omega)
  · exact finds_long ao n c m w (by omega)

set_option maxRecDepth 100000 in
theorem lifted (os : Os) (started : os.Started) (H : Type) (enc : TypeId × Value → H) :
    ReturnsInHanded {} Try.checked os 7 .any (Rows.shadeFindsSpec.pre6 enc Try.prog Try.f7 Rows.shadeFindsRow.domain false) (Rows.shadeFindsSpec.post enc Try.prog Try.f7 false true false false) := by
  refine returnsInHanded_of_change_sized (C := Try.checked) own started (by kernel_rfl) Try.func7
    (ChangeSpec.witness6 (enc := enc) (C := Try.checked) false ⟨#[], #[.slice none 0 0, .int .i64 0], []⟩ 8 (by kernel_rfl) (by kernel_rfl) (by kernel_rfl) (by kernel_rfl)) ?_
  intro W base args ds gs before hval0 hW _ hsz0 _
  have hval : ∀ (j : Nat) t v, Try.f7.params[j]? = some t → args[j]? = some v → Value.okWide Try.prog W .any base t v := hval0
  have hW' := hW
  obtain ⟨p, q, hA0, hV, rfl, _, _⟩ := hW
  have hA : DataW.TrodAll enc Try.prog W 0 (fun _ => true) true Try.f7.params.toList args.toList ds p := hA0
  rw [Try.params7] at hA hval
  obtain ⟨v0, vs0, d0, ds0, p0, q0, hargs, rfl, rfl, h0, r0⟩ := trodAll_cons hA
  obtain ⟨v1, vs1, d1, ds1, p1, q1, rfl, rfl, rfl, h1, r1⟩ := trodAll_cons r0
  obtain ⟨rfl, rfl, rfl⟩ := trodAll_nil r1
  obtain rfl : args = #[v0, v1] := by cases args; simp_all
  obtain ⟨rfl, rfl⟩ := trodVars_none hV
  have lt0 : ∀ x ∈ p0, x.block < W.heap.size := by obtain ⟨m, hm⟩ := h0; exact DataW.trod_lt m _ _ _ hm
  have lt1 : ∀ x ∈ p1, x.block < W.heap.size := by obtain ⟨m, hm⟩ := h1; exact DataW.trod_lt m _ _ _ hm
  obtain ⟨ao, n, c, L, e0, hn, hR⟩ := open_pieces h0 (okWide_slice Try.underlying33 (hval 0 33 v0 rfl rfl))
  obtain ⟨m, rfl, _, _, _⟩ := open_int Try.underlying3 (hval 1 3 v1 rfl rfl) h1
  subst e0
  clear hA0 hval0 hsz0
  refine (walk ao n c L m W hn hR).mono fun e W' ⟨he, bel⟩ => ?_
  subst he
  exact ⟨_, rfl, _, _, _, [], _, [], hW', trodAll_mk1 (shut_bool Try.underlying4 _), (trodAll_cons_mk (Below.trod laidOut (by kernel_rfl) (of_decide_eq_true (by kernel_rfl)) h0 bel lt0) (trodAll_cons_mk (Below.trod laidOut (by kernel_rfl) (of_decide_eq_true (by kernel_rfl)) h1 bel lt1) trodAll_mk0)), rfl, bel.frame _, fun h => by cases h⟩

theorem over : Rows.shadeFindsRow.holds Try.pinned (OpenSpec.ofChange Rows.shadeFindsSpec) :=
  OpenClaim.holds_of_wide 7 Try.f7 rfl rfl rfl rfl rfl rfl rfl ⟨rfl, rfl, rfl, rfl, rfl⟩ rfl rfl rfl rfl rfl (by kernel_rfl) Try.func7 (by kernel_rfl)
    (of_decide_eq_true (by kernel_rfl)) (by unfold Func.isWrapper; first | (rw [if_pos (by decide +kernel)]; kernel_rfl) | (rw [if_neg (by decide +kernel)]; exact ⟨rfl, rfl⟩))
    (fun os started H enc _ => lifted os started H enc)
end Go.Proofs.Ytcaegdfbbjfgpaa.finds
namespace Go.Proofs.Ytcaegdfbbjfgpaa
/-- The given statement. -/
theorem shadeFinds_holds : Rows.ShadeFindsSaid := finds.over
end Go.Proofs.Ytcaegdfbbjfgpaa
