/- ChangePlain, walked. -/
import Derived.Test.YthklmdnamkjgmaaAlv
namespace Go.Proofs.Ythklmdnamkjgmaa
open Go.RowKit

set_option maxRecDepth 8000
theorem Lst.ez {w W : World} {ao : Option Addr} {n c : Nat} {F : List Er} (h : Lst w W (.slice ao n c) F) : Edz W ao F := by
  obtain ⟨a', c', e, h1, -⟩ := h.edz
  simp only [Value.slice.injEq] at e
  obtain ⟨rfl, -, -⟩ := e
  exact h1
theorem Lst.bigl {w W : World} {v : Value} {F : List Er} {D : List Ed} {n : Nat} (_h : Lst w W v F) (hF : F.map Er.d = D) (hn : D.length ≤ n) (hb : n * 56 ≤ 140737488355328) : F.length * 56 ≤ 140737488355328 := by
  have := congrArg List.length hF
  rw [List.length_map] at this
  omega
theorem Lst.capl {w W : World} {ao : Option Addr} {n c : Nat} {F : List Er} (h : Lst w W (.slice ao n c) F) : F.length ≤ c := by
  rcases h.own.2 with ⟨e, h0⟩ | ⟨g, cap, cur, e, _, _, h3, _⟩
  · omega
  · simp at e; omega
theorem trim_len (D : List Ed) : (trim D).length ≤ D.length := by
  unfold trim
  rw [List.length_map]
  exact List.length_filter_le _ _
set_option maxHeartbeats 16000000 in
theorem changePlain_walk (eo : Option Addr) (en ec : Nat) (E : List Er) (p1 : Option Addr) (n1 k1 : Nat) (A : List UInt8) (p2 : Option Addr) (n2 k2 : Nat) (B : List UInt8) (w : World) (HE : Hid (Edz w eo E)) (hn : E.length = en) (heb : en * 56 ≤ 140737488355328) (hc : en ≤ ec) (TA : Hid (Tx w p1 n1 k1 A)) (TB : Hid (Tx w p2 n2 k2 B)) (b1 : n1 ≤ 140737488355328) (b2 : n2 ≤ 140737488355328) :
    Calls Try.prog 4 #[.slice eo en ec, .slice p1 n1 k1, .slice p2 n2 k2] w fun e w' => e = .returned (.bool true) ∧ Below w.heap.size w w' := by
  have HN := Hid.mk' hn
  have HI : Hid ((inv (E.map Er.d)).length ≤ en) := by unfold Hid; rw [inv_length, List.length_map]; omega
  have HT : Hid ((trim (E.map Er.d)).length ≤ en) := by unfold Hid; have := trim_len (E.map Er.d); rw [List.length_map] at this; omega
  have HB : Hid ((trim [(⟨0, A, B⟩ : Ed)]).length ≤ 1) := by unfold Hid; exact trim_len _
  clear hn
  go_enter Try.func4, Try.ntmps4
  go_wp2_with fail
  refine (alive_any w).mono ?_
  rintro e w1 ⟨rfl, hb⟩
  have L1 : Hid (Below w.heap.size w w1) := bT (Below.refl _ w) hb
  clear hb
  dsimp only
  go_wp2_with fail
  refine (invert_any eo en ec E w1 (HE.out.keep L1.out) HN.out heb).mono ?_
  rintro e w2 ⟨v2, F2, rfl, hF2, hL2⟩
  have L2 : Hid (Below w.heap.size w w2) := bT L1.out hL2.bel
  obtain ⟨a2, c2, rfl, -, -⟩ := hL2.edz
  have HF2 := Hid.mk' hF2
  have HL2 := Hid.mk' hL2
  clear hF2 hL2
  dsimp only
  go_wp2_with fail
  refine (rinvert_any eo en ec E w2 (HE.out.keep L2.out) HN.out heb).mono ?_
  rintro e w3 ⟨v3, F3, rfl, hF3, hL3⟩
  have L3 : Hid (Below w.heap.size w w3) := bT L2.out hL3.bel
  obtain ⟨a3, c3, rfl, -, -⟩ := hL3.edz
  have HF3 := Hid.mk' hF3
  have HL3 := Hid.mk' hL3
  clear hF3 hL3
  dsimp only
  go_wp2_with fail
  refine (same_yes a2 F2.length c2 F2 a3 F3.length c3 F3 w3 (HL2.out.ez.keep HL3.out.bel) HL3.out.ez rfl rfl (HF2.out.trans HF3.out.symm) (by have := HL2.out.bigl HF2.out HI.out (n := en) heb; omega)).mono ?_
  rintro e w4 ⟨rfl, hb⟩
  have L4 : Hid (Below w.heap.size w w4) := bT L3.out hb
  clear hb HF2 HL2 HF3 HL3
  dsimp only
  go_wp2_with fail
  refine (trim_any eo en ec E w4 (HE.out.keep L4.out) HN.out heb).mono ?_
  rintro e w5 ⟨v5, F5, rfl, hF5, hL5⟩
  have L5 : Hid (Below w.heap.size w w5) := bT L4.out hL5.bel
  obtain ⟨a5, c5, rfl, -, -⟩ := hL5.edz
  have HF5 := Hid.mk' hF5
  have HL5 := Hid.mk' hL5
  clear hF5 hL5
  dsimp only
  go_wp2_with fail
  refine (rtrim_any eo en ec E w5 (HE.out.keep L5.out) HN.out heb).mono ?_
  rintro e w6 ⟨v6, F6, rfl, hF6, hL6⟩
  have L6 : Hid (Below w.heap.size w w6) := bT L5.out hL6.bel
  obtain ⟨a6, c6, rfl, -, -⟩ := hL6.edz
  have HF6 := Hid.mk' hF6
  have HL6 := Hid.mk' hL6
  clear hF6 hL6
  dsimp only
  go_wp2_with fail
  refine (same_yes a5 F5.length c5 F5 a6 F6.length c6 F6 w6 (HL5.out.ez.keep HL6.out.bel) HL6.out.ez rfl rfl (HF5.out.trans HF6.out.symm) (by have := HL5.out.bigl HF5.out HT.out (n := en) heb; omega)).mono ?_
  rintro e w7 ⟨rfl, hb⟩
  have L7 : Hid (Below w.heap.size w w7) := bT L6.out hb
  clear hb HF5 HL5 HF6 HL6
  dsimp only
  go_wp2_with fail
  refine (between_any p1 n1 k1 A p2 n2 k2 B w7 (TA.out.keep L7.out) (TB.out.keep L7.out) b1 b2).mono ?_
  rintro e w8 ⟨v8, F8, rfl, hF8, hL8⟩
  have L8 : Hid (Below w.heap.size w w8) := bT L7.out hL8.bel
  obtain ⟨a8, c8, rfl, -, -⟩ := hL8.edz
  have HF8 := Hid.mk' hF8
  have HL8 := Hid.mk' hL8
  clear hF8 hL8
  dsimp only
  go_wp2_with fail
  refine (rbetween_any p1 n1 k1 A p2 n2 k2 B w8 (TA.out.keep L8.out) (TB.out.keep L8.out) b1 b2).mono ?_
  rintro e w9 ⟨v9, F9, rfl, hF9, hL9⟩
  have L9 : Hid (Below w.heap.size w w9) := bT L8.out hL9.bel
  obtain ⟨a9, c9, rfl, -, -⟩ := hL9.edz
  have HF9 := Hid.mk' hF9
  have HL9 := Hid.mk' hL9
  clear hF9 hL9
  dsimp only
  go_wp2_with fail
  refine (same_yes a8 F8.length c8 F8 a9 F9.length c9 F9 w9 (HL8.out.ez.keep HL9.out.bel) HL9.out.ez rfl rfl (HF8.out.trans HF9.out.symm) (by have := HL8.out.bigl HF8.out HB.out (n := 1) (by omega); omega)).mono ?_
  rintro e w10 ⟨rfl, hb⟩
  have L10 : Hid (Below w.heap.size w w10) := bT L9.out hb
  clear hb HF8 HL8 HF9 HL9
  dsimp only
  go_wp2_with fail
  refine (size_any eo en ec E w10 (HE.out.keep L10.out) HN.out (by omega)).mono ?_
  rintro e w11 ⟨rfl, hb⟩
  have L11 : Hid (Below w.heap.size w w11) := bT L10.out hb
  clear hb
  dsimp only
  go_wp2_with fail
  refine (rsize_any eo en ec E w11 (HE.out.keep L11.out) HN.out (by omega)).mono ?_
  rintro e w12 ⟨rfl, hb⟩
  have L12 : Hid (Below w.heap.size w w12) := bT L11.out hb
  clear hb
  dsimp only
  go_wp2_with fail
  refine (first_any eo en ec E w12 (HE.out.keep L12.out) HN.out (by omega) hc).mono ?_
  rintro e w13 ⟨rfl, hb⟩
  have L13 : Hid (Below w.heap.size w w13) := bT L12.out hb
  clear hb
  dsimp only
  go_wp2_with fail
  refine (rfirst_any eo en ec E w13 (HE.out.keep L13.out) HN.out (by omega)).mono ?_
  rintro e w14 ⟨rfl, hb⟩
  have L14 : Hid (Below w.heap.size w w14) := bT L13.out hb
  clear hb
  dsimp only
  go_wp2
  go_ret
  exact ⟨rfl, L14.out⟩
end Go.Proofs.Ythklmdnamkjgmaa
