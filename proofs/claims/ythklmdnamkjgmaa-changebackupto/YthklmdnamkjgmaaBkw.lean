/- ChangeBack, walked. -/
import Derived.Test.YthklmdnamkjgmaaPu2
namespace Go.Proofs.Ythklmdnamkjgmaa
open Go.RowKit

set_option maxRecDepth 8000
set_option maxHeartbeats 16000000 in
theorem changeBack_walk (ao : Option Addr) (n c : Nat) (T : List UInt8) (eo : Option Addr) (en ec : Nat) (E : List Er) (w : World) (hT : Hid (Tx w ao n c T)) (HE : Hid (Edz w eo E)) (hn : E.length = en) (hb : n + nsum (E.map Er.d) + osum (E.map Er.d) ≤ 1048576) (heb : en ≤ 1048576) :
    Calls Try.prog 5 #[.slice ao n c, .slice eo en ec] w fun e w' => e = .returned (.bool true) ∧ Below w.heap.size w w' := by
  have HN := Hid.mk' hn
  have HM : Hid (Mod T (E.map Er.d)) := mod_of (by rw [hT.out.len]; omega)
  have hnb : n ≤ 1048576 := by omega
  have HTl := Hid.mk' hT.out.len
  have HI : Hid ((inv (E.map Er.d)).length ≤ en) := by unfold Hid; rw [inv_length, List.length_map]; omega
  have HI2 : Hid (∀ F : List Er, F.map Er.d = inv (E.map Er.d) → F.length ≤ en) := fun F h => by
    have := congrArg List.length h
    rw [List.length_map, inv_length, List.length_map] at this; omega
  obtain ⟨S, hS⟩ : ∃ S, S = sz (E.map Er.d) := ⟨_, rfl⟩
  obtain ⟨S2, hS2⟩ : ∃ S2, S2 = sz (inv (E.map Er.d)) := ⟨_, rfl⟩
  have hSe := sz_eq (E.map Er.d) (by omega)
  have hSi := sz_eq (inv (E.map Er.d)) (by rw [nsum_inv, osum_inv]; omega)
  rw [nsum_inv, osum_inv] at hSi
  have hneg : IntKind.i64.wrap (-S) = S2 := by rw [hS2, hS, hSe, hSi, IntKind.wrap_i64]; omega
  have HS := Hid.mk' hS
  have HS2 := Hid.mk' hS2
  have HUB : Hid (∀ U, app T (E.map Er.d) = some U → U.length ≤ 1048576 ∧ IntKind.i64.wrap ((n : Int) + S) = (U.length : Int) ∧ app U (inv (E.map Er.d)) = some T ∧ Mod U (inv (E.map Er.d))) := fun U hU => by
    have h1 := app_len hU
    rw [HTl.out] at h1
    refine ⟨by omega, by rw [hS, hSe, IntKind.wrap_i64]; omega, app_back hU, mod_of (by rw [nsum_inv]; omega)⟩
  clear hn hb hS hS2 hSe hSi
  cases hz : app T (E.map Er.d) with
  | none =>
    have HZ := Hid.mk' hz
    clear hz HUB
    go_enter Try.func5, Try.ntmps5
    go_wp2_with fail
    refine (alive_any w).mono ?_
    rintro e w1 ⟨rfl, hb⟩
    have L1 : Hid (Below w.heap.size w w1) := bT (Below.refl _ w) hb
    clear hb
    dsimp only
    go_wp2_with fail
    refine (great_any ao n c eo en ec E w1 (HE.out.keep L1.out) HN.out (by omega) (by omega)).mono ?_
    rintro e w2 ⟨gb, rfl, hb, -⟩
    have L2 : Hid (Below w.heap.size w w2) := bT L1.out hb
    clear hb
    dsimp only
    cases gb with
    | true =>
      go_wp2
      go_ret
      exact ⟨rfl, L2.out⟩
    | false =>
    go_wp2_with fail
    refine (invert_any eo en ec E w2 (HE.out.keep L2.out) HN.out (by omega)).mono ?_
    rintro e w3 ⟨v3, F3, rfl, hF3, hL3⟩
    have L3 : Hid (Below w.heap.size w w3) := bT L2.out hL3.bel
    obtain ⟨a3, c3, rfl, -, -⟩ := hL3.edz
    have HF3 := Hid.mk' hF3
    have HL3 := Hid.mk' hL3
    clear hF3 hL3
    dsimp only
    go_wp2_with fail
    refine (invert_any a3 F3.length c3 F3 w3 HL3.out.ez rfl (by have := HI2.out _ HF3.out; omega)).mono ?_
    rintro e w4 ⟨v4, F4, rfl, hF4, hL4⟩
    have L4 : Hid (Below w.heap.size w w4) := bT L3.out hL4.bel
    obtain ⟨a4, c4, rfl, -, -⟩ := hL4.edz
    have HF4 := Hid.mk' hF4
    have HL4 := Hid.mk' hL4
    clear hF4 hL4
    dsimp only
    have HLb : Hid (Lst w2 w4 (.slice a3 F3.length c3) F3) := HL3.out.keep HL4.out.bel
    go_wp2_with fail
    refine (same_yes a4 F4.length c4 F4 eo en ec E w4 HL4.out.ez (HE.out.keep L4.out) rfl HN.out (by rw [HF4.out, HF3.out, inv_inv]) (by have := congrArg List.length HF4.out; rw [List.length_map, inv_length, List.length_map] at this; have := HI2.out _ HF3.out; omega)).mono ?_
    rintro e w5 ⟨rfl, hb⟩
    have L5 : Hid (Below w.heap.size w w5) := bT L4.out hb
    have HLc : Hid (Lst w2 w5 (.slice a3 F3.length c3) F3) := HLb.out.keep hb
    clear hb HL3 HL4 HF4 HLb
    dsimp only
    go_wp2_with fail
    refine (apply_none ao n c T eo en ec E w5 (hT.out.keep L5.out) (by omega) (HE.out.keep L5.out) HN.out (by omega) HM.out HZ.out).mono ?_
    rintro e w6 ⟨rfl, hb⟩
    have L6 : Hid (Below w.heap.size w w6) := bT L5.out hb
    clear hb
    dsimp only
    go_wp2_with fail
    refine (check_none ao n c T eo en ec E w6 (hT.out.keep L6.out) (by omega) (HE.out.keep L6.out) HN.out (by omega) HM.out HZ.out).mono ?_
    rintro e w7 ⟨rfl, hb⟩
    have L7 : Hid (Below w.heap.size w w7) := bT L6.out hb
    clear hb
    dsimp only
    go_wp2
    go_ret
    exact ⟨rfl, L7.out⟩
  | some U =>
    have HZ := Hid.mk' hz
    obtain ⟨hUb, hUS, hU1, hU2⟩ := HUB.out U hz
    have HU1 := Hid.mk' hU1
    have HU2 := Hid.mk' hU2
    obtain ⟨un, hun⟩ : ∃ un, un = U.length := ⟨_, rfl⟩
    rw [← hun] at hUb hUS
    have HUN := Hid.mk' hun
    clear hz HUB hU1 hU2 hun
    go_enter Try.func5, Try.ntmps5
    go_wp2_with fail
    refine (alive_any w).mono ?_
    rintro e w1 ⟨rfl, hb⟩
    have L1 : Hid (Below w.heap.size w w1) := bT (Below.refl _ w) hb
    clear hb
    dsimp only
    go_wp2_with fail
    refine (great_any ao n c eo en ec E w1 (HE.out.keep L1.out) HN.out (by omega) (by omega)).mono ?_
    rintro e w2 ⟨gb, rfl, hb, -⟩
    have L2 : Hid (Below w.heap.size w w2) := bT L1.out hb
    clear hb
    dsimp only
    cases gb with
    | true =>
      go_wp2
      go_ret
      exact ⟨rfl, L2.out⟩
    | false =>
    go_wp2_with fail
    refine (invert_any eo en ec E w2 (HE.out.keep L2.out) HN.out (by omega)).mono ?_
    rintro e w3 ⟨v3, F3, rfl, hF3, hL3⟩
    have L3 : Hid (Below w.heap.size w w3) := bT L2.out hL3.bel
    obtain ⟨a3, c3, rfl, -, -⟩ := hL3.edz
    have HF3 := Hid.mk' hF3
    have HL3 := Hid.mk' hL3
    clear hF3 hL3
    dsimp only
    go_wp2_with fail
    refine (invert_any a3 F3.length c3 F3 w3 HL3.out.ez rfl (by have := HI2.out _ HF3.out; omega)).mono ?_
    rintro e w4 ⟨v4, F4, rfl, hF4, hL4⟩
    have L4 : Hid (Below w.heap.size w w4) := bT L3.out hL4.bel
    obtain ⟨a4, c4, rfl, -, -⟩ := hL4.edz
    have HF4 := Hid.mk' hF4
    have HL4 := Hid.mk' hL4
    clear hF4 hL4
    dsimp only
    have HLb : Hid (Lst w2 w4 (.slice a3 F3.length c3) F3) := HL3.out.keep HL4.out.bel
    go_wp2_with fail
    refine (same_yes a4 F4.length c4 F4 eo en ec E w4 HL4.out.ez (HE.out.keep L4.out) rfl HN.out (by rw [HF4.out, HF3.out, inv_inv]) (by have := congrArg List.length HF4.out; rw [List.length_map, inv_length, List.length_map] at this; have := HI2.out _ HF3.out; omega)).mono ?_
    rintro e w5 ⟨rfl, hb⟩
    have L5 : Hid (Below w.heap.size w w5) := bT L4.out hb
    have HLc : Hid (Lst w2 w5 (.slice a3 F3.length c3) F3) := HLb.out.keep hb
    clear hb HL3 HL4 HF4 HLb
    dsimp only
    go_wp2_with fail
    refine (apply_some ao n c T eo en ec E w5 (hT.out.keep L5.out) (by omega) (HE.out.keep L5.out) HN.out (by omega) HM.out HZ.out).mono ?_
    rintro e w6 ⟨v6, rfl, hO6, hb⟩
    have L6 : Hid (Below w.heap.size w w6) := bT L5.out hb
    have HLd : Hid (Lst w2 w6 (.slice a3 F3.length c3) F3) := HLc.out.keep hb
    rw [← HUN.out] at hO6
    obtain ⟨a6, c6, rfl, hX6⟩ := own_tx hO6 (by omega)
    have X6 := Hid.mk' hX6
    clear hb hO6 hX6 HLc
    dsimp only
    go_wp2_with fail
    refine (apply_some a6 un c6 U a3 F3.length c3 F3 w6 X6.out (by omega) HLd.out.ez rfl (by have := HI2.out _ HF3.out; omega) (by unfold Hid; rw [HF3.out]; exact HU2.out) (U := T) (by rw [HF3.out]; exact HU1.out)).mono ?_
    rintro e w7 ⟨v7, rfl, hO7, hb⟩
    have L7 : Hid (Below w.heap.size w w7) := bT L6.out hb
    have HLe : Hid (Lst w2 w7 (.slice a3 F3.length c3) F3) := HLd.out.keep hb
    rw [HTl.out] at hO7
    obtain ⟨a7, c7, rfl, hX7⟩ := own_tx hO7 (by omega)
    have X7 := Hid.mk' hX7
    have v1 := conv_tx X7.out
    have v2 := conv_tx (hT.out.keep L7.out)
    clear hb hO7 hX7 HLd
    dsimp only
    go_wp2_with fail
    refine (size_any eo en ec E w7 (HE.out.keep L7.out) HN.out (by omega)).mono ?_
    rintro e w8 ⟨rfl, hb⟩
    have L8 : Hid (Below w.heap.size w w8) := bT L7.out hb
    have HLf : Hid (Lst w2 w8 (.slice a3 F3.length c3) F3) := HLe.out.keep hb
    rw [← HS.out]
    clear hb HLe v1 v2
    dsimp only
    go_wp2_with fail
    refine (size_any a3 F3.length c3 F3 w8 HLf.out.ez rfl (by have := HI2.out _ HF3.out; omega)).mono ?_
    rintro e w9 ⟨rfl, hb⟩
    have L9 : Hid (Below w.heap.size w w9) := bT L8.out hb
    rw [HF3.out, ← HS2.out]
    clear hb HLf
    dsimp only
    go_wp2_with fail
    refine (size_any eo en ec E w9 (HE.out.keep L9.out) HN.out (by omega)).mono ?_
    rintro e w10 ⟨rfl, hb⟩
    have L10 : Hid (Below w.heap.size w w10) := bT L9.out hb
    rw [← HS.out]
    clear hb
    dsimp only
    go_wp2
    go_ret
    exact ⟨rfl, L10.out⟩
end Go.Proofs.Ythklmdnamkjgmaa
