/- ChangeBetween, walked. -/
import Derived.Test.YthklmdnamkjgmaaPu2
namespace Go.Proofs.Ythklmdnamkjgmaa
open Go.RowKit

set_option maxRecDepth 8000
set_option maxHeartbeats 16000000 in
theorem changeBetween_walk (p1 : Option Addr) (n1 k1 : Nat) (A : List UInt8) (p2 : Option Addr) (n2 k2 : Nat) (B : List UInt8) (w : World) (TA : Hid (Tx w p1 n1 k1 A)) (TB : Hid (Tx w p2 n2 k2 B)) (b1 : n1 ≤ 140737488355328) (b2 : n2 ≤ 140737488355328) :
    Calls Try.prog 7 #[.slice p1 n1 k1, .slice p2 n2 k2] w fun e w' => e = .returned (.bool true) ∧ Below w.heap.size w w' := by
  have HAl := Hid.mk' TA.out.len
  have HBl := Hid.mk' TB.out.len
  obtain ⟨hA1, hA2, hA3, hA4⟩ := btw_app A B (by rw [TA.out.len]; exact b1) (by rw [TB.out.len]; exact b2)
  have hnl := btw_nil A B
  have htt := trim_trim [(⟨0, A, B⟩ : Ed)]
  obtain ⟨D, hD⟩ : ∃ D, D = trim [(⟨0, A, B⟩ : Ed)] := ⟨_, rfl⟩
  have CB : Hid (∀ W, Below w.heap.size w W → Calls Try.prog 20 #[.slice p1 n1 k1, .slice p2 n2 k2] W fun e w' => LstP D W e w') := fun W hW => by rw [hD]; exact between_any p1 n1 k1 A p2 n2 k2 B W (TA.out.keep hW) (TB.out.keep hW) b1 b2
  rw [← hD] at hA1 hA2 hA3 hA4 hnl htt
  have HA1 := Hid.mk' hA1
  have HA2 := Hid.mk' hA2
  have HA3 := Hid.mk' hA3
  have HA4 := Hid.mk' hA4
  have HTT := Hid.mk' htt
  have HNL := Hid.mk' hnl
  clear hA1 hA2 hA3 hA4 hnl htt hD
  obtain ⟨q, hq⟩ : ∃ q, (A == B) = q := ⟨_, rfl⟩
  have HDL : Hid (∀ F : List Er, F.map Er.d = D → F.length = if q = true then 0 else 1) := fun F h => by
    have h1 := congrArg List.length h
    rw [List.length_map, HNL.out, hq] at h1
    exact h1
  go_enter Try.func7, Try.ntmps7
  go_wp2_with fail
  refine (alive_any w).mono ?_
  rintro e w1 ⟨rfl, hb⟩
  have L1 : Hid (Below w.heap.size w w1) := bT (Below.refl _ w) hb
  clear hb
  dsimp only
  go_wp2_with fail
  refine (CB.out w1 L1.out).mono ?_
  rintro e w2 ⟨v2, F2, rfl, hF2, hL2⟩
  have L2 : Hid (Below w.heap.size w w2) := bT L1.out hL2.bel
  obtain ⟨a2, c2, rfl, -, -⟩ := hL2.edz
  have HF2 := Hid.mk' hF2
  have HL2 := Hid.mk' hL2
  obtain ⟨fl, hfl⟩ : ∃ fl, fl = F2.length := ⟨_, rfl⟩
  have HFL := Hid.mk' hfl
  have hfq : fl = if q = true then 0 else 1 := by rw [hfl]; exact HDL.out _ hF2
  rw [← hfl]
  rw [← hfl] at HL2
  have v1 := conv_tx (TA.out.keep L2.out)
  have v2 := conv_tx (TB.out.keep L2.out)
  clear hF2 hL2 hfl CB
  dsimp only
  have HFQ := Hid.mk' hfq
  have hf1 : fl ≤ 1 := by rw [hfq]; split <;> omega
  have C18 : Hid (∀ W, Below w2.heap.size w2 W → Calls Try.prog 18 #[.slice a2 fl c2] W fun e w' => LstP D W e w') := fun W hW => by
    have := trim_any a2 fl c2 F2 W (HL2.out.ez.keep hW) HFL.out.symm (by omega)
    rwa [HF2.out, HTT.out] at this
  have hgt : ¬ (1 : Int) < (fl : Int) := by omega
  have hfz : ((fl : Int) == 0) = q := by
    rw [hfq]
    cases q <;> rfl
  have hfz2 : decide ((fl : Int) = 0) = q := by
    rw [hfq]
    cases q <;> rfl
  clear hfq
  cases q with
  | true =>
    have hf0 : fl = 0 := by simpa using HFQ.out
    subst hf0
    clear hgt hfz hfz2
    go_wp2_with fail
    refine (C18.out w2 (Below.refl _ _)).mono ?_
    rintro e w3 ⟨v3, F3, rfl, hF3, hL3⟩
    have L3 : Hid (Below w.heap.size w w3) := bT L2.out hL3.bel
    obtain ⟨a3, c3, rfl, -, -⟩ := hL3.edz
    have HF3 := Hid.mk' hF3
    have HL3 := Hid.mk' hL3
    clear hF3 hL3 v1 v2
    dsimp only
    have HLb : Hid (Lst w1 w3 (.slice a2 0 c2) F2) := HL2.out.keep HL3.out.bel
    go_wp2_with fail
    refine (same_yes a3 F3.length c3 F3 a2 0 c2 F2 w3 HL3.out.ez HLb.out.ez rfl HFL.out.symm (HF3.out.trans HF2.out.symm) (by rw [HDL.out _ HF3.out]; split <;> omega)).mono ?_
    rintro e w4 ⟨rfl, hb⟩
    have L4 : Hid (Below w.heap.size w w4) := bT L3.out hb
    have HLc : Hid (Lst w1 w4 (.slice a2 0 c2) F2) := HLb.out.keep hb
    clear hb HLb
    dsimp only
    go_wp2_with fail
    refine (apply_some p1 n1 k1 A a2 0 c2 F2 w4 (TA.out.keep L4.out) b1 HLc.out.ez HFL.out.symm (by omega) (by unfold Hid; rw [HF2.out]; exact HA2.out) (U := B) (by rw [HF2.out]; exact HA1.out)).mono ?_
    rintro e w5 ⟨v5, rfl, hO5, hb⟩
    have L5 : Hid (Below w.heap.size w w5) := bT L4.out hb
    have HLe : Hid (Lst w1 w5 (.slice a2 0 c2) F2) := HLc.out.keep hb
    rw [HBl.out] at hO5
    obtain ⟨a5, c5, rfl, hX5⟩ := own_tx hO5 (by omega)
    have X5 := Hid.mk' hX5
    clear hb hO5 hX5 HLc
    dsimp only
    go_wp2_with fail
    refine (invert_any a2 0 c2 F2 w5 HLe.out.ez HFL.out.symm (by omega)).mono ?_
    rintro e w6 ⟨v6, F6, rfl, hF6, hL6⟩
    have L6 : Hid (Below w.heap.size w w6) := bT L5.out hL6.bel
    obtain ⟨a6, c6, rfl, -, -⟩ := hL6.edz
    have HF6 := Hid.mk' hF6
    have HL6 := Hid.mk' hL6
    have Xb5 := Hid.mk' (X5.out.keep hL6.bel)
    clear hF6 hL6
    dsimp only
    go_wp2_with fail
    refine (apply_some p2 n2 k2 B a6 F6.length c6 F6 w6 (TB.out.keep L6.out) b2 HL6.out.ez rfl (by have := congrArg List.length HF6.out; rw [List.length_map, inv_length, HF2.out, HNL.out] at this; rw [this]; split <;> omega) (by unfold Hid; rw [HF6.out, HF2.out]; exact HA4.out) (U := A) (by rw [HF6.out, HF2.out]; exact HA3.out)).mono ?_
    rintro e w7 ⟨v7, rfl, hO7, hb⟩
    have L7 : Hid (Below w.heap.size w w7) := bT L6.out hb
    rw [HAl.out] at hO7
    obtain ⟨a7, c7, rfl, hX7⟩ := own_tx hO7 (by omega)
    have X7 := Hid.mk' hX7
    have v1 := conv_tx (TA.out.keep L7.out)
    have v2 := conv_tx (TB.out.keep L7.out)
    have v3 := conv_tx (Xb5.out.keep hb)
    have v4 := conv_tx X7.out
    clear hb hO7 hX7
    dsimp only
    go_wp2
    go_ret
    exact ⟨rfl, L7.out⟩
  | false =>
    have hf0 : fl = 1 := by simpa using HFQ.out
    subst hf0
    clear hgt hfz hfz2
    go_wp2_with fail
    refine (C18.out w2 (Below.refl _ _)).mono ?_
    rintro e w3 ⟨v3, F3, rfl, hF3, hL3⟩
    have L3 : Hid (Below w.heap.size w w3) := bT L2.out hL3.bel
    obtain ⟨a3, c3, rfl, -, -⟩ := hL3.edz
    have HF3 := Hid.mk' hF3
    have HL3 := Hid.mk' hL3
    clear hF3 hL3 v1 v2
    dsimp only
    have HLb : Hid (Lst w1 w3 (.slice a2 1 c2) F2) := HL2.out.keep HL3.out.bel
    go_wp2_with fail
    refine (same_yes a3 F3.length c3 F3 a2 1 c2 F2 w3 HL3.out.ez HLb.out.ez rfl HFL.out.symm (HF3.out.trans HF2.out.symm) (by rw [HDL.out _ HF3.out]; split <;> omega)).mono ?_
    rintro e w4 ⟨rfl, hb⟩
    have L4 : Hid (Below w.heap.size w w4) := bT L3.out hb
    have HLc : Hid (Lst w1 w4 (.slice a2 1 c2) F2) := HLb.out.keep hb
    clear hb HLb
    dsimp only
    go_wp2_with fail
    refine (apply_some p1 n1 k1 A a2 1 c2 F2 w4 (TA.out.keep L4.out) b1 HLc.out.ez HFL.out.symm (by omega) (by unfold Hid; rw [HF2.out]; exact HA2.out) (U := B) (by rw [HF2.out]; exact HA1.out)).mono ?_
    rintro e w5 ⟨v5, rfl, hO5, hb⟩
    have L5 : Hid (Below w.heap.size w w5) := bT L4.out hb
    have HLe : Hid (Lst w1 w5 (.slice a2 1 c2) F2) := HLc.out.keep hb
    rw [HBl.out] at hO5
    obtain ⟨a5, c5, rfl, hX5⟩ := own_tx hO5 (by omega)
    have X5 := Hid.mk' hX5
    clear hb hO5 hX5 HLc
    dsimp only
    go_wp2_with fail
    refine (invert_any a2 1 c2 F2 w5 HLe.out.ez HFL.out.symm (by omega)).mono ?_
    rintro e w6 ⟨v6, F6, rfl, hF6, hL6⟩
    have L6 : Hid (Below w.heap.size w w6) := bT L5.out hL6.bel
    obtain ⟨a6, c6, rfl, -, -⟩ := hL6.edz
    have HF6 := Hid.mk' hF6
    have HL6 := Hid.mk' hL6
    have Xb5 := Hid.mk' (X5.out.keep hL6.bel)
    clear hF6 hL6
    dsimp only
    go_wp2_with fail
    refine (apply_some p2 n2 k2 B a6 F6.length c6 F6 w6 (TB.out.keep L6.out) b2 HL6.out.ez rfl (by have := congrArg List.length HF6.out; rw [List.length_map, inv_length, HF2.out, HNL.out] at this; rw [this]; split <;> omega) (by unfold Hid; rw [HF6.out, HF2.out]; exact HA4.out) (U := A) (by rw [HF6.out, HF2.out]; exact HA3.out)).mono ?_
    rintro e w7 ⟨v7, rfl, hO7, hb⟩
    have L7 : Hid (Below w.heap.size w w7) := bT L6.out hb
    rw [HAl.out] at hO7
    obtain ⟨a7, c7, rfl, hX7⟩ := own_tx hO7 (by omega)
    have X7 := Hid.mk' hX7
    have v1 := conv_tx (TA.out.keep L7.out)
    have v2 := conv_tx (TB.out.keep L7.out)
    have v3 := conv_tx (Xb5.out.keep hb)
    have v4 := conv_tx X7.out
    clear hb hO7 hX7
    dsimp only
    go_wp2
    go_ret
    exact ⟨rfl, L7.out⟩
end Go.Proofs.Ythklmdnamkjgmaa
