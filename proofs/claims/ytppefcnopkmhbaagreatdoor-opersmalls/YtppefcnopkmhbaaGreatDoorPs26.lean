/- Rtn9 -/
import Derived.Test.YtppefcnopkmhbaaGreatDoorPs25
namespace Go.Proofs.YtppefcnopkmhbaaGreatDoor
open Go.RowKit

set_option maxRecDepth 8000
set_option maxHeartbeats 8000000 in
set_option linter.unusedSimpArgs false in
theorem rturn_args (ao : Option Addr) (n c : Nat) (l : List UInt8) (at' q : Int) (w : World) (HT : Hid (Tx w ao n c l)) (h : ¬ ((0 ≤ at' ∧ at' ≤ (n : Int)) ∧ cntB q = true)) :
    Calls Tryz.prog 18 #[.slice ao n c, .int .i64 at', .int .i64 q] w fun e w' => RfQ ef0 2 w e w' := by
  have hfit : (decide (0 ≤ at' ∧ at' ≤ (n : Int)) && cntB q) = false := by
    cases e : cntB q with
    | false => rw [Bool.and_false]
    | true => rw [Bool.and_true]; exact decide_eq_false (fun h1 => h ⟨h1, e⟩)
  obtain ⟨W1, hW1⟩ : ∃ x, w.alloc (.cells #[.slice none 0 0, .int .i64 0, .bool false, .bool false, .slice none 0 0, .int .i64 0, .bool false] 35) = x := ⟨_, rfl⟩
  obtain ⟨B, hB⟩ : ∃ b, w.heap.size = b := ⟨_, rfl⟩
  have HB := Hid.mk' hB
  have J1 : Hid (Blk W1 B 35 (ef7 (.slice none 0 0) 0 false false (.slice none 0 0) 0 false)) := by unfold Hid; rw [← hW1, ← hB]; exact Blk.new w 35 _
  have L1 : Hid (Below w.heap.size w W1) := by unfold Hid; rw [← hW1]; exact bAlloc (Below.refl _ _) _
  have HT1 := Hid.mk' (HT.out.keep L1.out)
  have HLN := Hid.mk' HT.out.len
  go_enter Tryz.func18, Tryz.ntmps18
  go_upto_region 1 with fail
  clear hW1 hB HT
  go_upto_region 2 with (first | (go_at_call 40; have CP := rfit_any ao n c at' q W1; rw [hfit] at CP; refine CP.mono ?_; rintro e w' ⟨rfl, hw⟩; have hq := hw.symm; subst hq; clear hw CP) | fail)
  obtain ⟨j0, j1, j2, j3, j4, j5, j6⟩ := ef_cells J1.out
  obtain ⟨f0, f1, f2, f3, f4, f5, f6⟩ := ef_frozen J1.out
  have hbk := ef_store J1.out (.slice none 0 0) (.int .i64 0) (.bool false) (.bool false) (.slice none 0 0) (.int .i64 0) (.bool false)
  have hgr := ef_grown W1 B (.slice none 0 0) (.int .i64 0) (.bool false) (.bool false) (.slice none 0 0) (.int .i64 0) (.bool false)
  go_wp2_with fail
  generalize (((((((W1.setCell ⟨B, 0, none⟩ (.slice none 0 0)).setCell ⟨B, 1, none⟩ (.int .i64 0)).setCell ⟨B, 2, none⟩ (.bool false)).setCell ⟨B, 3, none⟩ (.bool false)).setCell ⟨B, 4, none⟩ (.slice none 0 0)).setCell ⟨B, 5, none⟩ (.int .i64 0)).setCell ⟨B, 6, none⟩ (.bool false)) = w9 at *
  obtain ⟨g0, g1, g2, g3, g4, g5, g6⟩ := ef_cells hbk
  refine bodyPost_ret (v := .tuple #[efz, .int .i64 2]) (by simp [results, efz, Tryz.results18, go_sem, g0, g1, g2, g3, g4, g5, g6]) rfl (RfQ.no ?_)
  exact (L1.out).grown hgr (L1.out).size (fun g hg => by injection hg with hg; rw [← hg, HB.out]; exact Nat.le_refl B)
set_option maxHeartbeats 8000000 in
set_option linter.unusedSimpArgs false in
theorem rturn_none (ao : Option Addr) (n c k q : Nat) (l : List UInt8) (w : World) (HT : Hid (Tx w ao n c l)) (hk : k ≤ n) (hbig : n ≤ 1048576) (hq1 : 1 ≤ q) (hq : q ≤ 9999) (h0 : ow l k = 0) :
    Calls Tryz.prog 18 #[.slice ao n c, .int .i64 (k : Int), .int .i64 (q : Int)] w fun e w' => RfQ ef0 190 w e w' := by
  obtain ⟨W1, hW1⟩ : ∃ x, w.alloc (.cells #[.slice none 0 0, .int .i64 0, .bool false, .bool false, .slice none 0 0, .int .i64 0, .bool false] 35) = x := ⟨_, rfl⟩
  obtain ⟨B, hB⟩ : ∃ b, w.heap.size = b := ⟨_, rfl⟩
  have HB := Hid.mk' hB
  have J1 : Hid (Blk W1 B 35 (ef7 (.slice none 0 0) 0 false false (.slice none 0 0) 0 false)) := by unfold Hid; rw [← hW1, ← hB]; exact Blk.new w 35 _
  have L1 : Hid (Below w.heap.size w W1) := by unfold Hid; rw [← hW1]; exact bAlloc (Below.refl _ _) _
  have HT1 := Hid.mk' (HT.out.keep L1.out)
  have HLN := Hid.mk' HT.out.len
  have hfit : (decide (0 ≤ (k : Int) ∧ (k : Int) ≤ (n : Int)) && cntB (q : Int)) = true := by
    unfold cntB; rw [decide_eq_true (by omega), decide_eq_true (by omega), decide_eq_true (by omega)]; rfl
  have hnk := nl_take_le l k
  have hnl := nl_le l
  rw [HLN.out] at hnl
  have CO := Hid.mk' (rof_at (ao := ao) (c := c) hk HT1.out)
  have he9 := en_bgk (l := l) (k := k) (by rw [HLN.out]; exact hk)
  have CE : Hid (∀ W, Below W1.heap.size W1 W → Calls Tryz.prog 44 #[.slice ao n c, .int .i64 (nl (l.take k) : Int)] W fun e w' => e = .returned (.tuple #[.int .i64 ((k + ow l k : Nat) : Int), .int .i64 0]) ∧ w' = W) := fun W hW => by
    have h := refEnd_any ao n c (nl (l.take k) : Int) l W (by omega) (HT1.out.keep hW)
    rw [pr_end hnk, he9] at h
    exact h
  clear he9
  generalize nl (l.take k) = i0 at *
  have hol := ow_le (l := l) (i := k) (by rw [HLN.out]; exact hk)
  rw [HLN.out] at hol
  obtain ⟨m, hm⟩ : ∃ m, ow l k = m := ⟨_, rfl⟩
  rw [hm] at CE hol
  rw [Int.natCast_add] at CE
  rw [hm] at h0
  subst h0
  have hw0 : IntKind.i64.wrap ((k : Int) + ((0 : Nat) : Int) - (k : Int)) = 0 := by rw [IntKind.wrap_i64]; omega
  have hmin : min (q : Int) 0 = 0 := by omega
  have hmin2 : (if (q : Int) < 0 then (q : Int) else 0) = 0 := by split <;> omega
  clear hm
  go_enter Tryz.func18, Tryz.ntmps18
  go_upto_region 1 with fail
  clear hW1 hB HT
  go_upto_region 3 with (first | (go_at_call 40; have CP := rfit_any ao n c (k : Int) (q : Int) W1; rw [hfit] at CP; refine CP.mono ?_; rintro e w' ⟨rfl, hw⟩; have hq := hw.symm; subst hq; clear hw CP) | fail)
  clear hfit
  go_wp2_with fail
  refine CO.out.mono ?_
  rintro e w2 ⟨rfl, hw9⟩
  have hb2 : Below W1.heap.size W1 w2 := by rw [hw9]; exact Below.refl _ _
  clear hw9
  have B2 := Hid.mk' hb2
  have J2 := Hid.mk' (J1.out.keep hb2)
  clear hb2 CO
  go_upto_region 4 with fail
  go_wp2_with fail
  refine (CE.out w2 B2.out).mono ?_
  rintro e w' ⟨rfl, hw⟩
  have hq9 := hw.symm
  subst hq9
  clear hw CE
  go_upto_region 7 with fail
  obtain ⟨j0, j1, j2, j3, j4, j5, j6⟩ := ef_cells J2.out
  obtain ⟨f0, f1, f2, f3, f4, f5, f6⟩ := ef_frozen J2.out
  have hbk := ef_store J2.out (.slice none 0 0) (.int .i64 0) (.bool false) (.bool false) (.slice none 0 0) (.int .i64 0) (.bool false)
  have hgr := ef_grown w2 B (.slice none 0 0) (.int .i64 0) (.bool false) (.bool false) (.slice none 0 0) (.int .i64 0) (.bool false)
  go_wp2_with fail
  generalize (((((((w2.setCell ⟨B, 0, none⟩ (.slice none 0 0)).setCell ⟨B, 1, none⟩ (.int .i64 0)).setCell ⟨B, 2, none⟩ (.bool false)).setCell ⟨B, 3, none⟩ (.bool false)).setCell ⟨B, 4, none⟩ (.slice none 0 0)).setCell ⟨B, 5, none⟩ (.int .i64 0)).setCell ⟨B, 6, none⟩ (.bool false)) = w9 at *
  obtain ⟨g0, g1, g2, g3, g4, g5, g6⟩ := ef_cells hbk
  refine bodyPost_ret (v := .tuple #[efz, .int .i64 190]) (by simp [results, efz, Tryz.results18, go_sem, g0, g1, g2, g3, g4, g5, g6]) rfl (RfQ.no ?_)
  exact (bT L1.out B2.out).grown hgr (bT L1.out B2.out).size (fun g hg => by injection hg with hg; rw [← hg, HB.out]; exact Nat.le_refl B)
set_option maxHeartbeats 8000000 in
set_option linter.unusedSimpArgs false in
theorem rturn_some (ao : Option Addr) (n c k q : Nat) (l : List UInt8) (w : World) (HT : Hid (Tx w ao n c l)) (hk : k ≤ n) (hbig : n ≤ 1048576) (hq1 : 1 ≤ q) (hq : q ≤ 9999) (m s t : Nat) (hm' : ow l k = m) (h0 : ¬ m = 0) (hs : min q m = s) (ht : k + s = t) :
    Calls Tryz.prog 18 #[.slice ao n c, .int .i64 (k : Int), .int .i64 (q : Int)] w fun e w' => RfQ ⟨sw l k t ((sl l k t).map (tw tgB)), (t : Int), false, false, [], 0, false⟩ 0 w e w' := by
  obtain ⟨W1, hW1⟩ : ∃ x, w.alloc (.cells #[.slice none 0 0, .int .i64 0, .bool false, .bool false, .slice none 0 0, .int .i64 0, .bool false] 35) = x := ⟨_, rfl⟩
  obtain ⟨B, hB⟩ : ∃ b, w.heap.size = b := ⟨_, rfl⟩
  have HB := Hid.mk' hB
  have J1 : Hid (Blk W1 B 35 (ef7 (.slice none 0 0) 0 false false (.slice none 0 0) 0 false)) := by unfold Hid; rw [← hW1, ← hB]; exact Blk.new w 35 _
  have L1 : Hid (Below w.heap.size w W1) := by unfold Hid; rw [← hW1]; exact bAlloc (Below.refl _ _) _
  have HT1 := Hid.mk' (HT.out.keep L1.out)
  have HLN := Hid.mk' HT.out.len
  have hfit : (decide (0 ≤ (k : Int) ∧ (k : Int) ≤ (n : Int)) && cntB (q : Int)) = true := by
    unfold cntB; rw [decide_eq_true (by omega), decide_eq_true (by omega), decide_eq_true (by omega)]; rfl
  have hnk := nl_take_le l k
  have hnl := nl_le l
  rw [HLN.out] at hnl
  have CO := Hid.mk' (rof_at (ao := ao) (c := c) hk HT1.out)
  have he9 := en_bgk (l := l) (k := k) (by rw [HLN.out]; exact hk)
  have CE : Hid (∀ W, Below W1.heap.size W1 W → Calls Tryz.prog 44 #[.slice ao n c, .int .i64 (nl (l.take k) : Int)] W fun e w' => e = .returned (.tuple #[.int .i64 ((k + ow l k : Nat) : Int), .int .i64 0]) ∧ w' = W) := fun W hW => by
    have h := refEnd_any ao n c (nl (l.take k) : Int) l W (by omega) (HT1.out.keep hW)
    rw [pr_end hnk, he9] at h
    exact h
  clear he9
  generalize nl (l.take k) = i0 at *
  have hol := ow_le (l := l) (i := k) (by rw [HLN.out]; exact hk)
  rw [HLN.out] at hol
  have hm := hm'
  rw [hm] at CE hol
  rw [Int.natCast_add] at CE
  have hw0 : IntKind.i64.wrap ((k : Int) + (m : Int) - (k : Int)) = (m : Int) := by rw [IntKind.wrap_i64]; omega
  have hw00 : IntKind.i64.wrap (m : Int) = (m : Int) := by rw [IntKind.wrap_i64]; omega
  have hw000 : (k : Int) + (m : Int) - (k : Int) = (m : Int) := by omega
  have hmin : min (q : Int) (m : Int) = (s : Int) := by omega
  have hs0 : ((s : Int) == 0) = false := beq_eq_false_iff_ne.2 (by omega)
  have hkt : k ≤ t := by omega
  have htn : t ≤ n := by omega
  have hw1 : IntKind.i64.wrap ((k : Int) + (s : Int)) = (t : Int) := by rw [IntKind.wrap_i64]; omega
  have hz1 : (k : Int) ≤ (t : Int) := by omega
  have hz2 : (t : Int) ≤ (n : Int) := by omega
  have hz0 : (0 : Int) ≤ (k : Int) := by omega
  have hz3 : (t : Int) ≤ (c : Int) := by have := HT1.out.cap; omega
  obtain ⟨a3, c3, hs3, hT3⟩ := sl_both HT1.out hkt htn
  have HXL : Hid (((sl l k t).map (tw tgB)).length ≤ 1048576) := by unfold Hid; rw [List.length_map, sl_len (by have := HLN.out; omega)]; omega
  have CT : Hid (∀ W, Below W1.heap.size W1 W → Calls Tryz.prog 34 #[.slice a3 (t - k) c3, .string ⟨#[103, 126]⟩] W fun e w' => NewP (t - k) ((sl l k t).map (tw tgB)) W e w') := fun W hW => rtu_tog a3 (t - k) c3 (sl l k t) W (hT3 W (HT1.out.keep hW)) (by omega)
  generalize (sl l k t).map (tw tgB) = X at *
  obtain ⟨tk, htk⟩ : ∃ j, t - k = j := ⟨_, rfl⟩
  rw [htk] at CT hs3
  have htb : tk ≤ 1048576 := by omega
  clear hT3 hs ht hm hm' h0 htk
  go_enter Tryz.func18, Tryz.ntmps18
  go_upto_region 1 with fail
  clear hW1 hB HT
  go_upto_region 3 with (first | (go_at_call 40; have CP := rfit_any ao n c (k : Int) (q : Int) W1; rw [hfit] at CP; refine CP.mono ?_; rintro e w' ⟨rfl, hw⟩; have hq := hw.symm; subst hq; clear hw CP) | fail)
  clear hfit
  go_wp2_with fail
  refine CO.out.mono ?_
  rintro e w2 ⟨rfl, hw9⟩
  have hb2 : Below W1.heap.size W1 w2 := by rw [hw9]; exact Below.refl _ _
  clear hw9
  have B2 := Hid.mk' hb2
  have J2 := Hid.mk' (J1.out.keep hb2)
  clear hb2 CO
  go_upto_region 4 with fail
  go_wp2_with fail
  refine (CE.out w2 B2.out).mono ?_
  rintro e w' ⟨rfl, hw⟩
  have hq9 := hw.symm
  subst hq9
  clear hw CE
  go_upto_region 8 with fail
  clear hw0 hw00 hw000 hs0 hmin
  go_wp2_with fail
  refine (CT.out w2 B2.out).mono ?_
  rintro e w3 ⟨v3, rfl, ho3, hb3⟩
  obtain ⟨p3, d3, rfl⟩ := own_shape ho3
  have J3 := Hid.mk' (J2.out.keep hb3)
  have B3 := Hid.mk' (bT B2.out hb3)
  have CS := Hid.mk' (redit_any ao n c k t l p3 tk d3 X w3 (HT1.out.keep B3.out) hkt htn (by omega) (own_tx' ho3 (by omega)) (by omega))
  clear ho3 hb3 CT
  go_wp2_with fail
  refine CS.out.mono ?_
  rintro e w5 ⟨eo, ec, F, rfl, hF, hE, hb5⟩
  obtain ⟨fn, hfn⟩ : ∃ fn, F.length = fn := ⟨_, rfl⟩
  rw [hfn]
  have HFN := Hid.mk' hfn
  have HF := Hid.mk' hF
  have E5 := Hid.mk' hE
  clear hF hE hfn
  have J5 := Hid.mk' (J3.out.keep hb5)
  have B5 := Hid.mk' (bT (bT L1.out B3.out) hb5)
  clear hb5 CS
  obtain ⟨j0, j1, j2, j3, j4, j5, j6⟩ := ef_cells J5.out
  obtain ⟨f0, f1, f2, f3, f4, f5, f6⟩ := ef_frozen J5.out
  have hbk := ef_store J5.out (.slice eo fn ec) (.int .i64 (t : Int)) (.bool false) (.bool false) (.slice none 0 0) (.int .i64 0) (.bool false)
  have hgr := ef_grown w5 B (.slice eo fn ec) (.int .i64 (t : Int)) (.bool false) (.bool false) (.slice none 0 0) (.int .i64 0) (.bool false)
  go_wp2_with fail
  generalize (((((((w5.setCell ⟨B, 0, none⟩ (.slice eo fn ec)).setCell ⟨B, 1, none⟩ (.int .i64 (t : Int))).setCell ⟨B, 2, none⟩ (.bool false)).setCell ⟨B, 3, none⟩ (.bool false)).setCell ⟨B, 4, none⟩ (.slice none 0 0)).setCell ⟨B, 5, none⟩ (.int .i64 0)).setCell ⟨B, 6, none⟩ (.bool false)) = w9 at *
  obtain ⟨g0, g1, g2, g3, g4, g5, g6⟩ := ef_cells hbk
  refine bodyPost_ret (v := .tuple #[.agg #[.slice eo fn ec, .int .i64 (t : Int), .bool false, .bool false, .slice none 0 0, .int .i64 0, .bool false], .int .i64 0]) (by simp [results, Tryz.results18, go_sem, g0, g1, g2, g3, g4, g5, g6]) rfl ?_
  obtain rfl := HFN.out
  exact RfQ.out (x := ⟨sw l k t X, (t : Int), false, false, [], 0, false⟩) HF.out E5.out rfl J5.out B5.out hgr (by have := HB.out; omega)
set_option maxHeartbeats 8000000 in
set_option linter.unusedSimpArgs false in
theorem rturn_any (ao : Option Addr) (n c : Nat) (l : List UInt8) (at' q : Int) (w : World) (HT : Hid (Tx w ao n c l)) (hbig : n ≤ 1048576) :
    Calls Tryz.prog 18 #[.slice ao n c, .int .i64 at', .int .i64 q] w fun e w' => RfQ (tuX l at' q).1 (tuX l at' q).2 w e w' := by
  have hln := HT.out.len
  unfold tuX
  rw [hln]
  by_cases h : (0 ≤ at' ∧ at' ≤ (n : Int)) ∧ cntB q = true
  · rw [if_neg (by simp [h])]
    have hq2 : 1 ≤ q ∧ q ≤ 9999 := by have := h.2; unfold cntB at this; simp at this; exact this
    obtain ⟨k, rfl⟩ := Int.eq_ofNat_of_zero_le h.1.1
    obtain ⟨q, rfl⟩ := Int.eq_ofNat_of_zero_le (show 0 ≤ q by omega)
    rw [show ((k : Int)).toNat = k from rfl, show ((q : Int)).toNat = q from rfl]
    unfold tuM
    by_cases h0 : ow l k = 0
    · rw [if_pos h0]
      exact rturn_none ao n c k q l w HT (by omega) hbig (by omega) (by omega) h0
    · rw [if_neg h0]
      exact rturn_some ao n c k q l w HT (by omega) hbig (by omega) (by omega) _ _ _ rfl h0 rfl rfl
  · rw [if_pos h]
    exact rturn_args ao n c l at' q w HT h
end Go.Proofs.YtppefcnopkmhbaaGreatDoor
