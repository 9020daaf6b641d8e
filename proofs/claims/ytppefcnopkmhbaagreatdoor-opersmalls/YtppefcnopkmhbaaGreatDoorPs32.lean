/- Rjo -/
import Derived.Test.YtppefcnopkmhbaaGreatDoorPs31
import Derived.Deep.CutBlock
namespace Go.Proofs.YtppefcnopkmhbaaGreatDoor
open Go.RowKit

set_option maxRecDepth 8000
set_option maxHeartbeats 8000000 in
set_option linter.unusedSimpArgs false in
theorem rjo_args0 (ao : Option Addr) (n c : Nat) (l : List UInt8) (at' q : Int) (w : World) (HT : Hid (Tx w ao n c l)) (h : at' < 0) :
    Calls Tryz.prog 19 #[.slice ao n c, .int .i64 at', .int .i64 q] w fun e w' => RfQ ef0 2 w e w' := by
  obtain ⟨W1, hW1⟩ : ∃ x, w.alloc (.cells #[.slice none 0 0, .int .i64 0, .bool false, .bool false, .slice none 0 0, .int .i64 0, .bool false] 35) = x := ⟨_, rfl⟩
  obtain ⟨B, hB⟩ : ∃ b, w.heap.size = b := ⟨_, rfl⟩
  have HB := Hid.mk' hB
  have J1 : Hid (Blk W1 B 35 (ef7 (.slice none 0 0) 0 false false (.slice none 0 0) 0 false)) := by unfold Hid; rw [← hW1, ← hB]; exact Blk.new w 35 _
  have L1 : Hid (Below w.heap.size w W1) := by unfold Hid; rw [← hW1]; exact bAlloc (Below.refl _ _) _
  have HT1 := Hid.mk' (HT.out.keep L1.out)
  have HLN := Hid.mk' HT.out.len
  go_enter Tryz.func19, Tryz.ntmps19
  go_upto_region 1 with fail
  clear hW1 hB HT
  go_upto_region 2 with fail
  obtain ⟨j0, j1, j2, j3, j4, j5, j6⟩ := ef_cells J1.out
  obtain ⟨f0, f1, f2, f3, f4, f5, f6⟩ := ef_frozen J1.out
  have hbk := ef_store J1.out (.slice none 0 0) (.int .i64 0) (.bool false) (.bool false) (.slice none 0 0) (.int .i64 0) (.bool false)
  have hgr := ef_grown W1 B (.slice none 0 0) (.int .i64 0) (.bool false) (.bool false) (.slice none 0 0) (.int .i64 0) (.bool false)
  go_wp2_with fail
  generalize (((((((W1.setCell ⟨B, 0, none⟩ (.slice none 0 0)).setCell ⟨B, 1, none⟩ (.int .i64 0)).setCell ⟨B, 2, none⟩ (.bool false)).setCell ⟨B, 3, none⟩ (.bool false)).setCell ⟨B, 4, none⟩ (.slice none 0 0)).setCell ⟨B, 5, none⟩ (.int .i64 0)).setCell ⟨B, 6, none⟩ (.bool false)) = w9 at *
  obtain ⟨g0, g1, g2, g3, g4, g5, g6⟩ := ef_cells hbk
  refine bodyPost_ret (v := .tuple #[efz, .int .i64 2]) (by simp [results, efz, Tryz.results19, go_sem, g0, g1, g2, g3, g4, g5, g6]) rfl (RfQ.no ?_)
  exact (L1.out).grown hgr (L1.out).size (fun g hg => by injection hg with hg; rw [← hg, HB.out]; exact Nat.le_refl B)
set_option maxHeartbeats 8000000 in
set_option linter.unusedSimpArgs false in
theorem rjo_args1 (ao : Option Addr) (n c : Nat) (l : List UInt8) (at' q : Int) (w : World) (HT : Hid (Tx w ao n c l)) (h0 : 0 ≤ at') (h : (n : Int) < at') :
    Calls Tryz.prog 19 #[.slice ao n c, .int .i64 at', .int .i64 q] w fun e w' => RfQ ef0 2 w e w' := by
  obtain ⟨W1, hW1⟩ : ∃ x, w.alloc (.cells #[.slice none 0 0, .int .i64 0, .bool false, .bool false, .slice none 0 0, .int .i64 0, .bool false] 35) = x := ⟨_, rfl⟩
  obtain ⟨B, hB⟩ : ∃ b, w.heap.size = b := ⟨_, rfl⟩
  have HB := Hid.mk' hB
  have J1 : Hid (Blk W1 B 35 (ef7 (.slice none 0 0) 0 false false (.slice none 0 0) 0 false)) := by unfold Hid; rw [← hW1, ← hB]; exact Blk.new w 35 _
  have L1 : Hid (Below w.heap.size w W1) := by unfold Hid; rw [← hW1]; exact bAlloc (Below.refl _ _) _
  have HT1 := Hid.mk' (HT.out.keep L1.out)
  have HLN := Hid.mk' HT.out.len
  have h1 : ¬ at' < 0 := by omega
  go_enter Tryz.func19, Tryz.ntmps19
  go_upto_region 1 with fail
  clear hW1 hB HT
  go_upto_region 2 with fail
  obtain ⟨j0, j1, j2, j3, j4, j5, j6⟩ := ef_cells J1.out
  obtain ⟨f0, f1, f2, f3, f4, f5, f6⟩ := ef_frozen J1.out
  have hbk := ef_store J1.out (.slice none 0 0) (.int .i64 0) (.bool false) (.bool false) (.slice none 0 0) (.int .i64 0) (.bool false)
  have hgr := ef_grown W1 B (.slice none 0 0) (.int .i64 0) (.bool false) (.bool false) (.slice none 0 0) (.int .i64 0) (.bool false)
  go_wp2_with fail
  generalize (((((((W1.setCell ⟨B, 0, none⟩ (.slice none 0 0)).setCell ⟨B, 1, none⟩ (.int .i64 0)).setCell ⟨B, 2, none⟩ (.bool false)).setCell ⟨B, 3, none⟩ (.bool false)).setCell ⟨B, 4, none⟩ (.slice none 0 0)).setCell ⟨B, 5, none⟩ (.int .i64 0)).setCell ⟨B, 6, none⟩ (.bool false)) = w9 at *
  obtain ⟨g0, g1, g2, g3, g4, g5, g6⟩ := ef_cells hbk
  refine bodyPost_ret (v := .tuple #[efz, .int .i64 2]) (by simp [results, efz, Tryz.results19, go_sem, g0, g1, g2, g3, g4, g5, g6]) rfl (RfQ.no ?_)
  exact (L1.out).grown hgr (L1.out).size (fun g hg => by injection hg with hg; rw [← hg, HB.out]; exact Nat.le_refl B)
set_option maxHeartbeats 8000000 in
set_option linter.unusedSimpArgs false in
theorem rjo_args2 (ao : Option Addr) (n c : Nat) (l : List UInt8) (at' q : Int) (w : World) (HT : Hid (Tx w ao n c l)) (h0 : 0 ≤ at') (h1 : at' ≤ (n : Int)) (h : q < 0) :
    Calls Tryz.prog 19 #[.slice ao n c, .int .i64 at', .int .i64 q] w fun e w' => RfQ ef0 2 w e w' := by
  obtain ⟨W1, hW1⟩ : ∃ x, w.alloc (.cells #[.slice none 0 0, .int .i64 0, .bool false, .bool false, .slice none 0 0, .int .i64 0, .bool false] 35) = x := ⟨_, rfl⟩
  obtain ⟨B, hB⟩ : ∃ b, w.heap.size = b := ⟨_, rfl⟩
  have HB := Hid.mk' hB
  have J1 : Hid (Blk W1 B 35 (ef7 (.slice none 0 0) 0 false false (.slice none 0 0) 0 false)) := by unfold Hid; rw [← hW1, ← hB]; exact Blk.new w 35 _
  have L1 : Hid (Below w.heap.size w W1) := by unfold Hid; rw [← hW1]; exact bAlloc (Below.refl _ _) _
  have HT1 := Hid.mk' (HT.out.keep L1.out)
  have HLN := Hid.mk' HT.out.len
  have h2 : ¬ at' < 0 := by omega
  have h3 : ¬ (n : Int) < at' := by omega
  go_enter Tryz.func19, Tryz.ntmps19
  go_upto_region 1 with fail
  clear hW1 hB HT
  go_upto_region 2 with fail
  obtain ⟨j0, j1, j2, j3, j4, j5, j6⟩ := ef_cells J1.out
  obtain ⟨f0, f1, f2, f3, f4, f5, f6⟩ := ef_frozen J1.out
  have hbk := ef_store J1.out (.slice none 0 0) (.int .i64 0) (.bool false) (.bool false) (.slice none 0 0) (.int .i64 0) (.bool false)
  have hgr := ef_grown W1 B (.slice none 0 0) (.int .i64 0) (.bool false) (.bool false) (.slice none 0 0) (.int .i64 0) (.bool false)
  go_wp2_with fail
  generalize (((((((W1.setCell ⟨B, 0, none⟩ (.slice none 0 0)).setCell ⟨B, 1, none⟩ (.int .i64 0)).setCell ⟨B, 2, none⟩ (.bool false)).setCell ⟨B, 3, none⟩ (.bool false)).setCell ⟨B, 4, none⟩ (.slice none 0 0)).setCell ⟨B, 5, none⟩ (.int .i64 0)).setCell ⟨B, 6, none⟩ (.bool false)) = w9 at *
  obtain ⟨g0, g1, g2, g3, g4, g5, g6⟩ := ef_cells hbk
  refine bodyPost_ret (v := .tuple #[efz, .int .i64 2]) (by simp [results, efz, Tryz.results19, go_sem, g0, g1, g2, g3, g4, g5, g6]) rfl (RfQ.no ?_)
  exact (L1.out).grown hgr (L1.out).size (fun g hg => by injection hg with hg; rw [← hg, HB.out]; exact Nat.le_refl B)
set_option maxHeartbeats 8000000 in
set_option linter.unusedSimpArgs false in
theorem rjo_args3 (ao : Option Addr) (n c : Nat) (l : List UInt8) (at' q : Int) (w : World) (HT : Hid (Tx w ao n c l)) (h0 : 0 ≤ at') (h1 : at' ≤ (n : Int)) (_h5 : 0 ≤ q) (h : (9999 : Int) < q) :
    Calls Tryz.prog 19 #[.slice ao n c, .int .i64 at', .int .i64 q] w fun e w' => RfQ ef0 2 w e w' := by
  obtain ⟨W1, hW1⟩ : ∃ x, w.alloc (.cells #[.slice none 0 0, .int .i64 0, .bool false, .bool false, .slice none 0 0, .int .i64 0, .bool false] 35) = x := ⟨_, rfl⟩
  obtain ⟨B, hB⟩ : ∃ b, w.heap.size = b := ⟨_, rfl⟩
  have HB := Hid.mk' hB
  have J1 : Hid (Blk W1 B 35 (ef7 (.slice none 0 0) 0 false false (.slice none 0 0) 0 false)) := by unfold Hid; rw [← hW1, ← hB]; exact Blk.new w 35 _
  have L1 : Hid (Below w.heap.size w W1) := by unfold Hid; rw [← hW1]; exact bAlloc (Below.refl _ _) _
  have HT1 := Hid.mk' (HT.out.keep L1.out)
  have HLN := Hid.mk' HT.out.len
  have h2 : ¬ at' < 0 := by omega
  have h3 : ¬ (n : Int) < at' := by omega
  have h4 : ¬ q < 0 := by omega
  go_enter Tryz.func19, Tryz.ntmps19
  go_upto_region 1 with fail
  clear hW1 hB HT
  go_upto_region 2 with fail
  obtain ⟨j0, j1, j2, j3, j4, j5, j6⟩ := ef_cells J1.out
  obtain ⟨f0, f1, f2, f3, f4, f5, f6⟩ := ef_frozen J1.out
  have hbk := ef_store J1.out (.slice none 0 0) (.int .i64 0) (.bool false) (.bool false) (.slice none 0 0) (.int .i64 0) (.bool false)
  have hgr := ef_grown W1 B (.slice none 0 0) (.int .i64 0) (.bool false) (.bool false) (.slice none 0 0) (.int .i64 0) (.bool false)
  go_wp2_with fail
  generalize (((((((W1.setCell ⟨B, 0, none⟩ (.slice none 0 0)).setCell ⟨B, 1, none⟩ (.int .i64 0)).setCell ⟨B, 2, none⟩ (.bool false)).setCell ⟨B, 3, none⟩ (.bool false)).setCell ⟨B, 4, none⟩ (.slice none 0 0)).setCell ⟨B, 5, none⟩ (.int .i64 0)).setCell ⟨B, 6, none⟩ (.bool false)) = w9 at *
  obtain ⟨g0, g1, g2, g3, g4, g5, g6⟩ := ef_cells hbk
  refine bodyPost_ret (v := .tuple #[efz, .int .i64 2]) (by simp [results, efz, Tryz.results19, go_sem, g0, g1, g2, g3, g4, g5, g6]) rfl (RfQ.no ?_)
  exact (L1.out).grown hgr (L1.out).size (fun g hg => by injection hg with hg; rw [← hg, HB.out]; exact Nat.le_refl B)
set_option maxHeartbeats 8000000 in
set_option linter.unusedSimpArgs false in
theorem rjo_few (ao : Option Addr) (n c k : Nat) (l : List UInt8) (q : Int) (w : World) (HT : Hid (Tx w ao n c l)) (hk : k ≤ n) (_hbig : n ≤ 1048576) (hq1 : 0 ≤ q) (hq : q ≤ 9999) (hlt : (nl l : Int) + 1 - (nl (l.take k) : Int) < max q 2) :
    Calls Tryz.prog 19 #[.slice ao n c, .int .i64 (k : Int), .int .i64 q] w fun e w' => RfQ ef0 190 w e w' := by
  obtain ⟨W1, hW1⟩ : ∃ x, w.alloc (.cells #[.slice none 0 0, .int .i64 0, .bool false, .bool false, .slice none 0 0, .int .i64 0, .bool false] 35) = x := ⟨_, rfl⟩
  obtain ⟨B, hB⟩ : ∃ b, w.heap.size = b := ⟨_, rfl⟩
  have HB := Hid.mk' hB
  have J1 : Hid (Blk W1 B 35 (ef7 (.slice none 0 0) 0 false false (.slice none 0 0) 0 false)) := by unfold Hid; rw [← hW1, ← hB]; exact Blk.new w 35 _
  have L1 : Hid (Below w.heap.size w W1) := by unfold Hid; rw [← hW1]; exact bAlloc (Below.refl _ _) _
  have HT1 := Hid.mk' (HT.out.keep L1.out)
  have HLN := Hid.mk' HT.out.len
  have hz1 : ¬ (k : Int) < 0 := by omega
  have hz2 : ¬ (n : Int) < (k : Int) := by omega
  have hz3 : ¬ q < 0 := by omega
  have hz4 : ¬ (9999 : Int) < q := by omega
  have hnl := nl_le l
  have hnk := nl_take_le l k
  rw [HLN.out] at hnl
  have CO := Hid.mk' (rof_at (ao := ao) (c := c) hk HT1.out)
  have CN : Hid (∀ W, Below W1.heap.size W1 W → Calls Tryz.prog 51 #[.slice ao n c] W fun e w' => e = .returned (.int .i64 ((nl l : Int) + 1)) ∧ w' = W) := fun W hW => refCount_any ao n c l W (HT1.out.keep hW)
  obtain ⟨m, hm⟩ : ∃ m : Int, max q 2 = m := ⟨_, rfl⟩
  rw [hm] at hlt
  have hmb : m ≤ 9999 := by omega
  have hmb2 : 0 ≤ m := by omega
  generalize nl (l.take k) = i0 at *
  generalize nl l = nn at *
  have hw1 : IntKind.i64.wrap ((i0 : Int) + m) = (i0 : Int) + m := by rw [IntKind.wrap_i64]; have := HT1.out.big; omega
  have hlt2 : (nn : Int) + 1 < (i0 : Int) + m := by omega
  go_enter Tryz.func19, Tryz.ntmps19
  go_upto_region 1 with fail
  clear hW1 hB HT
  go_upto_region 3 with fail
  clear hz1 hz2 hz3 hz4
  go_wp2_with fail
  refine CO.out.mono ?_
  rintro e w2 ⟨rfl, hw9⟩
  have hb2 : Below W1.heap.size W1 w2 := by rw [hw9]; exact Below.refl _ _
  clear hw9
  have B2 := Hid.mk' hb2
  have J2 := Hid.mk' (J1.out.keep hb2)
  clear hb2 CO
  go_upto_region 5 with fail
  go_wp2_with fail
  refine (CN.out w2 B2.out).mono ?_
  rintro e w' ⟨rfl, hw⟩
  have hq9 := hw.symm
  subst hq9
  clear hw CN
  go_upto_region 6 with fail
  obtain ⟨j0, j1, j2, j3, j4, j5, j6⟩ := ef_cells J2.out
  obtain ⟨f0, f1, f2, f3, f4, f5, f6⟩ := ef_frozen J2.out
  have hbk := ef_store J2.out (.slice none 0 0) (.int .i64 0) (.bool false) (.bool false) (.slice none 0 0) (.int .i64 0) (.bool false)
  have hgr := ef_grown w2 B (.slice none 0 0) (.int .i64 0) (.bool false) (.bool false) (.slice none 0 0) (.int .i64 0) (.bool false)
  go_wp2_with fail
  generalize (((((((w2.setCell ⟨B, 0, none⟩ (.slice none 0 0)).setCell ⟨B, 1, none⟩ (.int .i64 0)).setCell ⟨B, 2, none⟩ (.bool false)).setCell ⟨B, 3, none⟩ (.bool false)).setCell ⟨B, 4, none⟩ (.slice none 0 0)).setCell ⟨B, 5, none⟩ (.int .i64 0)).setCell ⟨B, 6, none⟩ (.bool false)) = w9 at *
  obtain ⟨g0, g1, g2, g3, g4, g5, g6⟩ := ef_cells hbk
  refine bodyPost_ret (v := .tuple #[efz, .int .i64 190]) (by simp [results, efz, Tryz.results19, go_sem, g0, g1, g2, g3, g4, g5, g6]) rfl (RfQ.no ?_)
  exact (bT L1.out B2.out).grown hgr (bT L1.out B2.out).size (fun g hg => by injection hg with hg; rw [← hg, HB.out]; exact Nat.le_refl B)
set_option maxHeartbeats 8000000 in
set_option linter.unusedSimpArgs false in
theorem rjo_some (ao : Option Addr) (n c k : Nat) (l : List UInt8) (q : Int) (w : World) (HT : Hid (Tx w ao n c l)) (hk : k ≤ n) (hbig : n ≤ 1048576) (hq1 : 0 ≤ q) (hq : q ≤ 9999) (i0 mm : Nat) (hi0 : nl (l.take k) = i0) (hm : max q 2 = ((mm + 1 : Nat) : Int)) (hge : i0 + mm ≤ nl l) :
    Calls Tryz.prog 19 #[.slice ao n c, .int .i64 (k : Int), .int .i64 q] w fun e w' => RfQ ⟨jnD l (sp l i0) mm (en l (sp l i0)) (sl l (sp l i0) (en l (sp l i0))), lastA (jnD l (sp l i0) mm (en l (sp l i0)) (sl l (sp l i0) (en l (sp l i0)))), false, false, [], 0, false⟩ 0 w e w' := by
  obtain ⟨W1, hW1⟩ : ∃ x, w.alloc (.cells #[.slice none 0 0, .int .i64 0, .bool false, .bool false, .slice none 0 0, .int .i64 0, .bool false] 35) = x := ⟨_, rfl⟩
  obtain ⟨B, hB⟩ : ∃ b, w.heap.size = b := ⟨_, rfl⟩
  have HB := Hid.mk' hB
  have J1 : Hid (Blk W1 B 35 (ef7 (.slice none 0 0) 0 false false (.slice none 0 0) 0 false)) := by unfold Hid; rw [← hW1, ← hB]; exact Blk.new w 35 _
  have L1 : Hid (Below w.heap.size w W1) := by unfold Hid; rw [← hW1]; exact bAlloc (Below.refl _ _) _
  have HT1 := Hid.mk' (HT.out.keep L1.out)
  have HLN := Hid.mk' HT.out.len
  have hz1 : ¬ (k : Int) < 0 := by omega
  have hz2 : ¬ (n : Int) < (k : Int) := by omega
  have hz3 : ¬ q < 0 := by omega
  have hz4 : ¬ (9999 : Int) < q := by omega
  have hnl := nl_le l
  have hnk := nl_take_le l k
  rw [HLN.out] at hnl
  have CO := Hid.mk' (rof_at (ao := ao) (c := c) hk HT1.out)
  have CN : Hid (∀ W, Below W1.heap.size W1 W → Calls Tryz.prog 51 #[.slice ao n c] W fun e w' => e = .returned (.int .i64 ((nl l : Int) + 1)) ∧ w' = W) := fun W hW => refCount_any ao n c l W (HT1.out.keep hW)
  rw [hi0] at CO hnk
  have hmm1 : 1 ≤ mm := by omega
  have hmm2 : mm ≤ 9998 := by omega
  have hm2 : max q 2 = (mm : Int) + 1 := by omega
  have HST := Hid.mk' (sp_st hnk)
  obtain ⟨s, hs⟩ : ∃ s, sp l i0 = s := ⟨_, rfl⟩
  have hsn : s ≤ n := by rw [← hs, ← HLN.out]; exact sp_le (by omega)
  obtain ⟨e0, he0⟩ : ∃ e, en l s = e := ⟨_, rfl⟩
  have hse : s ≤ e0 := by rw [← he0]; exact en_ge _ _
  have hee : e0 ≤ n := by rw [← he0, ← HLN.out]; exact en_le (by rw [HLN.out]; exact hsn)
  have HE0 : Hid (en l (sp l i0) = e0) := by unfold Hid; rw [hs, he0]
  rw [hs] at HST
  rw [hs, he0]
  have HGE := Hid.mk' hge
  have hw1 : IntKind.i64.wrap ((i0 : Int) + ((mm : Int) + 1)) = (i0 : Int) + ((mm : Int) + 1) := by rw [IntKind.wrap_i64]; omega
  have hlt : ¬ (nl l : Int) + 1 < (i0 : Int) + ((mm : Int) + 1) := by omega
  obtain ⟨J0, hJ0⟩ : ∃ J, sl l s e0 = J := ⟨_, rfl⟩
  have HJL : Hid (J0.length = e0 - s) := by unfold Hid; rw [← hJ0]; exact sl_len (by rw [HLN.out]; exact hee)
  have HJT : Hid (jT l s J0 e0 = l) := by unfold Hid jT; rw [← hJ0]; exact cut_join' hse
  have HJN : Hid (nolf J0) := by unfold Hid; rw [← hJ0]; exact nolf_sl (by rw [he0]; exact Nat.le_refl _)
  have HNL := Hid.mk' hnl
  have HHE := Hid.mk' hee
  have HSN := Hid.mk' hsn
  rw [hJ0]
  clear hge hm hi0 hs he0 hnl hJ0 hnk
  go_enter Tryz.func19, Tryz.ntmps19
  go_upto_region 1 with fail
  clear hW1 hB HT
  go_upto_region 3 with fail
  clear hz1 hz2 hz3 hz4
  go_wp2_with fail
  refine CO.out.mono ?_
  rintro e w2 ⟨rfl, hw9⟩
  have hb2 : Below W1.heap.size W1 w2 := by rw [hw9]; exact Below.refl _ _
  clear hw9
  have B2 := Hid.mk' hb2
  have J2 := Hid.mk' (J1.out.keep hb2)
  clear hb2 CO
  go_upto_region 5 with fail
  go_wp2_with fail
  refine (CN.out w2 B2.out).mono ?_
  rintro e w' ⟨rfl, hw⟩
  have hq9 := hw.symm
  subst hq9
  clear hw CN
  go_upto_region 9 with fail
  clear hm2 hlt hw1
  have CC := Hid.mk' (rcop_any ao n c l w2 (by omega) (HT1.out.keep B2.out))
  go_wp2_with fail
  refine CC.out.mono ?_
  rintro e w3 ⟨v3, rfl, ho3, hb3⟩
  have B3 := Hid.mk' (bT B2.out hb3)
  have J3 := Hid.mk' (J2.out.keep hb3)
  have O3 : Hid (w3.ownsRow W1.heap.size 5 1 v3 (jT l s J0 e0).length (bv (jT l s J0 e0))) := by unfold Hid; rw [HJT.out, HLN.out]; exact own_lower ho3 B2.out.size
  clear ho3 hb3 CC J2 B2
  go_wp2_with fail
  go_loopg [11, 12, 13, 14] mm (fun M x11 x12 x13 x14 wx => ∃ (i e : Nat) (v0 v1 : Value) (cur : Int) (F : List Er) (J : List UInt8) (DD : List Ed), x11 = v0 ∧ x12 = .int .i64 cur ∧ x13 = v1 ∧ x14 = .int .i64 ((i : Int) + 1) ∧ i + M = mm ∧ Hid (e = en l (sp l (i0 + i))) ∧ e ≤ n ∧ Hid (jnD l s mm e0 J0 = DD ++ jnD l s M e J) ∧ Hid (F.map Er.d = DD) ∧ F.length = i ∧ Hid (cur = lastA DD) ∧ J.length ≤ e + i ∧ Hid (nolf J) ∧ Hid (Eds wx W1.heap.size wx.heap.size v0 F) ∧ Hid (wx.ownsRow W1.heap.size 5 1 v1 (jT l s J e).length (bv (jT l s J e))) ∧ Hid (Blk wx B 35 (ef7 (.slice none 0 0) 0 false false (.slice none 0 0) 0 false)) ∧ Hid (Below W1.heap.size W1 wx))
  case atStart => exact ⟨0, e0, .slice none 0 0, v3, 0, [], J0, [], rfl, rfl, rfl, rfl, by omega, HE0.out.symm, HHE.out, rfl, rfl, rfl, rfl, by have := HJL.out; omega, HJN.out, Eds.nil _ _ _, O3.out, J3.out, B3.out⟩
  case round =>
    clear O3 J3 B3
    obtain ⟨i, e, v0, v1, cur, F, J, DD, rfl, rfl, rfl, rfl, him, HE, hen, HD, HFD, hFi, HC, hJl, HJ, ES, UO, KB, LB⟩ := hrel
    cases gk with
    | zero =>
      have hik : ¬ ((i : Int) + 1 < (mm : Int) + 1) := by omega
      have HD2 : Hid (jnD l s mm e0 J0 = DD) := by have := HD.out; rw [jnD_zero, List.append_nil] at this; exact this
      obtain ⟨eo, ec, rfl, hEz, -⟩ := ES.out.edz
      have EZ := Hid.mk' hEz
      obtain ⟨fn, hfn⟩ : ∃ fn, F.length = fn := ⟨_, rfl⟩
      have HFN := Hid.mk' hfn
      have HF := HFD
      have BF := Hid.mk' (bT L1.out LB.out)
      rw [hfn]
      clear hfn him hen hFi hJl HD hEz ES UO
      go_upto_region 26 with fail
      obtain ⟨j0, j1, j2, j3, j4, j5, j6⟩ := ef_cells KB.out
      obtain ⟨f0, f1, f2, f3, f4, f5, f6⟩ := ef_frozen KB.out
      have hbk := ef_store KB.out (.slice eo fn ec) (.int .i64 cur) (.bool false) (.bool false) (.slice none 0 0) (.int .i64 0) (.bool false)
      have hgr := ef_grown wr B (.slice eo fn ec) (.int .i64 cur) (.bool false) (.bool false) (.slice none 0 0) (.int .i64 0) (.bool false)
      go_wp2_with fail
      generalize (((((((wr.setCell ⟨B, 0, none⟩ (.slice eo fn ec)).setCell ⟨B, 1, none⟩ (.int .i64 cur)).setCell ⟨B, 2, none⟩ (.bool false)).setCell ⟨B, 3, none⟩ (.bool false)).setCell ⟨B, 4, none⟩ (.slice none 0 0)).setCell ⟨B, 5, none⟩ (.int .i64 0)).setCell ⟨B, 6, none⟩ (.bool false)) = w9 at *
      obtain ⟨g0, g1, g2, g3, g4, g5, g6⟩ := ef_cells hbk
      refine bodyPost_ret (v := .tuple #[.agg #[.slice eo fn ec, .int .i64 cur, .bool false, .bool false, .slice none 0 0, .int .i64 0, .bool false], .int .i64 0]) (by simp [results, Tryz.results19, go_sem, g0, g1, g2, g3, g4, g5, g6]) rfl ?_
      rw [HD2.out, ← HC.out]
      obtain rfl := HFN.out
      exact RfQ.out (x := ⟨DD, cur, false, false, [], 0, false⟩) HF.out EZ.out rfl KB.out BF.out hgr (by have := HB.out; omega)

    | succ go =>
      have hik : (i : Int) + 1 < (mm : Int) + 1 := by omega
      have hil : i0 + i + 1 ≤ nl l := by have := HGE.out; omega
      obtain ⟨hx1, hx2⟩ := sp_next hil
      rw [← HE.out] at hx1 hx2
      have hl10 : le (at8 l e) = true := by have := en_edge (t := l) (s := sp l (i0 + i)); rw [← HE.out] at this; exact this hx1
      have HL10 := Hid.mk' hl10
      have HX1 := Hid.mk' hx1
      have hoy := ow_le (l := l) (i := e + 1) (by omega)
      have HEN : Hid (en l (e + 1) = e + 1 + ow l (e + 1)) := rfl
      obtain ⟨h9a, h9b, h9c, h9d⟩ := jT_lines HST.out HJ.out hx1 hl10
      obtain ⟨y, hy⟩ : ∃ y, ow l (e + 1) = y := ⟨_, rfl⟩
      rw [hy] at hoy HEN h9d
      have HNX : Hid (e + 1 + y = en l (sp l (i0 + (i + 1)))) := by unfold Hid; rw [← HEN.out, ← hx2]; rfl
      have hTl : (jnT l e).length = y := by unfold jnT; rw [sl_len (by rw [HEN.out]; exact hoy), HEN.out]; omega
      have hdl := lb2_le (jnT l e)
      rw [hTl] at hdl
      have hlall : ∀ j, j < lb2 (jnT l e) → bl (at8 (jnT l e) j) = true := fun j hj => lb2_all hj
      have hlstop : lb2 (jnT l e) < y → bl (at8 (jnT l e) (lb2 (jnT l e))) = false := fun h => lb2_stop (by rw [hTl]; exact h)
      obtain ⟨d, hd⟩ : ∃ d, lb2 (jnT l e) = d := ⟨_, rfl⟩
      have HAP := Hid.mk' (fun G => jT_app (J := J) HST.out.low' hy hoy hd G)
      have hNE := Hid.mk' (fun R => sl_ne (d := d) (J := J) (R := R) hx1 hl10)
      have hRl : (jnR l e).length = y - d := by unfold jnR; rw [List.length_drop, hTl, hd]
      have hR0 : d < y → at8 (jnR l e) 0 = at8 l (e + 1 + d) := fun h => by unfold jnR; rw [at8_drop, Nat.add_zero, hd, jnT_at (by rw [hTl]; exact h)]
      have HD2 : Hid (∀ G, glu J (jnR l e) = G → jnD l s mm e0 J0 = (DD ++ [⟨((s + J.length : Nat) : Int), sl l e (e + 1 + d), G⟩]) ++ jnD l s go (e + 1 + y) (J ++ G ++ jnR l e)) := fun G hG => by
        have := HD.out
        rw [jnD_succ, hd, HEN.out, hG] at this
        rw [this]
        simp
      rw [hd] at hdl hlall hlstop
      have HLA : Hid (∀ j, j < d → bl (at8 (jT l s J e) (s + J.length + 1 + j)) = true) := fun j hj => by
        have := hlall j hj
        rw [jnT_at (by rw [hTl]; omega)] at this
        rw [Nat.add_assoc (s + J.length), jT_at HST.out.low', ← Nat.add_assoc]
        exact this
      have HLS : Hid (d < y → bl (at8 (jT l s J e) (s + J.length + 1 + d)) = false) := fun h => by
        have := hlstop h
        rw [jnT_at (by rw [hTl]; omega)] at this
        rw [Nat.add_assoc (s + J.length), jT_at HST.out.low', ← Nat.add_assoc]
        exact this
      have HR0 : Hid (d < y → at8 (jT l s J e) (s + J.length + 1 + d) = at8 (jnR l e) 0) := fun h => by
        rw [Nat.add_assoc (s + J.length), jT_at HST.out.low', ← Nat.add_assoc, hR0 h]
      have HJ9 : Hid (0 < J.length → at8 (jT l s J e) (s + J.length - 1) = at8 J (J.length - 1)) := fun h => jT_last HST.out.low' h
      have HNS : Hid (nolf (J ++ glu J (jnR l e) ++ jnR l e)) := nolf_step HJ.out
      have hUl := jT_len (J := J) HST.out.low' (Nat.le_of_lt hx1)
      rw [HLN.out] at hUl hx1 hoy
      clear hlall hlstop hR0 hTl hd hy HD HJ hl10 hx2 hil HE
      generalize jnR l e = R at *
      obtain ⟨U, hU⟩ : ∃ U, jT l s J e = U := ⟨_, rfl⟩
      have HU := Hid.mk' hU
      rw [hU] at h9a h9b h9c h9d HAP HLA HLS HR0 HJ9 hUl UO
      clear hU
      obtain ⟨un, hun⟩ : ∃ un, U.length = un := ⟨_, rfl⟩
      rw [hun] at hUl UO
      obtain ⟨p, hp⟩ : ∃ p, s + J.length = p := ⟨_, rfl⟩
      have HP := Hid.mk' hp
      rw [hp] at h9c h9d hUl
      obtain ⟨uo, uc, rfl, hTU⟩ := own_tx UO.out (by have := HSN.out; omega)
      have TU := Hid.mk' hTU
      have hsn := HSN.out
      have hp1 : p + 1 + y ≤ un := by omega
      have hunb : un ≤ 4194304 := by omega
      obtain ⟨g, o, rfl, hc⟩ := TU.out.at (by omega)
      have HCU := Hid.mk' hc
      have HUL := Hid.mk' hUl
      have HRL := Hid.mk' hRl
      clear hTU hun hp hc hUl hRl
      have hw1 : IntKind.i64.wrap ((i0 : Int) + 1) = ((i0 + 1 : Nat) : Int) := by rw [IntKind.wrap_i64]; have := HGE.out; have := HNL.out; omega
      have hw2 : IntKind.i64.wrap ((p : Int) + 1) = ((p + 1 : Nat) : Int) := by rw [IntKind.wrap_i64]; omega
      have hib : ((i0 + 1 : Nat) : Int) ≤ 9223372036854775807 := by have := HGE.out; have := HNL.out; omega
      have C1 : Hid (Calls Tryz.prog 45 #[.slice (some ⟨g, o, none⟩) un uc, .int .i64 (i0 : Int)] wr fun e w' => e = .returned (.tuple #[.int .i64 (s : Int), .int .i64 0]) ∧ w' = wr) := by
        have h := refStart_any (some ⟨g, o, none⟩) un uc (i0 : Int) U wr (by omega) TU
        rw [show pr (aStart U (i0 : Int)) = .returned (.tuple #[.int .i64 (sp U i0 : Int), .int .i64 0]) from by unfold pr aStart ans; rw [ln_at (by omega)]; rfl, h9b] at h
        exact h
      have C2 : Hid (Calls Tryz.prog 44 #[.slice (some ⟨g, o, none⟩) un uc, .int .i64 (i0 : Int)] wr fun e w' => e = .returned (.tuple #[.int .i64 (p : Int), .int .i64 0]) ∧ w' = wr) := by
        have h := refEnd_any (some ⟨g, o, none⟩) un uc (i0 : Int) U wr (by omega) TU
        rw [pr_end (by omega), h9c] at h
        exact h
      have C3 : Hid (Calls Tryz.prog 44 #[.slice (some ⟨g, o, none⟩) un uc, .int .i64 ((i0 + 1 : Nat) : Int)] wr fun e w' => e = .returned (.tuple #[.int .i64 ((p + 1 + y : Nat) : Int), .int .i64 0]) ∧ w' = wr) := by
        have h := refEnd_any (some ⟨g, o, none⟩) un uc ((i0 + 1 : Nat) : Int) U wr hib TU
        rw [pr_end h9a, h9d] at h
        exact h
      clear h9a h9b h9c h9d hib
      have CS := fun (W : World) (X : List UInt8) (xp : Option Addr) (xc : Nat) (hT : Tx W (some ⟨g, o, none⟩) un uc U) (hX : Tx W xp X.length xc X) (hxb : X.length ≤ 1) (hne : sl U p (p + 1 + d) ≠ X) => redit_new (some ⟨g, o, none⟩) un uc p (p + 1 + d) U xp X.length xc X W hT (by omega) (by omega) (by omega) hX (by omega) hne
      have HCS := Hid.mk' CS
      clear CS
      go_upto_region 13 with fail
      go_wp2_with fail
      refine C1.out.mono ?_
      rintro e9 w' ⟨rfl, hw⟩
      have hq9 := hw.symm
      subst hq9
      clear hw C1
      go_upto_region 14 with fail
      go_wp2_with fail
      refine C2.out.mono ?_
      rintro e9 w' ⟨rfl, hw⟩
      have hq9 := hw.symm
      subst hq9
      clear hw C2
      go_upto_region 15 with fail
      go_wp2_with fail
      refine C3.out.mono ?_
      rintro e9 w' ⟨rfl, hw⟩
      have hq9 := hw.symm
      subst hq9
      clear hw C3 hik hw1
      go_upto_block 2 with fail
      go_cut [21] from 58 to 149 (fun x21 wx => x21 = .int .i64 ((p + 1 + d : Nat) : Int) ∧ wr = wx)
      case first =>
        go_wp2_with fail
        go_loopg [21] (d + 1) (fun m x21 wx => ∃ j : Nat, j + m = d + 1 ∧ j ≤ d ∧ x21 = .int .i64 ((p + 1 + j : Nat) : Int) ∧ wr = wx)
        case atStart => exact ⟨0, by omega, by omega, rfl, rfl⟩
        case round =>
          obtain ⟨j, hjm, hjd, rfl, rfl⟩ := hrel
          by_cases hlt : j < d
          · have ha : ((p + 1 + j : Nat) : Int) < ((p + 1 + y : Nat) : Int) := by omega
            have hc0 := HCU.out (p + 1 + j) (by omega)
            have hi0 : (0 : Int) ≤ ((p + 1 + j : Nat) : Int) := by omega
            have hin : ((p + 1 + j : Nat) : Int) < (un : Int) := by omega
            have hb := HLA.out j hlt
            rw [HP.out] at hb
            unfold bl at hb
            have hw5 : IntKind.i64.wrap (((p + 1 + j : Nat) : Int) + 1) = ((p + 1 + (j + 1) : Nat) : Int) := by rw [IntKind.wrap_i64]; omega
            have hgo : ∃ gg, gk = gg + 1 := ⟨gk - 1, by omega⟩
            obtain ⟨gg, rfl⟩ := hgo
            cases h32 : (((at8 U (p + 1 + j)).toNat : Int) == 32) with
            | true =>
              clear hb
              go_wp2
              go_roundg gg
              case measure => omega
              case rel => exact ⟨j + 1, by omega, by omega, by go_num, rfl⟩
            | false =>
              have h9 : (((at8 U (p + 1 + j)).toNat : Int) == 9) = true := by rw [h32] at hb; simpa using hb
              clear hb
              go_wp2
              go_roundg gg
              case measure => omega
              case rel => exact ⟨j + 1, by omega, by omega, by go_num, rfl⟩
          · have hj : j = d := by omega
            subst hj
            by_cases hdy : j < y
            · have ha : ((p + 1 + j : Nat) : Int) < ((p + 1 + y : Nat) : Int) := by omega
              have hc0 := HCU.out (p + 1 + j) (by omega)
              have hi0 : (0 : Int) ≤ ((p + 1 + j : Nat) : Int) := by omega
              have hin : ((p + 1 + j : Nat) : Int) < (un : Int) := by omega
              have hb := HLS.out hdy
              rw [HP.out] at hb
              unfold bl at hb
              obtain ⟨h32, h9⟩ : (((at8 U (p + 1 + j)).toNat : Int) == 32) = false ∧ (((at8 U (p + 1 + j)).toNat : Int) == 9) = false := by simpa using hb
              clear hb
              go_wp2_with fail
              go_meet
              exact ⟨rfl, rfl⟩
            · have ha : ¬ ((p + 1 + j : Nat) : Int) < ((p + 1 + y : Nat) : Int) := by omega
              go_wp2_with fail
              go_meet
              exact ⟨rfl, rfl⟩
      case rest =>
      obtain ⟨rfl, rfl⟩ := hcut
      clear HLA HLS
      go_upto_region 20 with fail
      go_cut [133] from 58 to 149 (fun x133 wx => (x133 = .bool true ∧ glu J R = [32] ∨ x133 = .bool false ∧ glu J R = []) ∧ wr = wx)
      case first =>
        have hpp := HP.out
        have hrl := HRL.out
        by_cases hj : J.length = 0
        · have hG := Hid.mk' (glu_a (R := R) hj)
          have hgt : ¬ (s : Int) < (p : Int) := by omega
          clear hpp hrl
          go_wp2_with fail
          go_meet
          exact ⟨.inr ⟨rfl, hG.out⟩, rfl⟩
        · have hgt : (s : Int) < (p : Int) := by omega
          obtain ⟨r, hr⟩ : ∃ r, p - 1 = r := ⟨_, rfl⟩
          have hz := HJ9.out (by omega)
          rw [HP.out, hr] at hz
          have hw5 : IntKind.i64.wrap ((p : Int) - 1) = (r : Int) := by rw [IntKind.wrap_i64]; omega
          have hc0 := HCU.out r (by omega)
          have hi0 : (0 : Int) ≤ (r : Int) := by omega
          have hin : (r : Int) < (un : Int) := by omega
          have HZ := Hid.mk' hz
          have HJ0 := Hid.mk' hj
          clear hz hj hr hpp
          cases h32 : (((at8 U r).toNat : Int) == 32) with
          | true =>
            have hne : (((at8 U r).toNat : Int) != 32) = false := by simp only [bne, h32]; rfl
            have hG := Hid.mk' (glu_b (J := J) (R := R) (by rw [← HZ.out]; unfold bl; rw [h32]; rfl))
            clear hrl
            go_wp2_with fail
            go_meet
            exact ⟨.inr ⟨rfl, hG.out⟩, rfl⟩
          | false =>
            have hne : (((at8 U r).toNat : Int) != 32) = true := by simp only [bne, h32]; rfl
            cases h9 : (((at8 U r).toNat : Int) == 9) with
            | true =>
              have hne9 : (((at8 U r).toNat : Int) != 9) = false := by simp only [bne, h9]; rfl
              have hG := Hid.mk' (glu_b (J := J) (R := R) (by rw [← HZ.out]; unfold bl; rw [h32, h9]; rfl))
              clear hrl
              go_wp2_with fail
              go_meet
              exact ⟨.inr ⟨rfl, hG.out⟩, rfl⟩
            | false =>
              have hne9 : (((at8 U r).toNat : Int) != 9) = true := by simp only [bne, h9]; rfl
              have HB9 : Hid (bl (at8 J (J.length - 1)) = false) := by unfold Hid; rw [← HZ.out]; unfold bl; rw [h32, h9]; rfl
              by_cases hdy : d < y
              · have ha : ((p + 1 + d : Nat) : Int) < ((p + 1 + y : Nat) : Int) := by omega
                have hcq := HCU.out (p + 1 + d) (by omega)
                have hq0 : (0 : Int) ≤ ((p + 1 + d : Nat) : Int) := by omega
                have hqn : ((p + 1 + d : Nat) : Int) < (un : Int) := by omega
                have hru := HR0.out hdy
                rw [HP.out] at hru
                have u1 := u8_is (at8 U (p + 1 + d)) 41 (by omega)
                rw [show ((41 : Nat) : Int) = 41 from rfl, hru] at u1
                rw [← hru] at u1
                by_cases h41 : at8 R 0 = 41
                · have hG := Hid.mk' (glu_d (J := J) h41)
                  have h8 : (((at8 U (p + 1 + d)).toNat : Int) == 41) = true := by rw [u1, hru]; exact decide_eq_true h41
                  have hne41 : (((at8 U (p + 1 + d)).toNat : Int) != 41) = false := by simp only [bne, h8]; rfl
                  clear hrl u1 hru h41
                  go_wp2_with fail
                  go_meet
                  exact ⟨.inr ⟨rfl, hG.out⟩, rfl⟩
                · have hG := Hid.mk' (glu_e HJ0.out HB9.out (by omega) h41)
                  have h8 : (((at8 U (p + 1 + d)).toNat : Int) == 41) = false := by rw [u1, hru]; exact decide_eq_false h41
                  have hne41 : (((at8 U (p + 1 + d)).toNat : Int) != 41) = true := by simp only [bne, h8]; rfl
                  clear hrl u1 hru h41
                  go_wp2_with fail
                  go_meet
                  exact ⟨.inl ⟨rfl, hG.out⟩, rfl⟩
              · have ha : ¬ ((p + 1 + d : Nat) : Int) < ((p + 1 + y : Nat) : Int) := by omega
                have hG := Hid.mk' (glu_c (J := J) (show R.length = 0 by omega))
                clear hrl
                go_wp2_with fail
                go_meet
                exact ⟨.inr ⟨rfl, hG.out⟩, rfl⟩
      case rest =>
      obtain ⟨hcb, rfl⟩ := hcut
      have HCB := Hid.mk' hcb
      clear hcb
      go_upto_if 133 with fail
      go_cut [22] from 58 to 149 (fun x22 wx => GlS (glu J R) wr wx x22)
      case first =>
        rcases HCB.out with ⟨rfl, h⟩ | ⟨rfl, h⟩
        · have hG := Hid.mk' h
          clear h
          go_wp2_with fail
          go_meet
          exact ⟨bAlloc (Below.refl _ _) _, some ⟨wr.heap.size, 0, none⟩, 1, by rw [hG.out]; rfl, by rw [hG.out]; exact (Wb.new (blank_own wr)).tx (by simp)⟩
        · have hG := Hid.mk' h
          clear h
          go_wp2_with fail
          go_meet
          exact ⟨Below.refl _ _, none, 0, by rw [hG.out]; rfl, by rw [hG.out]; exact tx_nil _⟩
      case rest =>
      clear HCB
      obtain ⟨hbx, fo, fc, rfl, hTX⟩ := hcut
      have hGL := glu_le J R
      have hne0 := hNE.out R
      have HD3 := HD2.out _ rfl
      generalize glu J R = G at *
      have HD4 := Hid.mk' HD3
      have hap := HAP.out G
      rw [HP.out] at hap HD4
      obtain ⟨X, hX⟩ : ∃ X, sl l e (e + 1 + d) = X := ⟨_, rfl⟩
      rw [hX] at hap HD4 hne0
      have hXl : X.length = 1 + d := by rw [← hX, sl_len (by have := HLN.out; omega)]; omega
      have HXL := Hid.mk' hXl
      have HAG := Hid.mk' hap.2
      have hsu := hap.1
      have hT2 := TU.out.keep hbx
      have CE := HCS.out wc G fo fc hT2 hTX hGL (by rw [hsu]; exact hne0)
      rw [hsu] at CE
      have CE2 := Hid.mk' CE
      have LB2 := Hid.mk' (bT LB.out hbx)
      have KB2 := Hid.mk' (KB.out.keep hbx)
      have ES2 := Hid.mk' ((ES.out.keep hbx).wide (Nat.le_refl _) hbx.size)
      have UO2 := Hid.mk' (own_keep UO.out hbx)
      have HGL := Hid.mk' hGL
      clear hT2 hsu hap HD3 hX hXl HD2 HAP hNE CE HCS TU hTX hbx LB KB ES UO hne0 HCU HR0 HJ9
      go_upto_region 22 with fail
      go_wp2_with fail
      refine CE2.out.mono ?_
      rintro e9 w3 ⟨p1, c1, p2, c2, gg, rfl, hK, hgg, hWa, hWb, hF, hb3⟩
      have hgl := HGL.out
      have hxl := HXL.out
      have hsz := LB2.out.size
      have hER := own_keep ES2.out.row hb3
      obtain ⟨v9, w4, hr, hv9, hg9, -⟩ := app_ed W1.heap.size u11 F.length (ecs F) hER ⟨gg, 0, none⟩ ⟨(p : Int), p1, X.length, c1, X, p2, G.length, c2, G⟩ (fun j u hj => by rw [add_none]; exact hK.cell (by rw [Nat.zero_add]; simpa [Er.cs] using hj)) (by omega) (Nat.le_trans hsz hb3.size)
      have ES4 := Hid.mk' (ES2.out.snoc (r := ⟨(p : Int), p1, X.length, c1, X, p2, G.length, c2, G⟩) hb3 hWa hWb hF (show X.length ≤ _ by omega) (show G.length ≤ _ by omega) hg9 hv9 hsz)
      have UO4 := Hid.mk' (own_same (own_keep UO2.out hb3) (fun g h3 h4 => hg9.block g h4 (fun e => far_type (own_keep UO2.out hb3) hER (by decide) g h3 e.symm)))
      have KB4 := Hid.mk' ((KB2.out.keep hb3).off2 hg9 (blk_ne (KB2.out.keep hb3) hER (by decide)))
      have LB4 := Hid.mk' ((bT LB2.out hb3).grown hg9 (bT LB2.out hb3).size (fun g hg' => (hER.lt g hg').1))
      have hK4 := hK.off2 hg9 (fun e => by have := ES2.out.up gg e.symm; omega)
      have T1 : Tx w4 p1 X.length c1 X := (hWa.off hg9 (hWa.row_far hER (by decide))).tx (by omega)
      have T2 : Tx w4 p2 G.length c2 G := (hWb.off hg9 (hWb.row_far hER (by decide))).tx (by omega)
      have EZ1 := Hid.mk' (edz_one hK4 T1 T2 (by omega) (by omega))
      have TU4 := Hid.mk' (own_tx' UO4.out (by omega))
      have HM : Hid (Mod U ([(⟨(p : Int), p1, X.length, c1, X, p2, G.length, c2, G⟩ : Er)].map Er.d)) := by
        intro k V hV
        match k, hV with
        | 0, hV =>
          have : some U = some V := hV
          injection this with this
          rw [← this]
          have := TU4.out.len
          omega
        | k + 1, hV =>
          rw [List.take_of_length_le (by simp)] at hV
          have h2 := Option.some.inj (hV.symm.trans HAG.out)
          rw [h2, jT_len HST.out.low' (by have := HLN.out; omega), List.length_append, List.length_append]
          have := HRL.out
          have := HLN.out
          have := HP.out
          have := HUL.out
          omega
      have CA := Hid.mk' (rapply_any (some ⟨g, o, none⟩) un uc U (some ⟨gg, 0, none⟩) 1 1 [⟨(p : Int), p1, X.length, c1, X, p2, G.length, c2, G⟩] w4 TU4 (by omega) EZ1 rfl (by omega) HM)
      clear hgl hxl hsz hER hv9 hg9 hK4 T1 T2 EZ1 TU4 HM hK hgg hWa hWb hF hb3 CE2 LB2 KB2 ES2 UO2
      go_wp2_with (at_builtin; refine wl_ape rfl (.tmp 140) (.tmp 141) rfl u11 _ rfl rfl (fun ty => hr ty 1) ?_)
      clear hr
      go_upto_region 24 with fail
      go_wp2_with fail
      refine CA.out.mono ?_
      rintro e9 w5 h5
      rcases h5 with ⟨V, v5, hV, rfl, ho5, hb5⟩ | ⟨hno, -, -⟩
      · have hVe := Option.some.inj (hV.symm.trans HAG.out)
        subst hVe
        have UO5 := Hid.mk' (own_lower ho5 LB4.out.size)
        have ES5 := Hid.mk' ((ES4.out.keep hb5).wide (Nat.le_refl _) hb5.size)
        have KB5 := Hid.mk' (KB4.out.keep hb5)
        have LB5 := Hid.mk' (bT LB4.out hb5)
        clear hV ho5 hb5 CA ES4 UO4 KB4 LB4
        go_wp2
        go_roundg go
        case measure => omega
        case rel =>
          have hgl := HGL.out
          have hrl := HRL.out
          refine ⟨i + 1, e + 1 + y, v9, v5, (p : Int), F ++ [(⟨(p : Int), p1, X.length, c1, X, p2, G.length, c2, G⟩ : Er)], J ++ G ++ R, DD ++ [(⟨(p : Int), X, G⟩ : Ed)], rfl, rfl, rfl, by go_num, by omega, HNX.out, hoy, HD4.out, ?_, by rw [List.length_append]; simp; omega, ?_, by rw [List.length_append, List.length_append]; omega, HNS.out, ES5.out, UO5.out, KB5.out, LB5.out⟩
          · unfold Hid; rw [List.map_append, HFD.out]; simp [Er.d]
          · unfold Hid; rw [lastA_snoc]
      · rw [show app U ([(⟨(p : Int), p1, X.length, c1, X, p2, G.length, c2, G⟩ : Er)].map Er.d) = _ from HAG.out] at hno
        cases hno
theorem rjoin_any (ao : Option Addr) (n c : Nat) (l : List UInt8) (at' q : Int) (w : World) (HT : Hid (Tx w ao n c l)) (hbig : n ≤ 1048576) :
    Calls Tryz.prog 19 #[.slice ao n c, .int .i64 at', .int .i64 q] w fun e w' => RfQ (joX l at' q).1 (joX l at' q).2 w e w' := by
  have hln := HT.out.len
  unfold joX
  rw [hln]
  by_cases h : ¬ (0 ≤ at' ∧ at' ≤ (n : Int)) ∨ q < 0 ∨ 9999 < q
  · rw [if_pos h]
    by_cases h1 : at' < 0
    · exact rjo_args0 ao n c l at' q w HT h1
    by_cases h2 : (n : Int) < at'
    · exact rjo_args1 ao n c l at' q w HT (by omega) h2
    by_cases h3 : q < 0
    · exact rjo_args2 ao n c l at' q w HT (by omega) (by omega) h3
    · exact rjo_args3 ao n c l at' q w HT (by omega) (by omega) (by omega) (by omega)
  · rw [if_neg h]
    have h1 : 0 ≤ at' ∧ at' ≤ (n : Int) := by omega
    obtain ⟨k, rfl⟩ := Int.eq_ofNat_of_zero_le h1.1
    rw [show ((k : Int)).toNat = k from rfl]
    unfold joM
    by_cases hlt : (nl l : Int) + 1 - (nl (l.take k) : Int) < max q 2
    · rw [if_pos hlt]
      exact rjo_few ao n c k l q w HT (by omega) hbig (by omega) (by omega) hlt
    · rw [if_neg hlt]
      obtain ⟨mm, hmm⟩ : ∃ mm : Nat, (max q 2).toNat - 1 = mm := ⟨_, rfl⟩
      dsimp only
      rw [hmm]
      exact rjo_some ao n c k l q w HT (by omega) hbig (by omega) (by omega) _ mm rfl (by omega) (by omega)
end Go.Proofs.YtppefcnopkmhbaaGreatDoor
