/- Ren9 -/
import Derived.Test.YtppefcnopkmhbaaGreatDoorPs26
import Derived.Test.YtppefcnopkmhbaaGreatDoorPs23
namespace Go.Proofs.YtppefcnopkmhbaaGreatDoor
open Go.RowKit

set_option maxRecDepth 8000
theorem bsd_en {l : List UInt8} {k : Nat} (h : k ≤ l.length) : bsd l k = min (k + 1) (en l (sp l (nl (l.take k)))) := by rw [en_bgk h]; unfold bsd; omega
set_option maxHeartbeats 8000000 in
set_option linter.unusedSimpArgs false in
theorem ren_args0 (ao : Option Addr) (n c : Nat) (l : List UInt8) (at' : Int) (s : ByteArray) (w : World) (HT : Hid (Tx w ao n c l)) (h : at' < 0) :
    Calls Tryz.prog 20 #[.slice ao n c, .int .i64 at', .string s] w fun e w' => RfQ ef0 2 w e w' := by
  obtain ⟨W1, hW1⟩ : ∃ x, w.alloc (.cells #[.slice none 0 0, .int .i64 0, .bool false, .bool false, .slice none 0 0, .int .i64 0, .bool false] 35) = x := ⟨_, rfl⟩
  obtain ⟨B, hB⟩ : ∃ b, w.heap.size = b := ⟨_, rfl⟩
  have HB := Hid.mk' hB
  have J1 : Hid (Blk W1 B 35 (ef7 (.slice none 0 0) 0 false false (.slice none 0 0) 0 false)) := by unfold Hid; rw [← hW1, ← hB]; exact Blk.new w 35 _
  have L1 : Hid (Below w.heap.size w W1) := by unfold Hid; rw [← hW1]; exact bAlloc (Below.refl _ _) _
  have HT1 := Hid.mk' (HT.out.keep L1.out)
  have HLN := Hid.mk' HT.out.len
  go_enter Tryz.func20, Tryz.ntmps20
  go_upto_region 1 with fail
  clear hW1 hB HT
  go_upto_region 2 with fail
  obtain ⟨j0, j1, j2, j3, j4, j5, j6⟩ := ef_cells J1.out
  obtain ⟨f0, f1, f2, f3, f4, f5, f6⟩ := ef_frozen J1.out
  have hbk := ef_store J1.out (.slice none 0 0) (.int .i64 0) (.bool false) (.bool false) (.slice none 0 0) (.int .i64 0) (.bool false)
  have hgr := ef_grown W1 B (.slice none 0 0) (.int .i64 0) (.bool false) (.bool false) (.slice none 0 0) (.int .i64 0) (.bool false)
  go_wp2_with fail
  generalize (((((((W1.setCell ⟨B, 0, none⟩ (.slice none 0 0)).setCell ⟨B, 1, none⟩ (.int .i64 0)).setCell ⟨B, 2, none⟩ (.bool false)).setCell ⟨B, 3, none⟩ (.bool false)).setCell ⟨B, 4, none⟩ (.slice none 0 0)).setCell ⟨B, 5, none⟩ (.int .i64 0)).setCell ⟨B, 6, none⟩ (.bool false)) = w9 at *
  obtain ⟨g0, g1, g2, g3, g4, g5, g6⟩ := ef_cells hbk
  refine bodyPost_ret (v := .tuple #[efz, .int .i64 2]) (by simp [results, efz, Tryz.results20, go_sem, g0, g1, g2, g3, g4, g5, g6]) rfl (RfQ.no ?_)
  exact (L1.out).grown hgr (L1.out).size (fun g hg => by injection hg with hg; rw [← hg, HB.out]; exact Nat.le_refl B)
set_option maxHeartbeats 8000000 in
set_option linter.unusedSimpArgs false in
theorem ren_args1 (ao : Option Addr) (n c : Nat) (l : List UInt8) (at' : Int) (s : ByteArray) (w : World) (HT : Hid (Tx w ao n c l)) (h0 : 0 ≤ at') (h : (n : Int) < at') :
    Calls Tryz.prog 20 #[.slice ao n c, .int .i64 at', .string s] w fun e w' => RfQ ef0 2 w e w' := by
  obtain ⟨W1, hW1⟩ : ∃ x, w.alloc (.cells #[.slice none 0 0, .int .i64 0, .bool false, .bool false, .slice none 0 0, .int .i64 0, .bool false] 35) = x := ⟨_, rfl⟩
  obtain ⟨B, hB⟩ : ∃ b, w.heap.size = b := ⟨_, rfl⟩
  have HB := Hid.mk' hB
  have J1 : Hid (Blk W1 B 35 (ef7 (.slice none 0 0) 0 false false (.slice none 0 0) 0 false)) := by unfold Hid; rw [← hW1, ← hB]; exact Blk.new w 35 _
  have L1 : Hid (Below w.heap.size w W1) := by unfold Hid; rw [← hW1]; exact bAlloc (Below.refl _ _) _
  have HT1 := Hid.mk' (HT.out.keep L1.out)
  have HLN := Hid.mk' HT.out.len
  have h1 : ¬ at' < 0 := by omega
  go_enter Tryz.func20, Tryz.ntmps20
  go_upto_region 1 with fail
  clear hW1 hB HT
  go_upto_region 2 with fail
  obtain ⟨j0, j1, j2, j3, j4, j5, j6⟩ := ef_cells J1.out
  obtain ⟨f0, f1, f2, f3, f4, f5, f6⟩ := ef_frozen J1.out
  have hbk := ef_store J1.out (.slice none 0 0) (.int .i64 0) (.bool false) (.bool false) (.slice none 0 0) (.int .i64 0) (.bool false)
  have hgr := ef_grown W1 B (.slice none 0 0) (.int .i64 0) (.bool false) (.bool false) (.slice none 0 0) (.int .i64 0) (.bool false)
  go_wp2_with fail
  generalize (((((((W1.setCell ⟨B, 0, none⟩ (.slice none 0 0)).setCell ⟨B, 1, none⟩ (.int .i64 0)).setCell ⟨B, 2, none⟩ (.bool false)).setCell ⟨B, 3, none⟩ (.bool false)).setCell ⟨B, 4, none⟩ (.slice none 0 0)).setCell ⟨B, 5, none⟩ (.int .i64 0)).setCell ⟨B, 6, none⟩ (.bool false)) = w9 at *
  obtain ⟨g0, g1, g2, g3, g4, g5, g6⟩ := ef_cells hbk
  refine bodyPost_ret (v := .tuple #[efz, .int .i64 2]) (by simp [results, efz, Tryz.results20, go_sem, g0, g1, g2, g3, g4, g5, g6]) rfl (RfQ.no ?_)
  exact (L1.out).grown hgr (L1.out).size (fun g hg => by injection hg with hg; rw [← hg, HB.out]; exact Nat.le_refl B)
set_option maxHeartbeats 8000000 in
set_option linter.unusedSimpArgs false in
theorem ren_i (ao : Option Addr) (n c k : Nat) (l : List UInt8) (s : ByteArray) (w : World) (HT : Hid (Tx w ao n c l)) (hk : k ≤ n) (hbig : n ≤ 1048576) (g0 : (s.toList == [105]) = true) :
    Calls Tryz.prog 20 #[.slice ao n c, .int .i64 (k : Int), .string s] w fun e w' => RfQ ⟨[], (k : Int), false, false, [], 0, true⟩ 0 w e w' := by
  obtain ⟨W1, hW1⟩ : ∃ x, w.alloc (.cells #[.slice none 0 0, .int .i64 0, .bool false, .bool false, .slice none 0 0, .int .i64 0, .bool false] 35) = x := ⟨_, rfl⟩
  obtain ⟨B, hB⟩ : ∃ b, w.heap.size = b := ⟨_, rfl⟩
  have HB := Hid.mk' hB
  have J1 : Hid (Blk W1 B 35 (ef7 (.slice none 0 0) 0 false false (.slice none 0 0) 0 false)) := by unfold Hid; rw [← hW1, ← hB]; exact Blk.new w 35 _
  have L1 : Hid (Below w.heap.size w W1) := by unfold Hid; rw [← hW1]; exact bAlloc (Below.refl _ _) _
  have HT1 := Hid.mk' (HT.out.keep L1.out)
  have HLN := Hid.mk' HT.out.len
  have hnl := nl_le l
  have hnk := nl_take_le l k
  rw [HLN.out] at hnl
  have hz0 : ¬ (k : Int) < 0 := by omega
  have hz1 : ¬ (k : Int) > (n : Int) := by omega
  have hz2 : ¬ (n : Int) < (k : Int) := by omega
  have CO := Hid.mk' (rof_at (ao := ao) (c := c) hk HT1.out)
  obtain ⟨i0, hi0⟩ : ∃ i, nl (l.take k) = i := ⟨_, rfl⟩
  obtain ⟨s0, hs⟩ : ∃ s, sp l i0 = s := ⟨_, rfl⟩
  rw [hi0] at CO hnk
  have hsn : s0 ≤ n := by rw [← hs, ← HLN.out]; exact sp_le hnk
  obtain ⟨e0, he0⟩ : ∃ e, en l s0 = e := ⟨_, rfl⟩
  have hee : e0 ≤ n := by rw [← he0, ← HLN.out]; exact en_le (by rw [HLN.out]; exact hsn)
  have CST : Hid (∀ W, Below W1.heap.size W1 W → Calls Tryz.prog 45 #[.slice ao n c, .int .i64 (i0 : Int)] W fun e w' => e = .returned (.tuple #[.int .i64 (s0 : Int), .int .i64 0]) ∧ w' = W) := fun W hW => by
    have h := refStart_any ao n c (i0 : Int) l W (by omega) (HT1.out.keep hW)
    rw [show pr (aStart l (i0 : Int)) = .returned (.tuple #[.int .i64 (sp l i0 : Int), .int .i64 0]) from by unfold pr aStart ans; rw [ln_at hnk]; rfl, hs] at h
    exact h
  have COW : Hid (∀ (W : World), Below W1.heap.size W1 W → Calls Tryz.prog 44 #[.slice ao n c, .int .i64 (i0 : Int)] W fun e w' => e = .returned (.tuple #[.int .i64 (e0 : Int), .int .i64 0]) ∧ w' = W) := fun W hW => by
    have h := refEnd_any ao n c (i0 : Int) l W (by omega) (HT1.out.keep hW)
    rw [pr_end hnk, hs, he0] at h
    exact h
  have hw3 : IntKind.i64.wrap ((e0 : Int) + 1) = (e0 : Int) + 1 := by rw [IntKind.wrap_i64]; omega
  clear hi0 hs he0 hnk hnl
  go_enter Tryz.func20, Tryz.ntmps20
  go_upto_region 1 with fail
  clear hW1 hB HT
  go_upto_region 3 with fail
  clear hz0 hz1 hz2
  go_wp2_with fail
  refine CO.out.mono ?_
  rintro e w2 ⟨rfl, hw9⟩
  have hb2 : Below W1.heap.size W1 w2 := by rw [hw9]; exact Below.refl _ _
  clear hw9
  have B2 := Hid.mk' hb2
  have J2 := Hid.mk' (J1.out.keep hb2)
  clear hb2 CO
  go_upto_region 4 with fail
  go_wp2_with fail
  refine (CST.out w2 B2.out).mono ?_
  rintro e w' ⟨rfl, hw⟩
  have hq9 := hw.symm
  subst hq9
  clear hw CST
  go_upto_region 5 with fail
  go_wp2_with fail
  refine (COW.out w2 B2.out).mono ?_
  rintro e w' ⟨rfl, hw⟩
  have hq9 := hw.symm
  subst hq9
  clear hw COW
  go_upto_region 7 with fail
  obtain ⟨Q, hQ⟩ : ∃ q, w2.heap.size = q := ⟨_, rfl⟩
  have hbx : Below w2.heap.size w2 (w2.alloc (.cells #[.slice none 0 0, .int .i64 (k : Int), .bool false, .bool false, .slice none 0 0, .int .i64 0, .bool true] 35)) := bAlloc (Below.refl _ _) _
  have KX : Hid (Blk (w2.alloc (.cells #[.slice none 0 0, .int .i64 (k : Int), .bool false, .bool false, .slice none 0 0, .int .i64 0, .bool true] 35)) Q 35 (ef7 (.slice none 0 0) (k : Int) false false (.slice none 0 0) 0 true)) := by unfold Hid; rw [← hQ]; exact Blk.new w2 35 _
  rw [hQ]
  have HQ : Hid (W1.heap.size ≤ Q) := by unfold Hid; rw [← hQ]; exact B2.out.size
  generalize w2.alloc (.cells #[.slice none 0 0, .int .i64 (k : Int), .bool false, .bool false, .slice none 0 0, .int .i64 0, .bool true] 35) = w3 at *
  have B3 := Hid.mk' (bT B2.out hbx)
  have J3 := Hid.mk' (J2.out.keep hbx)
  clear hbx hQ B2 J2
  have hJB := J1.out.lt
  have hBQ : ¬ (B = Q) := by have := HQ.out; omega
  go_upto_region 23 with fail
  obtain ⟨x0, x1, x2, x3, x4, x5, x6⟩ := ef_cells KX.out
  obtain ⟨j0, j1, j2, j3, j4, j5, j6⟩ := ef_cells J3.out
  obtain ⟨f0, f1, f2, f3, f4, f5, f6⟩ := ef_frozen J3.out
  go_wp2_with fail
  have hbk := ef_store J3.out (.slice none 0 0) (.int .i64 (k : Int)) (.bool false) (.bool false) (.slice none 0 0) (.int .i64 0) (.bool true)
  have hgr := ef_grown w3 B (.slice none 0 0) (.int .i64 (k : Int)) (.bool false) (.bool false) (.slice none 0 0) (.int .i64 0) (.bool true)
  generalize (((((((w3.setCell ⟨B, 0, none⟩ (.slice none 0 0)).setCell ⟨B, 1, none⟩ (.int .i64 (k : Int))).setCell ⟨B, 2, none⟩ (.bool false)).setCell ⟨B, 3, none⟩ (.bool false)).setCell ⟨B, 4, none⟩ (.slice none 0 0)).setCell ⟨B, 5, none⟩ (.int .i64 0)).setCell ⟨B, 6, none⟩ (.bool true)) = w9 at *
  obtain ⟨g0', g1', g2', g3', g4', g5', g6'⟩ := ef_cells hbk
  refine bodyPost_ret (v := .tuple #[.agg #[.slice none 0 0, .int .i64 (k : Int), .bool false, .bool false, .slice none 0 0, .int .i64 0, .bool true], .int .i64 0]) (by simp [results, Tryz.results20, go_sem, g0', g1', g2', g3', g4', g5', g6']) rfl ?_
  exact RfQ.out (x := ⟨[], (k : Int), false, false, [], 0, true⟩) (F := []) (ao := none) (c := 0) rfl (edz_nil _) rfl J3.out (bT L1.out B3.out) hgr (by have := HB.out; omega)
set_option maxHeartbeats 8000000 in
set_option linter.unusedSimpArgs false in
theorem ren_R (ao : Option Addr) (n c k : Nat) (l : List UInt8) (s : ByteArray) (w : World) (HT : Hid (Tx w ao n c l)) (hk : k ≤ n) (hbig : n ≤ 1048576) (g0 : (s.toList == [105]) = false) (g1 : (s.toList == [82]) = true) :
    Calls Tryz.prog 20 #[.slice ao n c, .int .i64 (k : Int), .string s] w fun e w' => RfQ ⟨[], (k : Int), false, false, [], 0, true⟩ 0 w e w' := by
  obtain ⟨W1, hW1⟩ : ∃ x, w.alloc (.cells #[.slice none 0 0, .int .i64 0, .bool false, .bool false, .slice none 0 0, .int .i64 0, .bool false] 35) = x := ⟨_, rfl⟩
  obtain ⟨B, hB⟩ : ∃ b, w.heap.size = b := ⟨_, rfl⟩
  have HB := Hid.mk' hB
  have J1 : Hid (Blk W1 B 35 (ef7 (.slice none 0 0) 0 false false (.slice none 0 0) 0 false)) := by unfold Hid; rw [← hW1, ← hB]; exact Blk.new w 35 _
  have L1 : Hid (Below w.heap.size w W1) := by unfold Hid; rw [← hW1]; exact bAlloc (Below.refl _ _) _
  have HT1 := Hid.mk' (HT.out.keep L1.out)
  have HLN := Hid.mk' HT.out.len
  have hnl := nl_le l
  have hnk := nl_take_le l k
  rw [HLN.out] at hnl
  have hz0 : ¬ (k : Int) < 0 := by omega
  have hz1 : ¬ (k : Int) > (n : Int) := by omega
  have hz2 : ¬ (n : Int) < (k : Int) := by omega
  have CO := Hid.mk' (rof_at (ao := ao) (c := c) hk HT1.out)
  obtain ⟨i0, hi0⟩ : ∃ i, nl (l.take k) = i := ⟨_, rfl⟩
  obtain ⟨s0, hs⟩ : ∃ s, sp l i0 = s := ⟨_, rfl⟩
  rw [hi0] at CO hnk
  have hsn : s0 ≤ n := by rw [← hs, ← HLN.out]; exact sp_le hnk
  obtain ⟨e0, he0⟩ : ∃ e, en l s0 = e := ⟨_, rfl⟩
  have hee : e0 ≤ n := by rw [← he0, ← HLN.out]; exact en_le (by rw [HLN.out]; exact hsn)
  have CST : Hid (∀ W, Below W1.heap.size W1 W → Calls Tryz.prog 45 #[.slice ao n c, .int .i64 (i0 : Int)] W fun e w' => e = .returned (.tuple #[.int .i64 (s0 : Int), .int .i64 0]) ∧ w' = W) := fun W hW => by
    have h := refStart_any ao n c (i0 : Int) l W (by omega) (HT1.out.keep hW)
    rw [show pr (aStart l (i0 : Int)) = .returned (.tuple #[.int .i64 (sp l i0 : Int), .int .i64 0]) from by unfold pr aStart ans; rw [ln_at hnk]; rfl, hs] at h
    exact h
  have COW : Hid (∀ (W : World), Below W1.heap.size W1 W → Calls Tryz.prog 44 #[.slice ao n c, .int .i64 (i0 : Int)] W fun e w' => e = .returned (.tuple #[.int .i64 (e0 : Int), .int .i64 0]) ∧ w' = W) := fun W hW => by
    have h := refEnd_any ao n c (i0 : Int) l W (by omega) (HT1.out.keep hW)
    rw [pr_end hnk, hs, he0] at h
    exact h
  have hw3 : IntKind.i64.wrap ((e0 : Int) + 1) = (e0 : Int) + 1 := by rw [IntKind.wrap_i64]; omega
  clear hi0 hs he0 hnk hnl
  go_enter Tryz.func20, Tryz.ntmps20
  go_upto_region 1 with fail
  clear hW1 hB HT
  go_upto_region 3 with fail
  clear hz0 hz1 hz2
  go_wp2_with fail
  refine CO.out.mono ?_
  rintro e w2 ⟨rfl, hw9⟩
  have hb2 : Below W1.heap.size W1 w2 := by rw [hw9]; exact Below.refl _ _
  clear hw9
  have B2 := Hid.mk' hb2
  have J2 := Hid.mk' (J1.out.keep hb2)
  clear hb2 CO
  go_upto_region 4 with fail
  go_wp2_with fail
  refine (CST.out w2 B2.out).mono ?_
  rintro e w' ⟨rfl, hw⟩
  have hq9 := hw.symm
  subst hq9
  clear hw CST
  go_upto_region 5 with fail
  go_wp2_with fail
  refine (COW.out w2 B2.out).mono ?_
  rintro e w' ⟨rfl, hw⟩
  have hq9 := hw.symm
  subst hq9
  clear hw COW
  go_upto_region 7 with fail
  obtain ⟨Q, hQ⟩ : ∃ q, w2.heap.size = q := ⟨_, rfl⟩
  have hbx : Below w2.heap.size w2 (w2.alloc (.cells #[.slice none 0 0, .int .i64 (k : Int), .bool false, .bool false, .slice none 0 0, .int .i64 0, .bool true] 35)) := bAlloc (Below.refl _ _) _
  have KX : Hid (Blk (w2.alloc (.cells #[.slice none 0 0, .int .i64 (k : Int), .bool false, .bool false, .slice none 0 0, .int .i64 0, .bool true] 35)) Q 35 (ef7 (.slice none 0 0) (k : Int) false false (.slice none 0 0) 0 true)) := by unfold Hid; rw [← hQ]; exact Blk.new w2 35 _
  rw [hQ]
  have HQ : Hid (W1.heap.size ≤ Q) := by unfold Hid; rw [← hQ]; exact B2.out.size
  generalize w2.alloc (.cells #[.slice none 0 0, .int .i64 (k : Int), .bool false, .bool false, .slice none 0 0, .int .i64 0, .bool true] 35) = w3 at *
  have B3 := Hid.mk' (bT B2.out hbx)
  have J3 := Hid.mk' (J2.out.keep hbx)
  clear hbx hQ B2 J2
  have hJB := J1.out.lt
  have hBQ : ¬ (B = Q) := by have := HQ.out; omega
  go_upto_region 23 with fail
  obtain ⟨x0, x1, x2, x3, x4, x5, x6⟩ := ef_cells KX.out
  obtain ⟨j0, j1, j2, j3, j4, j5, j6⟩ := ef_cells J3.out
  obtain ⟨f0, f1, f2, f3, f4, f5, f6⟩ := ef_frozen J3.out
  go_wp2_with fail
  have hbk := ef_store J3.out (.slice none 0 0) (.int .i64 (k : Int)) (.bool false) (.bool false) (.slice none 0 0) (.int .i64 0) (.bool true)
  have hgr := ef_grown w3 B (.slice none 0 0) (.int .i64 (k : Int)) (.bool false) (.bool false) (.slice none 0 0) (.int .i64 0) (.bool true)
  generalize (((((((w3.setCell ⟨B, 0, none⟩ (.slice none 0 0)).setCell ⟨B, 1, none⟩ (.int .i64 (k : Int))).setCell ⟨B, 2, none⟩ (.bool false)).setCell ⟨B, 3, none⟩ (.bool false)).setCell ⟨B, 4, none⟩ (.slice none 0 0)).setCell ⟨B, 5, none⟩ (.int .i64 0)).setCell ⟨B, 6, none⟩ (.bool true)) = w9 at *
  obtain ⟨g0', g1', g2', g3', g4', g5', g6'⟩ := ef_cells hbk
  refine bodyPost_ret (v := .tuple #[.agg #[.slice none 0 0, .int .i64 (k : Int), .bool false, .bool false, .slice none 0 0, .int .i64 0, .bool true], .int .i64 0]) (by simp [results, Tryz.results20, go_sem, g0', g1', g2', g3', g4', g5', g6']) rfl ?_
  exact RfQ.out (x := ⟨[], (k : Int), false, false, [], 0, true⟩) (F := []) (ao := none) (c := 0) rfl (edz_nil _) rfl J3.out (bT L1.out B3.out) hgr (by have := HB.out; omega)
set_option maxHeartbeats 8000000 in
set_option linter.unusedSimpArgs false in
theorem ren_a (ao : Option Addr) (n c k : Nat) (l : List UInt8) (s : ByteArray) (w : World) (HT : Hid (Tx w ao n c l)) (hk : k ≤ n) (hbig : n ≤ 1048576) (g0 : (s.toList == [105]) = false) (g1 : (s.toList == [82]) = false) (g2 : (s.toList == [97]) = true) :
    Calls Tryz.prog 20 #[.slice ao n c, .int .i64 (k : Int), .string s] w fun e w' => RfQ ⟨[], (bsd l k : Int), false, false, [], 0, true⟩ 0 w e w' := by
  obtain ⟨W1, hW1⟩ : ∃ x, w.alloc (.cells #[.slice none 0 0, .int .i64 0, .bool false, .bool false, .slice none 0 0, .int .i64 0, .bool false] 35) = x := ⟨_, rfl⟩
  obtain ⟨B, hB⟩ : ∃ b, w.heap.size = b := ⟨_, rfl⟩
  have HB := Hid.mk' hB
  have J1 : Hid (Blk W1 B 35 (ef7 (.slice none 0 0) 0 false false (.slice none 0 0) 0 false)) := by unfold Hid; rw [← hW1, ← hB]; exact Blk.new w 35 _
  have L1 : Hid (Below w.heap.size w W1) := by unfold Hid; rw [← hW1]; exact bAlloc (Below.refl _ _) _
  have HT1 := Hid.mk' (HT.out.keep L1.out)
  have HLN := Hid.mk' HT.out.len
  have hnl := nl_le l
  have hnk := nl_take_le l k
  rw [HLN.out] at hnl
  have hz0 : ¬ (k : Int) < 0 := by omega
  have hz1 : ¬ (k : Int) > (n : Int) := by omega
  have hz2 : ¬ (n : Int) < (k : Int) := by omega
  have CO := Hid.mk' (rof_at (ao := ao) (c := c) hk HT1.out)
  rw [bsd_en (by rw [HLN.out]; exact hk)]
  obtain ⟨i0, hi0⟩ : ∃ i, nl (l.take k) = i := ⟨_, rfl⟩
  obtain ⟨s0, hs⟩ : ∃ s, sp l i0 = s := ⟨_, rfl⟩
  rw [hi0] at CO hnk
  have hsn : s0 ≤ n := by rw [← hs, ← HLN.out]; exact sp_le hnk
  obtain ⟨e0, he0⟩ : ∃ e, en l s0 = e := ⟨_, rfl⟩
  have hee : e0 ≤ n := by rw [← he0, ← HLN.out]; exact en_le (by rw [HLN.out]; exact hsn)
  have CST : Hid (∀ W, Below W1.heap.size W1 W → Calls Tryz.prog 45 #[.slice ao n c, .int .i64 (i0 : Int)] W fun e w' => e = .returned (.tuple #[.int .i64 (s0 : Int), .int .i64 0]) ∧ w' = W) := fun W hW => by
    have h := refStart_any ao n c (i0 : Int) l W (by omega) (HT1.out.keep hW)
    rw [show pr (aStart l (i0 : Int)) = .returned (.tuple #[.int .i64 (sp l i0 : Int), .int .i64 0]) from by unfold pr aStart ans; rw [ln_at hnk]; rfl, hs] at h
    exact h
  have COW : Hid (∀ (W : World), Below W1.heap.size W1 W → Calls Tryz.prog 44 #[.slice ao n c, .int .i64 (i0 : Int)] W fun e w' => e = .returned (.tuple #[.int .i64 (e0 : Int), .int .i64 0]) ∧ w' = W) := fun W hW => by
    have h := refEnd_any ao n c (i0 : Int) l W (by omega) (HT1.out.keep hW)
    rw [pr_end hnk, hs, he0] at h
    exact h
  have hw3 : IntKind.i64.wrap ((e0 : Int) + 1) = (e0 : Int) + 1 := by rw [IntKind.wrap_i64]; omega
  rw [hi0]
  rw [hs]
  rw [he0]
  obtain ⟨pb, hpb⟩ : ∃ p, min (k + 1) e0 = p := ⟨_, rfl⟩
  rw [hpb]
  have hw4 : IntKind.i64.wrap ((k : Int) + 1) = (k : Int) + 1 := by rw [IntKind.wrap_i64]; omega
  have hmin : min ((k : Int) + 1) (e0 : Int) = (pb : Int) := by omega
  clear hpb
  clear hi0 hs he0 hnk hnl
  go_enter Tryz.func20, Tryz.ntmps20
  go_upto_region 1 with fail
  clear hW1 hB HT
  go_upto_region 3 with fail
  clear hz0 hz1 hz2
  go_wp2_with fail
  refine CO.out.mono ?_
  rintro e w2 ⟨rfl, hw9⟩
  have hb2 : Below W1.heap.size W1 w2 := by rw [hw9]; exact Below.refl _ _
  clear hw9
  have B2 := Hid.mk' hb2
  have J2 := Hid.mk' (J1.out.keep hb2)
  clear hb2 CO
  go_upto_region 4 with fail
  go_wp2_with fail
  refine (CST.out w2 B2.out).mono ?_
  rintro e w' ⟨rfl, hw⟩
  have hq9 := hw.symm
  subst hq9
  clear hw CST
  go_upto_region 5 with fail
  go_wp2_with fail
  refine (COW.out w2 B2.out).mono ?_
  rintro e w' ⟨rfl, hw⟩
  have hq9 := hw.symm
  subst hq9
  clear hw COW
  go_upto_region 7 with fail
  obtain ⟨Q, hQ⟩ : ∃ q, w2.heap.size = q := ⟨_, rfl⟩
  have hbx : Below w2.heap.size w2 (w2.alloc (.cells #[.slice none 0 0, .int .i64 (k : Int), .bool false, .bool false, .slice none 0 0, .int .i64 0, .bool true] 35)) := bAlloc (Below.refl _ _) _
  have KX : Hid (Blk (w2.alloc (.cells #[.slice none 0 0, .int .i64 (k : Int), .bool false, .bool false, .slice none 0 0, .int .i64 0, .bool true] 35)) Q 35 (ef7 (.slice none 0 0) (k : Int) false false (.slice none 0 0) 0 true)) := by unfold Hid; rw [← hQ]; exact Blk.new w2 35 _
  rw [hQ]
  have HQ : Hid (W1.heap.size ≤ Q) := by unfold Hid; rw [← hQ]; exact B2.out.size
  generalize w2.alloc (.cells #[.slice none 0 0, .int .i64 (k : Int), .bool false, .bool false, .slice none 0 0, .int .i64 0, .bool true] 35) = w3 at *
  have B3 := Hid.mk' (bT B2.out hbx)
  have J3 := Hid.mk' (J2.out.keep hbx)
  clear hbx hQ B2 J2
  have hJB := J1.out.lt
  have hBQ : ¬ (B = Q) := by have := HQ.out; omega
  go_upto_region 12 with fail
  obtain ⟨x0, x1, x2, x3, x4, x5, x6⟩ := ef_cells KX.out
  obtain ⟨f0, f1, f2, f3, f4, f5, f6⟩ := ef_frozen KX.out
  go_upto_region 23 with fail
  have hbk := ef_set1 KX.out (pb : Int)
  have hgr := grown_set w3 Q 1 (.int .i64 (pb : Int))
  have J4 := Hid.mk' (J3.out.off2 hgr (fun e => by injection e with e; exact hBQ e))
  have B4 := Hid.mk' (B3.out.grown hgr B3.out.size (fun g hg => by injection hg with hg; have := HQ.out; omega))
  clear x0 x1 x2 x3 x4 x5 x6 f0 f1 f2 f3 f4 f5 f6
  generalize w3.setCell ⟨Q, 1, none⟩ (.int .i64 (pb : Int)) = w4 at *
  have KY := Hid.mk' hbk
  clear hbk hgr KX
  go_upto_region 23 with fail
  obtain ⟨x0, x1, x2, x3, x4, x5, x6⟩ := ef_cells KY.out
  obtain ⟨j0, j1, j2, j3, j4, j5, j6⟩ := ef_cells J4.out
  obtain ⟨f0, f1, f2, f3, f4, f5, f6⟩ := ef_frozen J4.out
  go_wp2_with fail
  have hbk := ef_store J4.out (.slice none 0 0) (.int .i64 (pb : Int)) (.bool false) (.bool false) (.slice none 0 0) (.int .i64 0) (.bool true)
  have hgr := ef_grown w4 B (.slice none 0 0) (.int .i64 (pb : Int)) (.bool false) (.bool false) (.slice none 0 0) (.int .i64 0) (.bool true)
  generalize (((((((w4.setCell ⟨B, 0, none⟩ (.slice none 0 0)).setCell ⟨B, 1, none⟩ (.int .i64 (pb : Int))).setCell ⟨B, 2, none⟩ (.bool false)).setCell ⟨B, 3, none⟩ (.bool false)).setCell ⟨B, 4, none⟩ (.slice none 0 0)).setCell ⟨B, 5, none⟩ (.int .i64 0)).setCell ⟨B, 6, none⟩ (.bool true)) = w9 at *
  obtain ⟨g0', g1', g2', g3', g4', g5', g6'⟩ := ef_cells hbk
  refine bodyPost_ret (v := .tuple #[.agg #[.slice none 0 0, .int .i64 (pb : Int), .bool false, .bool false, .slice none 0 0, .int .i64 0, .bool true], .int .i64 0]) (by simp [results, Tryz.results20, go_sem, g0', g1', g2', g3', g4', g5', g6']) rfl ?_
  exact RfQ.out (x := ⟨[], (pb : Int), false, false, [], 0, true⟩) (F := []) (ao := none) (c := 0) rfl (edz_nil _) rfl J4.out (bT L1.out B4.out) hgr (by have := HB.out; omega)
set_option maxHeartbeats 8000000 in
set_option linter.unusedSimpArgs false in
theorem ren_I (ao : Option Addr) (n c k : Nat) (l : List UInt8) (s : ByteArray) (w : World) (HT : Hid (Tx w ao n c l)) (hk : k ≤ n) (hbig : n ≤ 1048576) (g0 : (s.toList == [105]) = false) (g1 : (s.toList == [82]) = false) (g2 : (s.toList == [97]) = false) (g3 : (s.toList == [73]) = true) :
    Calls Tryz.prog 20 #[.slice ao n c, .int .i64 (k : Int), .string s] w fun e w' => RfQ ⟨[], (aFirst l (nl (l.take k) : Int)).1, false, false, [], 0, true⟩ 0 w e w' := by
  obtain ⟨W1, hW1⟩ : ∃ x, w.alloc (.cells #[.slice none 0 0, .int .i64 0, .bool false, .bool false, .slice none 0 0, .int .i64 0, .bool false] 35) = x := ⟨_, rfl⟩
  obtain ⟨B, hB⟩ : ∃ b, w.heap.size = b := ⟨_, rfl⟩
  have HB := Hid.mk' hB
  have J1 : Hid (Blk W1 B 35 (ef7 (.slice none 0 0) 0 false false (.slice none 0 0) 0 false)) := by unfold Hid; rw [← hW1, ← hB]; exact Blk.new w 35 _
  have L1 : Hid (Below w.heap.size w W1) := by unfold Hid; rw [← hW1]; exact bAlloc (Below.refl _ _) _
  have HT1 := Hid.mk' (HT.out.keep L1.out)
  have HLN := Hid.mk' HT.out.len
  have hnl := nl_le l
  have hnk := nl_take_le l k
  rw [HLN.out] at hnl
  have hz0 : ¬ (k : Int) < 0 := by omega
  have hz1 : ¬ (k : Int) > (n : Int) := by omega
  have hz2 : ¬ (n : Int) < (k : Int) := by omega
  have CO := Hid.mk' (rof_at (ao := ao) (c := c) hk HT1.out)
  obtain ⟨i0, hi0⟩ : ∃ i, nl (l.take k) = i := ⟨_, rfl⟩
  obtain ⟨s0, hs⟩ : ∃ s, sp l i0 = s := ⟨_, rfl⟩
  rw [hi0] at CO hnk
  have hsn : s0 ≤ n := by rw [← hs, ← HLN.out]; exact sp_le hnk
  obtain ⟨e0, he0⟩ : ∃ e, en l s0 = e := ⟨_, rfl⟩
  have hee : e0 ≤ n := by rw [← he0, ← HLN.out]; exact en_le (by rw [HLN.out]; exact hsn)
  have CST : Hid (∀ W, Below W1.heap.size W1 W → Calls Tryz.prog 45 #[.slice ao n c, .int .i64 (i0 : Int)] W fun e w' => e = .returned (.tuple #[.int .i64 (s0 : Int), .int .i64 0]) ∧ w' = W) := fun W hW => by
    have h := refStart_any ao n c (i0 : Int) l W (by omega) (HT1.out.keep hW)
    rw [show pr (aStart l (i0 : Int)) = .returned (.tuple #[.int .i64 (sp l i0 : Int), .int .i64 0]) from by unfold pr aStart ans; rw [ln_at hnk]; rfl, hs] at h
    exact h
  have COW : Hid (∀ (W : World), Below W1.heap.size W1 W → Calls Tryz.prog 44 #[.slice ao n c, .int .i64 (i0 : Int)] W fun e w' => e = .returned (.tuple #[.int .i64 (e0 : Int), .int .i64 0]) ∧ w' = W) := fun W hW => by
    have h := refEnd_any ao n c (i0 : Int) l W (by omega) (HT1.out.keep hW)
    rw [pr_end hnk, hs, he0] at h
    exact h
  have hw3 : IntKind.i64.wrap ((e0 : Int) + 1) = (e0 : Int) + 1 := by rw [IntKind.wrap_i64]; omega
  rw [hi0]
  have CF : Hid (∀ W, Below W1.heap.size W1 W → Calls Tryz.prog 53 #[.slice ao n c, .int .i64 (i0 : Int)] W fun e w' => e = pr (aFirst l (i0 : Int)) ∧ Below W.heap.size W w') := fun W hW => (refFirst_any ao n c (i0 : Int) l W (by omega) (HT1.out.keep hW)).mono fun _ _ h => ⟨h.1, by rw [h.2]; exact Below.refl _ _⟩
  unfold pr at CF
  obtain ⟨⟨fx, fy⟩, hfx⟩ : ∃ x, aFirst l (i0 : Int) = x := ⟨_, rfl⟩
  rw [hfx] at CF ⊢
  dsimp only at CF ⊢
  clear hfx
  clear hi0 hs he0 hnk hnl
  go_enter Tryz.func20, Tryz.ntmps20
  go_upto_region 1 with fail
  clear hW1 hB HT
  go_upto_region 3 with fail
  clear hz0 hz1 hz2
  go_wp2_with fail
  refine CO.out.mono ?_
  rintro e w2 ⟨rfl, hw9⟩
  have hb2 : Below W1.heap.size W1 w2 := by rw [hw9]; exact Below.refl _ _
  clear hw9
  have B2 := Hid.mk' hb2
  have J2 := Hid.mk' (J1.out.keep hb2)
  clear hb2 CO
  go_upto_region 4 with fail
  go_wp2_with fail
  refine (CST.out w2 B2.out).mono ?_
  rintro e w' ⟨rfl, hw⟩
  have hq9 := hw.symm
  subst hq9
  clear hw CST
  go_upto_region 5 with fail
  go_wp2_with fail
  refine (COW.out w2 B2.out).mono ?_
  rintro e w' ⟨rfl, hw⟩
  have hq9 := hw.symm
  subst hq9
  clear hw COW
  go_upto_region 7 with fail
  obtain ⟨Q, hQ⟩ : ∃ q, w2.heap.size = q := ⟨_, rfl⟩
  have hbx : Below w2.heap.size w2 (w2.alloc (.cells #[.slice none 0 0, .int .i64 (k : Int), .bool false, .bool false, .slice none 0 0, .int .i64 0, .bool true] 35)) := bAlloc (Below.refl _ _) _
  have KX : Hid (Blk (w2.alloc (.cells #[.slice none 0 0, .int .i64 (k : Int), .bool false, .bool false, .slice none 0 0, .int .i64 0, .bool true] 35)) Q 35 (ef7 (.slice none 0 0) (k : Int) false false (.slice none 0 0) 0 true)) := by unfold Hid; rw [← hQ]; exact Blk.new w2 35 _
  rw [hQ]
  have HQ : Hid (W1.heap.size ≤ Q) := by unfold Hid; rw [← hQ]; exact B2.out.size
  generalize w2.alloc (.cells #[.slice none 0 0, .int .i64 (k : Int), .bool false, .bool false, .slice none 0 0, .int .i64 0, .bool true] 35) = w3 at *
  have B3 := Hid.mk' (bT B2.out hbx)
  have J3 := Hid.mk' (J2.out.keep hbx)
  clear hbx hQ B2 J2
  have hJB := J1.out.lt
  have hBQ : ¬ (B = Q) := by have := HQ.out; omega
  go_upto_region 14 with fail
  go_wp2_with fail
  refine (CF.out w3 B3.out).mono ?_
  rintro e w4 ⟨rfl, hb4⟩
  have KY := Hid.mk' (KX.out.keep hb4)
  have J4 := Hid.mk' (J3.out.keep hb4)
  have B4 := Hid.mk' (bT B3.out hb4)
  clear hb4 CF KX J3 B3
  obtain ⟨x0, x1, x2, x3, x4, x5, x6⟩ := ef_cells KY.out
  obtain ⟨f0, f1, f2, f3, f4, f5, f6⟩ := ef_frozen KY.out
  go_upto_region 23 with fail
  have hbk := ef_set1 KY.out fx
  have hgr := grown_set w4 Q 1 (.int .i64 fx)
  have J5 := Hid.mk' (J4.out.off2 hgr (fun e => by injection e with e; exact hBQ e))
  have B5 := Hid.mk' (B4.out.grown hgr B4.out.size (fun g hg => by injection hg with hg; have := HQ.out; omega))
  clear x0 x1 x2 x3 x4 x5 x6 f0 f1 f2 f3 f4 f5 f6
  generalize w4.setCell ⟨Q, 1, none⟩ (.int .i64 fx) = w5 at *
  have KZ := Hid.mk' hbk
  clear hbk hgr KY
  go_upto_region 23 with fail
  obtain ⟨x0, x1, x2, x3, x4, x5, x6⟩ := ef_cells KZ.out
  obtain ⟨j0, j1, j2, j3, j4, j5, j6⟩ := ef_cells J5.out
  obtain ⟨f0, f1, f2, f3, f4, f5, f6⟩ := ef_frozen J5.out
  go_wp2_with fail
  have hbk := ef_store J5.out (.slice none 0 0) (.int .i64 fx) (.bool false) (.bool false) (.slice none 0 0) (.int .i64 0) (.bool true)
  have hgr := ef_grown w5 B (.slice none 0 0) (.int .i64 fx) (.bool false) (.bool false) (.slice none 0 0) (.int .i64 0) (.bool true)
  generalize (((((((w5.setCell ⟨B, 0, none⟩ (.slice none 0 0)).setCell ⟨B, 1, none⟩ (.int .i64 fx)).setCell ⟨B, 2, none⟩ (.bool false)).setCell ⟨B, 3, none⟩ (.bool false)).setCell ⟨B, 4, none⟩ (.slice none 0 0)).setCell ⟨B, 5, none⟩ (.int .i64 0)).setCell ⟨B, 6, none⟩ (.bool true)) = w9 at *
  obtain ⟨g0', g1', g2', g3', g4', g5', g6'⟩ := ef_cells hbk
  refine bodyPost_ret (v := .tuple #[.agg #[.slice none 0 0, .int .i64 fx, .bool false, .bool false, .slice none 0 0, .int .i64 0, .bool true], .int .i64 0]) (by simp [results, Tryz.results20, go_sem, g0', g1', g2', g3', g4', g5', g6']) rfl ?_
  exact RfQ.out (x := ⟨[], fx, false, false, [], 0, true⟩) (F := []) (ao := none) (c := 0) rfl (edz_nil _) rfl J5.out (bT L1.out B5.out) hgr (by have := HB.out; omega)
set_option maxHeartbeats 8000000 in
set_option linter.unusedSimpArgs false in
theorem ren_A (ao : Option Addr) (n c k : Nat) (l : List UInt8) (s : ByteArray) (w : World) (HT : Hid (Tx w ao n c l)) (hk : k ≤ n) (hbig : n ≤ 1048576) (g0 : (s.toList == [105]) = false) (g1 : (s.toList == [82]) = false) (g2 : (s.toList == [97]) = false) (g3 : (s.toList == [73]) = false) (g4 : (s.toList == [65]) = true) :
    Calls Tryz.prog 20 #[.slice ao n c, .int .i64 (k : Int), .string s] w fun e w' => RfQ ⟨[], (en l (sp l (nl (l.take k))) : Int), false, false, [], 0, true⟩ 0 w e w' := by
  obtain ⟨W1, hW1⟩ : ∃ x, w.alloc (.cells #[.slice none 0 0, .int .i64 0, .bool false, .bool false, .slice none 0 0, .int .i64 0, .bool false] 35) = x := ⟨_, rfl⟩
  obtain ⟨B, hB⟩ : ∃ b, w.heap.size = b := ⟨_, rfl⟩
  have HB := Hid.mk' hB
  have J1 : Hid (Blk W1 B 35 (ef7 (.slice none 0 0) 0 false false (.slice none 0 0) 0 false)) := by unfold Hid; rw [← hW1, ← hB]; exact Blk.new w 35 _
  have L1 : Hid (Below w.heap.size w W1) := by unfold Hid; rw [← hW1]; exact bAlloc (Below.refl _ _) _
  have HT1 := Hid.mk' (HT.out.keep L1.out)
  have HLN := Hid.mk' HT.out.len
  have hnl := nl_le l
  have hnk := nl_take_le l k
  rw [HLN.out] at hnl
  have hz0 : ¬ (k : Int) < 0 := by omega
  have hz1 : ¬ (k : Int) > (n : Int) := by omega
  have hz2 : ¬ (n : Int) < (k : Int) := by omega
  have CO := Hid.mk' (rof_at (ao := ao) (c := c) hk HT1.out)
  obtain ⟨i0, hi0⟩ : ∃ i, nl (l.take k) = i := ⟨_, rfl⟩
  obtain ⟨s0, hs⟩ : ∃ s, sp l i0 = s := ⟨_, rfl⟩
  rw [hi0] at CO hnk
  have hsn : s0 ≤ n := by rw [← hs, ← HLN.out]; exact sp_le hnk
  obtain ⟨e0, he0⟩ : ∃ e, en l s0 = e := ⟨_, rfl⟩
  have hee : e0 ≤ n := by rw [← he0, ← HLN.out]; exact en_le (by rw [HLN.out]; exact hsn)
  have CST : Hid (∀ W, Below W1.heap.size W1 W → Calls Tryz.prog 45 #[.slice ao n c, .int .i64 (i0 : Int)] W fun e w' => e = .returned (.tuple #[.int .i64 (s0 : Int), .int .i64 0]) ∧ w' = W) := fun W hW => by
    have h := refStart_any ao n c (i0 : Int) l W (by omega) (HT1.out.keep hW)
    rw [show pr (aStart l (i0 : Int)) = .returned (.tuple #[.int .i64 (sp l i0 : Int), .int .i64 0]) from by unfold pr aStart ans; rw [ln_at hnk]; rfl, hs] at h
    exact h
  have COW : Hid (∀ (W : World), Below W1.heap.size W1 W → Calls Tryz.prog 44 #[.slice ao n c, .int .i64 (i0 : Int)] W fun e w' => e = .returned (.tuple #[.int .i64 (e0 : Int), .int .i64 0]) ∧ w' = W) := fun W hW => by
    have h := refEnd_any ao n c (i0 : Int) l W (by omega) (HT1.out.keep hW)
    rw [pr_end hnk, hs, he0] at h
    exact h
  have hw3 : IntKind.i64.wrap ((e0 : Int) + 1) = (e0 : Int) + 1 := by rw [IntKind.wrap_i64]; omega
  rw [hi0]
  rw [hs]
  rw [he0]
  clear hi0 hs he0 hnk hnl
  go_enter Tryz.func20, Tryz.ntmps20
  go_upto_region 1 with fail
  clear hW1 hB HT
  go_upto_region 3 with fail
  clear hz0 hz1 hz2
  go_wp2_with fail
  refine CO.out.mono ?_
  rintro e w2 ⟨rfl, hw9⟩
  have hb2 : Below W1.heap.size W1 w2 := by rw [hw9]; exact Below.refl _ _
  clear hw9
  have B2 := Hid.mk' hb2
  have J2 := Hid.mk' (J1.out.keep hb2)
  clear hb2 CO
  go_upto_region 4 with fail
  go_wp2_with fail
  refine (CST.out w2 B2.out).mono ?_
  rintro e w' ⟨rfl, hw⟩
  have hq9 := hw.symm
  subst hq9
  clear hw CST
  go_upto_region 5 with fail
  go_wp2_with fail
  refine (COW.out w2 B2.out).mono ?_
  rintro e w' ⟨rfl, hw⟩
  have hq9 := hw.symm
  subst hq9
  clear hw COW
  go_upto_region 7 with fail
  obtain ⟨Q, hQ⟩ : ∃ q, w2.heap.size = q := ⟨_, rfl⟩
  have hbx : Below w2.heap.size w2 (w2.alloc (.cells #[.slice none 0 0, .int .i64 (k : Int), .bool false, .bool false, .slice none 0 0, .int .i64 0, .bool true] 35)) := bAlloc (Below.refl _ _) _
  have KX : Hid (Blk (w2.alloc (.cells #[.slice none 0 0, .int .i64 (k : Int), .bool false, .bool false, .slice none 0 0, .int .i64 0, .bool true] 35)) Q 35 (ef7 (.slice none 0 0) (k : Int) false false (.slice none 0 0) 0 true)) := by unfold Hid; rw [← hQ]; exact Blk.new w2 35 _
  rw [hQ]
  have HQ : Hid (W1.heap.size ≤ Q) := by unfold Hid; rw [← hQ]; exact B2.out.size
  generalize w2.alloc (.cells #[.slice none 0 0, .int .i64 (k : Int), .bool false, .bool false, .slice none 0 0, .int .i64 0, .bool true] 35) = w3 at *
  have B3 := Hid.mk' (bT B2.out hbx)
  have J3 := Hid.mk' (J2.out.keep hbx)
  clear hbx hQ B2 J2
  have hJB := J1.out.lt
  have hBQ : ¬ (B = Q) := by have := HQ.out; omega
  go_upto_region 16 with fail
  obtain ⟨x0, x1, x2, x3, x4, x5, x6⟩ := ef_cells KX.out
  obtain ⟨f0, f1, f2, f3, f4, f5, f6⟩ := ef_frozen KX.out
  go_upto_region 23 with fail
  have hbk := ef_set1 KX.out (e0 : Int)
  have hgr := grown_set w3 Q 1 (.int .i64 (e0 : Int))
  have J4 := Hid.mk' (J3.out.off2 hgr (fun e => by injection e with e; exact hBQ e))
  have B4 := Hid.mk' (B3.out.grown hgr B3.out.size (fun g hg => by injection hg with hg; have := HQ.out; omega))
  clear x0 x1 x2 x3 x4 x5 x6 f0 f1 f2 f3 f4 f5 f6
  generalize w3.setCell ⟨Q, 1, none⟩ (.int .i64 (e0 : Int)) = w4 at *
  have KY := Hid.mk' hbk
  clear hbk hgr KX
  go_upto_region 23 with fail
  obtain ⟨x0, x1, x2, x3, x4, x5, x6⟩ := ef_cells KY.out
  obtain ⟨j0, j1, j2, j3, j4, j5, j6⟩ := ef_cells J4.out
  obtain ⟨f0, f1, f2, f3, f4, f5, f6⟩ := ef_frozen J4.out
  go_wp2_with fail
  have hbk := ef_store J4.out (.slice none 0 0) (.int .i64 (e0 : Int)) (.bool false) (.bool false) (.slice none 0 0) (.int .i64 0) (.bool true)
  have hgr := ef_grown w4 B (.slice none 0 0) (.int .i64 (e0 : Int)) (.bool false) (.bool false) (.slice none 0 0) (.int .i64 0) (.bool true)
  generalize (((((((w4.setCell ⟨B, 0, none⟩ (.slice none 0 0)).setCell ⟨B, 1, none⟩ (.int .i64 (e0 : Int))).setCell ⟨B, 2, none⟩ (.bool false)).setCell ⟨B, 3, none⟩ (.bool false)).setCell ⟨B, 4, none⟩ (.slice none 0 0)).setCell ⟨B, 5, none⟩ (.int .i64 0)).setCell ⟨B, 6, none⟩ (.bool true)) = w9 at *
  obtain ⟨g0', g1', g2', g3', g4', g5', g6'⟩ := ef_cells hbk
  refine bodyPost_ret (v := .tuple #[.agg #[.slice none 0 0, .int .i64 (e0 : Int), .bool false, .bool false, .slice none 0 0, .int .i64 0, .bool true], .int .i64 0]) (by simp [results, Tryz.results20, go_sem, g0', g1', g2', g3', g4', g5', g6']) rfl ?_
  exact RfQ.out (x := ⟨[], (e0 : Int), false, false, [], 0, true⟩) (F := []) (ao := none) (c := 0) rfl (edz_nil _) rfl J4.out (bT L1.out B4.out) hgr (by have := HB.out; omega)
set_option maxHeartbeats 8000000 in
set_option linter.unusedSimpArgs false in
theorem ren_o (ao : Option Addr) (n c k : Nat) (l : List UInt8) (s : ByteArray) (w : World) (HT : Hid (Tx w ao n c l)) (hk : k ≤ n) (hbig : n ≤ 1048576) (g0 : (s.toList == [105]) = false) (g1 : (s.toList == [82]) = false) (g2 : (s.toList == [97]) = false) (g3 : (s.toList == [73]) = false) (g4 : (s.toList == [65]) = false) (g5 : (s.toList == [111]) = true) :
    Calls Tryz.prog 20 #[.slice ao n c, .int .i64 (k : Int), .string s] w fun e w' => RfQ ⟨sw l (en l (sp l (nl (l.take k)))) (en l (sp l (nl (l.take k)))) [10], (en l (sp l (nl (l.take k))) : Int) + 1, false, false, [], 0, true⟩ 0 w e w' := by
  obtain ⟨W1, hW1⟩ : ∃ x, w.alloc (.cells #[.slice none 0 0, .int .i64 0, .bool false, .bool false, .slice none 0 0, .int .i64 0, .bool false] 35) = x := ⟨_, rfl⟩
  obtain ⟨B, hB⟩ : ∃ b, w.heap.size = b := ⟨_, rfl⟩
  have HB := Hid.mk' hB
  have J1 : Hid (Blk W1 B 35 (ef7 (.slice none 0 0) 0 false false (.slice none 0 0) 0 false)) := by unfold Hid; rw [← hW1, ← hB]; exact Blk.new w 35 _
  have L1 : Hid (Below w.heap.size w W1) := by unfold Hid; rw [← hW1]; exact bAlloc (Below.refl _ _) _
  have HT1 := Hid.mk' (HT.out.keep L1.out)
  have HLN := Hid.mk' HT.out.len
  have hnl := nl_le l
  have hnk := nl_take_le l k
  rw [HLN.out] at hnl
  have hz0 : ¬ (k : Int) < 0 := by omega
  have hz1 : ¬ (k : Int) > (n : Int) := by omega
  have hz2 : ¬ (n : Int) < (k : Int) := by omega
  have CO := Hid.mk' (rof_at (ao := ao) (c := c) hk HT1.out)
  obtain ⟨i0, hi0⟩ : ∃ i, nl (l.take k) = i := ⟨_, rfl⟩
  obtain ⟨s0, hs⟩ : ∃ s, sp l i0 = s := ⟨_, rfl⟩
  rw [hi0] at CO hnk
  have hsn : s0 ≤ n := by rw [← hs, ← HLN.out]; exact sp_le hnk
  obtain ⟨e0, he0⟩ : ∃ e, en l s0 = e := ⟨_, rfl⟩
  have hee : e0 ≤ n := by rw [← he0, ← HLN.out]; exact en_le (by rw [HLN.out]; exact hsn)
  have CST : Hid (∀ W, Below W1.heap.size W1 W → Calls Tryz.prog 45 #[.slice ao n c, .int .i64 (i0 : Int)] W fun e w' => e = .returned (.tuple #[.int .i64 (s0 : Int), .int .i64 0]) ∧ w' = W) := fun W hW => by
    have h := refStart_any ao n c (i0 : Int) l W (by omega) (HT1.out.keep hW)
    rw [show pr (aStart l (i0 : Int)) = .returned (.tuple #[.int .i64 (sp l i0 : Int), .int .i64 0]) from by unfold pr aStart ans; rw [ln_at hnk]; rfl, hs] at h
    exact h
  have COW : Hid (∀ (W : World), Below W1.heap.size W1 W → Calls Tryz.prog 44 #[.slice ao n c, .int .i64 (i0 : Int)] W fun e w' => e = .returned (.tuple #[.int .i64 (e0 : Int), .int .i64 0]) ∧ w' = W) := fun W hW => by
    have h := refEnd_any ao n c (i0 : Int) l W (by omega) (HT1.out.keep hW)
    rw [pr_end hnk, hs, he0] at h
    exact h
  have hw3 : IntKind.i64.wrap ((e0 : Int) + 1) = (e0 : Int) + 1 := by rw [IntKind.wrap_i64]; omega
  rw [hi0]
  rw [hs]
  rw [he0]
  clear hi0 hs he0 hnk hnl
  go_enter Tryz.func20, Tryz.ntmps20
  go_upto_region 1 with fail
  clear hW1 hB HT
  go_upto_region 3 with fail
  clear hz0 hz1 hz2
  go_wp2_with fail
  refine CO.out.mono ?_
  rintro e w2 ⟨rfl, hw9⟩
  have hb2 : Below W1.heap.size W1 w2 := by rw [hw9]; exact Below.refl _ _
  clear hw9
  have B2 := Hid.mk' hb2
  have J2 := Hid.mk' (J1.out.keep hb2)
  clear hb2 CO
  go_upto_region 4 with fail
  go_wp2_with fail
  refine (CST.out w2 B2.out).mono ?_
  rintro e w' ⟨rfl, hw⟩
  have hq9 := hw.symm
  subst hq9
  clear hw CST
  go_upto_region 5 with fail
  go_wp2_with fail
  refine (COW.out w2 B2.out).mono ?_
  rintro e w' ⟨rfl, hw⟩
  have hq9 := hw.symm
  subst hq9
  clear hw COW
  go_upto_region 7 with fail
  obtain ⟨Q, hQ⟩ : ∃ q, w2.heap.size = q := ⟨_, rfl⟩
  have hbx : Below w2.heap.size w2 (w2.alloc (.cells #[.slice none 0 0, .int .i64 (k : Int), .bool false, .bool false, .slice none 0 0, .int .i64 0, .bool true] 35)) := bAlloc (Below.refl _ _) _
  have KX : Hid (Blk (w2.alloc (.cells #[.slice none 0 0, .int .i64 (k : Int), .bool false, .bool false, .slice none 0 0, .int .i64 0, .bool true] 35)) Q 35 (ef7 (.slice none 0 0) (k : Int) false false (.slice none 0 0) 0 true)) := by unfold Hid; rw [← hQ]; exact Blk.new w2 35 _
  rw [hQ]
  have HQ : Hid (W1.heap.size ≤ Q) := by unfold Hid; rw [← hQ]; exact B2.out.size
  generalize w2.alloc (.cells #[.slice none 0 0, .int .i64 (k : Int), .bool false, .bool false, .slice none 0 0, .int .i64 0, .bool true] 35) = w3 at *
  have B3 := Hid.mk' (bT B2.out hbx)
  have J3 := Hid.mk' (J2.out.keep hbx)
  clear hbx hQ B2 J2
  have hJB := J1.out.lt
  have hBQ : ¬ (B = Q) := by have := HQ.out; omega
  have hbb3 := bAlloc (Below.refl w3.heap.size w3) (.cells #[.int .u8 10] 5)
  have CS := Hid.mk' (redit_any ao n c e0 e0 l (some ⟨w3.heap.size, 0, none⟩) 1 1 [10] (w3.alloc (.cells #[.int .u8 10] 5)) (HT1.out.keep (bT B3.out hbb3)) (Nat.le_refl _) hee (by omega) ((Wb.new (ten_own w3)).tx (by simp)) (by omega))
  have JJ := Hid.mk' (J3.out.keep hbb3)
  have KK := Hid.mk' (KX.out.keep hbb3)
  have BB := Hid.mk' (bT B3.out hbb3)
  clear hbb3
  go_upto_region 18 with fail
  go_wp2_with fail
  refine CS.out.mono ?_
  rintro e w5 ⟨eo, ec, F, rfl, hF, hE, hb5⟩
  obtain ⟨fn, hfn⟩ : ∃ fn, F.length = fn := ⟨_, rfl⟩
  rw [hfn]
  have HFN := Hid.mk' hfn
  have HF := Hid.mk' hF
  have E5 := Hid.mk' hE
  clear hF hE hfn
  have J5 := Hid.mk' (JJ.out.keep hb5)
  have K5 := Hid.mk' (KK.out.keep hb5)
  have B5 := Hid.mk' (bT (bT L1.out BB.out) hb5)
  clear hb5 CS KK JJ KX J3
  obtain ⟨x0, x1, x2, x3, x4, x5, x6⟩ := ef_cells K5.out
  obtain ⟨f0, f1, f2, f3, f4, f5, f6⟩ := ef_frozen K5.out
  go_upto_region 23 with fail
  have hbk := ef_set01 K5.out (.slice eo fn ec) ((e0 : Int) + 1)
  have hgr : w5.grownBy ((w5.setCell ⟨Q, 0, none⟩ (.slice eo fn ec)).setCell ⟨Q, 1, none⟩ (.int .i64 ((e0 : Int) + 1))) (some Q) := (grown_set w5 Q 0 _).trans (grown_set _ Q 1 _)
  have J6 := Hid.mk' (J5.out.off2 hgr (fun e => by injection e with e; exact hBQ e))
  have E6 := Hid.mk' (edz_offe E5.out K5.out hgr)
  have B6 := Hid.mk' (B5.out.grown hgr B5.out.size (fun g hg => by injection hg with hg; have := HQ.out; have := L1.out.size; omega))
  clear x0 x1 x2 x3 x4 x5 x6 f0 f1 f2 f3 f4 f5 f6
  generalize (w5.setCell ⟨Q, 0, none⟩ (.slice eo fn ec)).setCell ⟨Q, 1, none⟩ (.int .i64 ((e0 : Int) + 1)) = w6 at *
  have K6 := Hid.mk' hbk
  clear hbk hgr K5 J5 E5 B5
  go_upto_region 23 with fail
  obtain ⟨x0, x1, x2, x3, x4, x5, x6⟩ := ef_cells K6.out
  obtain ⟨j0, j1, j2, j3, j4, j5, j6⟩ := ef_cells J6.out
  obtain ⟨f0, f1, f2, f3, f4, f5, f6⟩ := ef_frozen J6.out
  go_wp2_with fail
  have hbk := ef_store J6.out (.slice eo fn ec) (.int .i64 ((e0 : Int) + 1)) (.bool false) (.bool false) (.slice none 0 0) (.int .i64 0) (.bool true)
  have hgr := ef_grown w6 B (.slice eo fn ec) (.int .i64 ((e0 : Int) + 1)) (.bool false) (.bool false) (.slice none 0 0) (.int .i64 0) (.bool true)
  generalize (((((((w6.setCell ⟨B, 0, none⟩ (.slice eo fn ec)).setCell ⟨B, 1, none⟩ (.int .i64 ((e0 : Int) + 1))).setCell ⟨B, 2, none⟩ (.bool false)).setCell ⟨B, 3, none⟩ (.bool false)).setCell ⟨B, 4, none⟩ (.slice none 0 0)).setCell ⟨B, 5, none⟩ (.int .i64 0)).setCell ⟨B, 6, none⟩ (.bool true)) = w9 at *
  obtain ⟨g0', g1', g2', g3', g4', g5', g6'⟩ := ef_cells hbk
  refine bodyPost_ret (v := .tuple #[.agg #[.slice eo fn ec, .int .i64 ((e0 : Int) + 1), .bool false, .bool false, .slice none 0 0, .int .i64 0, .bool true], .int .i64 0]) (by simp [results, Tryz.results20, go_sem, g0', g1', g2', g3', g4', g5', g6']) rfl ?_
  obtain rfl := HFN.out
  exact RfQ.out (x := ⟨sw l e0 e0 [10], ((e0 : Int) + 1), false, false, [], 0, true⟩) HF.out E6.out rfl J6.out B6.out hgr (by have := HB.out; omega)
set_option maxHeartbeats 8000000 in
set_option linter.unusedSimpArgs false in
theorem ren_O (ao : Option Addr) (n c k : Nat) (l : List UInt8) (s : ByteArray) (w : World) (HT : Hid (Tx w ao n c l)) (hk : k ≤ n) (hbig : n ≤ 1048576) (g0 : (s.toList == [105]) = false) (g1 : (s.toList == [82]) = false) (g2 : (s.toList == [97]) = false) (g3 : (s.toList == [73]) = false) (g4 : (s.toList == [65]) = false) (g5 : (s.toList == [111]) = false) (g6 : (s.toList == [79]) = true) :
    Calls Tryz.prog 20 #[.slice ao n c, .int .i64 (k : Int), .string s] w fun e w' => RfQ ⟨sw l (sp l (nl (l.take k))) (sp l (nl (l.take k))) [10], (sp l (nl (l.take k)) : Int), false, false, [], 0, true⟩ 0 w e w' := by
  obtain ⟨W1, hW1⟩ : ∃ x, w.alloc (.cells #[.slice none 0 0, .int .i64 0, .bool false, .bool false, .slice none 0 0, .int .i64 0, .bool false] 35) = x := ⟨_, rfl⟩
  obtain ⟨B, hB⟩ : ∃ b, w.heap.size = b := ⟨_, rfl⟩
  have HB := Hid.mk' hB
  have J1 : Hid (Blk W1 B 35 (ef7 (.slice none 0 0) 0 false false (.slice none 0 0) 0 false)) := by unfold Hid; rw [← hW1, ← hB]; exact Blk.new w 35 _
  have L1 : Hid (Below w.heap.size w W1) := by unfold Hid; rw [← hW1]; exact bAlloc (Below.refl _ _) _
  have HT1 := Hid.mk' (HT.out.keep L1.out)
  have HLN := Hid.mk' HT.out.len
  have hnl := nl_le l
  have hnk := nl_take_le l k
  rw [HLN.out] at hnl
  have hz0 : ¬ (k : Int) < 0 := by omega
  have hz1 : ¬ (k : Int) > (n : Int) := by omega
  have hz2 : ¬ (n : Int) < (k : Int) := by omega
  have CO := Hid.mk' (rof_at (ao := ao) (c := c) hk HT1.out)
  obtain ⟨i0, hi0⟩ : ∃ i, nl (l.take k) = i := ⟨_, rfl⟩
  obtain ⟨s0, hs⟩ : ∃ s, sp l i0 = s := ⟨_, rfl⟩
  rw [hi0] at CO hnk
  have hsn : s0 ≤ n := by rw [← hs, ← HLN.out]; exact sp_le hnk
  obtain ⟨e0, he0⟩ : ∃ e, en l s0 = e := ⟨_, rfl⟩
  have hee : e0 ≤ n := by rw [← he0, ← HLN.out]; exact en_le (by rw [HLN.out]; exact hsn)
  have CST : Hid (∀ W, Below W1.heap.size W1 W → Calls Tryz.prog 45 #[.slice ao n c, .int .i64 (i0 : Int)] W fun e w' => e = .returned (.tuple #[.int .i64 (s0 : Int), .int .i64 0]) ∧ w' = W) := fun W hW => by
    have h := refStart_any ao n c (i0 : Int) l W (by omega) (HT1.out.keep hW)
    rw [show pr (aStart l (i0 : Int)) = .returned (.tuple #[.int .i64 (sp l i0 : Int), .int .i64 0]) from by unfold pr aStart ans; rw [ln_at hnk]; rfl, hs] at h
    exact h
  have COW : Hid (∀ (W : World), Below W1.heap.size W1 W → Calls Tryz.prog 44 #[.slice ao n c, .int .i64 (i0 : Int)] W fun e w' => e = .returned (.tuple #[.int .i64 (e0 : Int), .int .i64 0]) ∧ w' = W) := fun W hW => by
    have h := refEnd_any ao n c (i0 : Int) l W (by omega) (HT1.out.keep hW)
    rw [pr_end hnk, hs, he0] at h
    exact h
  have hw3 : IntKind.i64.wrap ((e0 : Int) + 1) = (e0 : Int) + 1 := by rw [IntKind.wrap_i64]; omega
  rw [hi0]
  rw [hs]
  clear hi0 hs he0 hnk hnl
  go_enter Tryz.func20, Tryz.ntmps20
  go_upto_region 1 with fail
  clear hW1 hB HT
  go_upto_region 3 with fail
  clear hz0 hz1 hz2
  go_wp2_with fail
  refine CO.out.mono ?_
  rintro e w2 ⟨rfl, hw9⟩
  have hb2 : Below W1.heap.size W1 w2 := by rw [hw9]; exact Below.refl _ _
  clear hw9
  have B2 := Hid.mk' hb2
  have J2 := Hid.mk' (J1.out.keep hb2)
  clear hb2 CO
  go_upto_region 4 with fail
  go_wp2_with fail
  refine (CST.out w2 B2.out).mono ?_
  rintro e w' ⟨rfl, hw⟩
  have hq9 := hw.symm
  subst hq9
  clear hw CST
  go_upto_region 5 with fail
  go_wp2_with fail
  refine (COW.out w2 B2.out).mono ?_
  rintro e w' ⟨rfl, hw⟩
  have hq9 := hw.symm
  subst hq9
  clear hw COW
  go_upto_region 7 with fail
  obtain ⟨Q, hQ⟩ : ∃ q, w2.heap.size = q := ⟨_, rfl⟩
  have hbx : Below w2.heap.size w2 (w2.alloc (.cells #[.slice none 0 0, .int .i64 (k : Int), .bool false, .bool false, .slice none 0 0, .int .i64 0, .bool true] 35)) := bAlloc (Below.refl _ _) _
  have KX : Hid (Blk (w2.alloc (.cells #[.slice none 0 0, .int .i64 (k : Int), .bool false, .bool false, .slice none 0 0, .int .i64 0, .bool true] 35)) Q 35 (ef7 (.slice none 0 0) (k : Int) false false (.slice none 0 0) 0 true)) := by unfold Hid; rw [← hQ]; exact Blk.new w2 35 _
  rw [hQ]
  have HQ : Hid (W1.heap.size ≤ Q) := by unfold Hid; rw [← hQ]; exact B2.out.size
  generalize w2.alloc (.cells #[.slice none 0 0, .int .i64 (k : Int), .bool false, .bool false, .slice none 0 0, .int .i64 0, .bool true] 35) = w3 at *
  have B3 := Hid.mk' (bT B2.out hbx)
  have J3 := Hid.mk' (J2.out.keep hbx)
  clear hbx hQ B2 J2
  have hJB := J1.out.lt
  have hBQ : ¬ (B = Q) := by have := HQ.out; omega
  have hbb3 := bAlloc (Below.refl w3.heap.size w3) (.cells #[.int .u8 10] 5)
  have CS := Hid.mk' (redit_any ao n c s0 s0 l (some ⟨w3.heap.size, 0, none⟩) 1 1 [10] (w3.alloc (.cells #[.int .u8 10] 5)) (HT1.out.keep (bT B3.out hbb3)) (Nat.le_refl _) hsn (by omega) ((Wb.new (ten_own w3)).tx (by simp)) (by omega))
  have JJ := Hid.mk' (J3.out.keep hbb3)
  have KK := Hid.mk' (KX.out.keep hbb3)
  have BB := Hid.mk' (bT B3.out hbb3)
  clear hbb3
  go_upto_region 21 with fail
  go_wp2_with fail
  refine CS.out.mono ?_
  rintro e w5 ⟨eo, ec, F, rfl, hF, hE, hb5⟩
  obtain ⟨fn, hfn⟩ : ∃ fn, F.length = fn := ⟨_, rfl⟩
  rw [hfn]
  have HFN := Hid.mk' hfn
  have HF := Hid.mk' hF
  have E5 := Hid.mk' hE
  clear hF hE hfn
  have J5 := Hid.mk' (JJ.out.keep hb5)
  have K5 := Hid.mk' (KK.out.keep hb5)
  have B5 := Hid.mk' (bT (bT L1.out BB.out) hb5)
  clear hb5 CS KK JJ KX J3
  obtain ⟨x0, x1, x2, x3, x4, x5, x6⟩ := ef_cells K5.out
  obtain ⟨f0, f1, f2, f3, f4, f5, f6⟩ := ef_frozen K5.out
  go_upto_region 23 with fail
  have hbk := ef_set01 K5.out (.slice eo fn ec) (s0 : Int)
  have hgr : w5.grownBy ((w5.setCell ⟨Q, 0, none⟩ (.slice eo fn ec)).setCell ⟨Q, 1, none⟩ (.int .i64 (s0 : Int))) (some Q) := (grown_set w5 Q 0 _).trans (grown_set _ Q 1 _)
  have J6 := Hid.mk' (J5.out.off2 hgr (fun e => by injection e with e; exact hBQ e))
  have E6 := Hid.mk' (edz_offe E5.out K5.out hgr)
  have B6 := Hid.mk' (B5.out.grown hgr B5.out.size (fun g hg => by injection hg with hg; have := HQ.out; have := L1.out.size; omega))
  clear x0 x1 x2 x3 x4 x5 x6 f0 f1 f2 f3 f4 f5 f6
  generalize (w5.setCell ⟨Q, 0, none⟩ (.slice eo fn ec)).setCell ⟨Q, 1, none⟩ (.int .i64 (s0 : Int)) = w6 at *
  have K6 := Hid.mk' hbk
  clear hbk hgr K5 J5 E5 B5
  go_upto_region 23 with fail
  obtain ⟨x0, x1, x2, x3, x4, x5, x6⟩ := ef_cells K6.out
  obtain ⟨j0, j1, j2, j3, j4, j5, j6⟩ := ef_cells J6.out
  obtain ⟨f0, f1, f2, f3, f4, f5, f6⟩ := ef_frozen J6.out
  go_wp2_with fail
  have hbk := ef_store J6.out (.slice eo fn ec) (.int .i64 (s0 : Int)) (.bool false) (.bool false) (.slice none 0 0) (.int .i64 0) (.bool true)
  have hgr := ef_grown w6 B (.slice eo fn ec) (.int .i64 (s0 : Int)) (.bool false) (.bool false) (.slice none 0 0) (.int .i64 0) (.bool true)
  generalize (((((((w6.setCell ⟨B, 0, none⟩ (.slice eo fn ec)).setCell ⟨B, 1, none⟩ (.int .i64 (s0 : Int))).setCell ⟨B, 2, none⟩ (.bool false)).setCell ⟨B, 3, none⟩ (.bool false)).setCell ⟨B, 4, none⟩ (.slice none 0 0)).setCell ⟨B, 5, none⟩ (.int .i64 0)).setCell ⟨B, 6, none⟩ (.bool true)) = w9 at *
  obtain ⟨g0', g1', g2', g3', g4', g5', g6'⟩ := ef_cells hbk
  refine bodyPost_ret (v := .tuple #[.agg #[.slice eo fn ec, .int .i64 (s0 : Int), .bool false, .bool false, .slice none 0 0, .int .i64 0, .bool true], .int .i64 0]) (by simp [results, Tryz.results20, go_sem, g0', g1', g2', g3', g4', g5', g6']) rfl ?_
  obtain rfl := HFN.out
  exact RfQ.out (x := ⟨sw l s0 s0 [10], (s0 : Int), false, false, [], 0, true⟩) HF.out E6.out rfl J6.out B6.out hgr (by have := HB.out; omega)
set_option maxHeartbeats 8000000 in
set_option linter.unusedSimpArgs false in
theorem ren_no (ao : Option Addr) (n c k : Nat) (l : List UInt8) (s : ByteArray) (w : World) (HT : Hid (Tx w ao n c l)) (hk : k ≤ n) (hbig : n ≤ 1048576) (g0 : (s.toList == [105]) = false) (g1 : (s.toList == [82]) = false) (g2 : (s.toList == [97]) = false) (g3 : (s.toList == [73]) = false) (g4 : (s.toList == [65]) = false) (g5 : (s.toList == [111]) = false) (g6 : (s.toList == [79]) = false) :
    Calls Tryz.prog 20 #[.slice ao n c, .int .i64 (k : Int), .string s] w fun e w' => RfQ ef0 2 w e w' := by
  obtain ⟨W1, hW1⟩ : ∃ x, w.alloc (.cells #[.slice none 0 0, .int .i64 0, .bool false, .bool false, .slice none 0 0, .int .i64 0, .bool false] 35) = x := ⟨_, rfl⟩
  obtain ⟨B, hB⟩ : ∃ b, w.heap.size = b := ⟨_, rfl⟩
  have HB := Hid.mk' hB
  have J1 : Hid (Blk W1 B 35 (ef7 (.slice none 0 0) 0 false false (.slice none 0 0) 0 false)) := by unfold Hid; rw [← hW1, ← hB]; exact Blk.new w 35 _
  have L1 : Hid (Below w.heap.size w W1) := by unfold Hid; rw [← hW1]; exact bAlloc (Below.refl _ _) _
  have HT1 := Hid.mk' (HT.out.keep L1.out)
  have HLN := Hid.mk' HT.out.len
  have hnl := nl_le l
  have hnk := nl_take_le l k
  rw [HLN.out] at hnl
  have hz0 : ¬ (k : Int) < 0 := by omega
  have hz1 : ¬ (k : Int) > (n : Int) := by omega
  have hz2 : ¬ (n : Int) < (k : Int) := by omega
  have CO := Hid.mk' (rof_at (ao := ao) (c := c) hk HT1.out)
  obtain ⟨i0, hi0⟩ : ∃ i, nl (l.take k) = i := ⟨_, rfl⟩
  obtain ⟨s0, hs⟩ : ∃ s, sp l i0 = s := ⟨_, rfl⟩
  rw [hi0] at CO hnk
  have hsn : s0 ≤ n := by rw [← hs, ← HLN.out]; exact sp_le hnk
  obtain ⟨e0, he0⟩ : ∃ e, en l s0 = e := ⟨_, rfl⟩
  have hee : e0 ≤ n := by rw [← he0, ← HLN.out]; exact en_le (by rw [HLN.out]; exact hsn)
  have CST : Hid (∀ W, Below W1.heap.size W1 W → Calls Tryz.prog 45 #[.slice ao n c, .int .i64 (i0 : Int)] W fun e w' => e = .returned (.tuple #[.int .i64 (s0 : Int), .int .i64 0]) ∧ w' = W) := fun W hW => by
    have h := refStart_any ao n c (i0 : Int) l W (by omega) (HT1.out.keep hW)
    rw [show pr (aStart l (i0 : Int)) = .returned (.tuple #[.int .i64 (sp l i0 : Int), .int .i64 0]) from by unfold pr aStart ans; rw [ln_at hnk]; rfl, hs] at h
    exact h
  have COW : Hid (∀ (W : World), Below W1.heap.size W1 W → Calls Tryz.prog 44 #[.slice ao n c, .int .i64 (i0 : Int)] W fun e w' => e = .returned (.tuple #[.int .i64 (e0 : Int), .int .i64 0]) ∧ w' = W) := fun W hW => by
    have h := refEnd_any ao n c (i0 : Int) l W (by omega) (HT1.out.keep hW)
    rw [pr_end hnk, hs, he0] at h
    exact h
  have hw3 : IntKind.i64.wrap ((e0 : Int) + 1) = (e0 : Int) + 1 := by rw [IntKind.wrap_i64]; omega
  clear hi0 hs he0 hnk hnl
  go_enter Tryz.func20, Tryz.ntmps20
  go_upto_region 1 with fail
  clear hW1 hB HT
  go_upto_region 3 with fail
  clear hz0 hz1 hz2
  go_wp2_with fail
  refine CO.out.mono ?_
  rintro e w2 ⟨rfl, hw9⟩
  have hb2 : Below W1.heap.size W1 w2 := by rw [hw9]; exact Below.refl _ _
  clear hw9
  have B2 := Hid.mk' hb2
  have J2 := Hid.mk' (J1.out.keep hb2)
  clear hb2 CO
  go_upto_region 4 with fail
  go_wp2_with fail
  refine (CST.out w2 B2.out).mono ?_
  rintro e w' ⟨rfl, hw⟩
  have hq9 := hw.symm
  subst hq9
  clear hw CST
  go_upto_region 5 with fail
  go_wp2_with fail
  refine (COW.out w2 B2.out).mono ?_
  rintro e w' ⟨rfl, hw⟩
  have hq9 := hw.symm
  subst hq9
  clear hw COW
  go_upto_region 7 with fail
  obtain ⟨Q, hQ⟩ : ∃ q, w2.heap.size = q := ⟨_, rfl⟩
  have hbx : Below w2.heap.size w2 (w2.alloc (.cells #[.slice none 0 0, .int .i64 (k : Int), .bool false, .bool false, .slice none 0 0, .int .i64 0, .bool true] 35)) := bAlloc (Below.refl _ _) _
  have KX : Hid (Blk (w2.alloc (.cells #[.slice none 0 0, .int .i64 (k : Int), .bool false, .bool false, .slice none 0 0, .int .i64 0, .bool true] 35)) Q 35 (ef7 (.slice none 0 0) (k : Int) false false (.slice none 0 0) 0 true)) := by unfold Hid; rw [← hQ]; exact Blk.new w2 35 _
  rw [hQ]
  have HQ : Hid (W1.heap.size ≤ Q) := by unfold Hid; rw [← hQ]; exact B2.out.size
  generalize w2.alloc (.cells #[.slice none 0 0, .int .i64 (k : Int), .bool false, .bool false, .slice none 0 0, .int .i64 0, .bool true] 35) = w3 at *
  have B3 := Hid.mk' (bT B2.out hbx)
  have J3 := Hid.mk' (J2.out.keep hbx)
  clear hbx hQ B2 J2
  have hJB := J1.out.lt
  have hBQ : ¬ (B = Q) := by have := HQ.out; omega
  go_upto_region 8 with fail
  obtain ⟨j0, j1, j2, j3, j4, j5, j6⟩ := ef_cells J3.out
  obtain ⟨f0, f1, f2, f3, f4, f5, f6⟩ := ef_frozen J3.out
  have hbk := ef_store J3.out (.slice none 0 0) (.int .i64 0) (.bool false) (.bool false) (.slice none 0 0) (.int .i64 0) (.bool false)
  have hgr := ef_grown w3 B (.slice none 0 0) (.int .i64 0) (.bool false) (.bool false) (.slice none 0 0) (.int .i64 0) (.bool false)
  go_wp2_with fail
  generalize (((((((w3.setCell ⟨B, 0, none⟩ (.slice none 0 0)).setCell ⟨B, 1, none⟩ (.int .i64 0)).setCell ⟨B, 2, none⟩ (.bool false)).setCell ⟨B, 3, none⟩ (.bool false)).setCell ⟨B, 4, none⟩ (.slice none 0 0)).setCell ⟨B, 5, none⟩ (.int .i64 0)).setCell ⟨B, 6, none⟩ (.bool false)) = w9 at *
  obtain ⟨g0, g1, g2, g3, g4, g5, g6⟩ := ef_cells hbk
  refine bodyPost_ret (v := .tuple #[efz, .int .i64 2]) (by simp [results, efz, Tryz.results20, go_sem, g0, g1, g2, g3, g4, g5, g6]) rfl (RfQ.no ?_)
  exact (bT L1.out B3.out).grown hgr (bT L1.out B3.out).size (fun g hg => by injection hg with hg; rw [← hg, HB.out]; exact Nat.le_refl B)
theorem renter_any (ao : Option Addr) (n c : Nat) (l : List UInt8) (at' : Int) (s : ByteArray) (w : World) (HT : Hid (Tx w ao n c l)) (hbig : n ≤ 1048576) :
    Calls Tryz.prog 20 #[.slice ao n c, .int .i64 at', .string s] w fun e w' => RfQ (enX l at' s).1 (enX l at' s).2 w e w' := by
  have hln := HT.out.len
  unfold enX
  rw [hln]
  by_cases h : (0 ≤ at' ∧ at' ≤ (n : Int))
  · rw [if_neg (by simp [h])]
    obtain ⟨k, rfl⟩ := Int.eq_ofNat_of_zero_le h.1
    rw [show ((k : Int)).toNat = k from rfl]
    have hk : k ≤ n := by omega
    by_cases h0 : s.toList = [105]
    · have he : ek s = 1 := by unfold ek; rw [if_pos (Or.inl h0)]
      rw [he]
      exact ren_i ao n c k l s w HT hk hbig  (tl_yes h0)
    by_cases h1 : s.toList = [82]
    · have he : ek s = 1 := by unfold ek; rw [if_pos (Or.inr h1)]
      rw [he]
      exact ren_R ao n c k l s w HT hk hbig (tl_no h0) (tl_yes h1)
    by_cases h2 : s.toList = [97]
    · have he : ek s = 2 := by unfold ek; rw [if_neg (fun h => h.elim h0 h1), if_pos h2]
      rw [he]
      exact ren_a ao n c k l s w HT hk hbig (tl_no h0) (tl_no h1) (tl_yes h2)
    by_cases h3 : s.toList = [73]
    · have he : ek s = 3 := by unfold ek; rw [if_neg (fun h => h.elim h0 h1), if_neg h2, if_pos h3]
      rw [he]
      exact ren_I ao n c k l s w HT hk hbig (tl_no h0) (tl_no h1) (tl_no h2) (tl_yes h3)
    by_cases h4 : s.toList = [65]
    · have he : ek s = 4 := by unfold ek; rw [if_neg (fun h => h.elim h0 h1), if_neg h2, if_neg h3, if_pos h4]
      rw [he]
      exact ren_A ao n c k l s w HT hk hbig (tl_no h0) (tl_no h1) (tl_no h2) (tl_no h3) (tl_yes h4)
    by_cases h5 : s.toList = [111]
    · have he : ek s = 5 := by unfold ek; rw [if_neg (fun h => h.elim h0 h1), if_neg h2, if_neg h3, if_neg h4, if_pos h5]
      rw [he]
      exact ren_o ao n c k l s w HT hk hbig (tl_no h0) (tl_no h1) (tl_no h2) (tl_no h3) (tl_no h4) (tl_yes h5)
    by_cases h6 : s.toList = [79]
    · have he : ek s = 6 := by unfold ek; rw [if_neg (fun h => h.elim h0 h1), if_neg h2, if_neg h3, if_neg h4, if_neg h5, if_pos h6]
      rw [he]
      exact ren_O ao n c k l s w HT hk hbig (tl_no h0) (tl_no h1) (tl_no h2) (tl_no h3) (tl_no h4) (tl_no h5) (tl_yes h6)
    have he : ek s = 0 := by unfold ek; rw [if_neg (fun h => h.elim h0 h1), if_neg h2, if_neg h3, if_neg h4, if_neg h5, if_neg h6]
    rw [he]
    exact ren_no ao n c k l s w HT hk hbig (tl_no h0) (tl_no h1) (tl_no h2) (tl_no h3) (tl_no h4) (tl_no h5) (tl_no h6)
  · rw [if_pos h]
    by_cases h0 : at' < 0
    · exact ren_args0 ao n c l at' s w HT h0
    · exact ren_args1 ao n c l at' s w HT (by omega) (by omega)
end Go.Proofs.YtppefcnopkmhbaaGreatDoor
