/- Rdo -/
import Derived.Test.YtppefcnopkmhbaaGreatDoorPt32
import Derived.Test.YtppefcnopkmhbaaGreatDoorPt33
import Derived.Test.YtppefcnopkmhbaaGreatDoorPt42
import Derived.Test.YtppefcnopkmhbaaGreatDoorPt29
import Derived.Test.YtppefcnopkmhbaaGreatDoorPt43
import Derived.Test.YtppefcnopkmhbaaGreatDoorPt38
namespace Go.Proofs.YtppefcnopkmhbaaGreatDoor
open Go.RowKit

set_option maxRecDepth 8000
/-- the range's box and the register's, each in its place -/
structure Rg2 (W : World) (B G : Nat) (fF tT : Int) (L D set lin : Bool) (v : Value) : Prop where
  rg : Blk W B 28 (rgC fF tT L D)
  re : Blk W G 33 (rrC set lin v)
theorem Rg2.keep {W W' : World} {B G : Nat} {fF tT : Int} {L D set lin : Bool} {v : Value} (h : Rg2 W B G fF tT L D set lin v) (hb : Below W.heap.size W W') : Rg2 W' B G fF tT L D set lin v := ⟨h.rg.keep hb, h.re.keep hb⟩
theorem Rg2.off {W W' : World} {B G : Nat} {fF tT : Int} {L D set lin : Bool} {v : Value} (h : Rg2 W B G fF tT L D set lin v) (hne : B + 1 < G) (hg : W.grownBy W' (some (B + 1))) : Rg2 W' B G fF tT L D set lin v := ⟨h.rg.off2 hg (fun e => by injection e with e; omega), h.re.off2 hg (fun e => by injection e with e; omega)⟩
theorem hwE_tk (l : List UInt8) (f t : Nat) (L D : Bool) : hwE L (sl l f t) = hwE L (tk l f t L D) := by
  cases L with
  | true => rfl
  | false => unfold tk tkb sl; simp
theorem lnR_ok {l : List UInt8} {k : Nat} {F T : Int} {L D : Bool} : (lnR l k F T L D).2.2 = (lnO l k F T L D).2.2 ∧ ((lnO l k F T L D).2.2 = true → lnR l k F T L D = lnO l k F T L D) := by
  rw [lnR_eq]
  cases h : (lnO l k F T L D).2.2 with
  | true => rw [if_pos rfl]; exact ⟨h, fun _ => rfl⟩
  | false => rw [if_neg (by decide)]; exact ⟨rfl, fun e => by cases e⟩
/-- changed, either way -/
theorem rch_any (ao : Option Addr) (n c f t : Nat) (L D : Bool) (a b : Nat) (l : List UInt8) (xp : Option Addr) (xn xc : Nat) (w : World) (HT : Hid (Tx w ao n c l)) (HX : Hid (Tx w xp xn xc (tk l f t L D))) (hbig : n ≤ 1048576) (ha : a ≤ nl l) (hb : b ≤ nl l) (hab : a ≤ b) (hft : f ≤ t) (ht : t ≤ n) :
    Calls Tryz.prog 31 #[.slice ao n c, .agg #[.int .i64 (f : Int), .int .i64 (t : Int), .bool L, .bool D], .int .i64 (a : Int), .int .i64 (b : Int), .agg #[.bool true, .bool L, .slice xp xn xc], .int .i64 (hwE L (tk l f t L D))] w fun e w' => RfE (cEf l f t L D a b) w e w' := by
  have hl := HX.out.len
  subst hl
  unfold cEf
  cases L with
  | true =>
    rw [if_pos rfl]
    exact rch_lines ao n c f t D a b l true true xp xc _ _ w HT HX hbig ha hb hab
  | false =>
    rw [if_neg (by decide)]
    by_cases h : f = t
    · rw [if_pos h]
      exact rch_same ao n c f t D a b l true false xp xc _ _ w HT HX hbig h
    · rw [if_neg h]
      exact rch_cut ao n c f t D a b l true false xp xc _ _ w HT HX hbig hft ht h
set_option maxHeartbeats 16000000 in
set_option linter.unusedSimpArgs false in
theorem rdo_at0 (ao : Option Addr) (n c : Nat) (l : List UInt8) (at' : Int) (s : ByteArray) (fF tT : Int) (L D : Bool) (q : Int) (w : World) (HT : Hid (Tx w ao n c l)) (h : at' < 0) :
    Calls Tryz.prog 9 #[.slice ao n c, .int .i64 at', .string s, .agg #[.int .i64 fF, .int .i64 tT, .bool L, .bool D], .int .i64 q] w fun e w' => RfQ ef0 2 w e w' := by
  obtain ⟨W1, hW1⟩ : ∃ x, (w.alloc (.cells #[.int .i64 fF, .int .i64 tT, .bool L, .bool D] 28)).alloc (.cells #[.slice none 0 0, .int .i64 0, .bool false, .bool false, .slice none 0 0, .int .i64 0, .bool false] 35) = x := ⟨_, rfl⟩
  have T1 : Hid (Dob w W1 fF tT L D) := by unfold Hid; rw [← hW1]; exact Dob.new w _ _ _ _
  have HT1 := Hid.mk' (HT.out.keep T1.out.bel)
  have HLN := Hid.mk' HT.out.len
  obtain ⟨B, hB⟩ : ∃ b, w.heap.size = b := ⟨_, rfl⟩
  have HB := Hid.mk' hB
  have K1 : Hid (Blk W1 B 28 (rgC fF tT L D)) := by unfold Hid; rw [← hB]; exact T1.out.rg
  have J1 : Hid (Blk W1 (B + 1) 35 (ef7 (.slice none 0 0) 0 false false (.slice none 0 0) 0 false)) := by unfold Hid; rw [← hB]; exact T1.out.ef
  have L1 := Hid.mk' T1.out.bel
  obtain ⟨c0, c1, c2, c3⟩ := rgC_cells K1.out
  go_enter Tryz.func9, Tryz.ntmps9
  go_upto_region 1 with fail
  clear hW1 hB T1 HT
  go_upto_region 2 with fail
  obtain ⟨j0, j1, j2, j3, j4, j5, j6⟩ := ef_cells J1.out
  obtain ⟨f0, f1, f2, f3, f4, f5, f6⟩ := ef_frozen J1.out
  have hbk := ef_store J1.out (.slice none 0 0) (.int .i64 0) (.bool false) (.bool false) (.slice none 0 0) (.int .i64 0) (.bool false)
  have hgr := ef_grown W1 (B + 1) (.slice none 0 0) (.int .i64 0) (.bool false) (.bool false) (.slice none 0 0) (.int .i64 0) (.bool false)
  go_wp2_with fail
  generalize (((((((W1.setCell ⟨B + 1, 0, none⟩ (.slice none 0 0)).setCell ⟨B + 1, 1, none⟩ (.int .i64 0)).setCell ⟨B + 1, 2, none⟩ (.bool false)).setCell ⟨B + 1, 3, none⟩ (.bool false)).setCell ⟨B + 1, 4, none⟩ (.slice none 0 0)).setCell ⟨B + 1, 5, none⟩ (.int .i64 0)).setCell ⟨B + 1, 6, none⟩ (.bool false)) = w9 at *
  obtain ⟨g0, g1, g2, g3, g4, g5, g6⟩ := ef_cells hbk
  refine bodyPost_ret (v := .tuple #[efz, .int .i64 2]) (by simp [results, efz, Tryz.results9, go_sem, g0, g1, g2, g3, g4, g5, g6]) rfl (RfQ.no ?_)
  exact (bT L1.out (Below.refl W1.heap.size W1)).grown hgr (bT L1.out (Below.refl W1.heap.size W1)).size (fun g hg => by injection hg with hg; rw [← hg, HB.out]; exact Nat.le_succ B)
set_option maxHeartbeats 16000000 in
set_option linter.unusedSimpArgs false in
theorem rdo_at1 (ao : Option Addr) (n c : Nat) (l : List UInt8) (at' : Int) (s : ByteArray) (fF tT : Int) (L D : Bool) (q : Int) (w : World) (HT : Hid (Tx w ao n c l)) (h0 : 0 ≤ at') (h : (n : Int) < at') :
    Calls Tryz.prog 9 #[.slice ao n c, .int .i64 at', .string s, .agg #[.int .i64 fF, .int .i64 tT, .bool L, .bool D], .int .i64 q] w fun e w' => RfQ ef0 2 w e w' := by
  obtain ⟨W1, hW1⟩ : ∃ x, (w.alloc (.cells #[.int .i64 fF, .int .i64 tT, .bool L, .bool D] 28)).alloc (.cells #[.slice none 0 0, .int .i64 0, .bool false, .bool false, .slice none 0 0, .int .i64 0, .bool false] 35) = x := ⟨_, rfl⟩
  have T1 : Hid (Dob w W1 fF tT L D) := by unfold Hid; rw [← hW1]; exact Dob.new w _ _ _ _
  have HT1 := Hid.mk' (HT.out.keep T1.out.bel)
  have HLN := Hid.mk' HT.out.len
  obtain ⟨B, hB⟩ : ∃ b, w.heap.size = b := ⟨_, rfl⟩
  have HB := Hid.mk' hB
  have K1 : Hid (Blk W1 B 28 (rgC fF tT L D)) := by unfold Hid; rw [← hB]; exact T1.out.rg
  have J1 : Hid (Blk W1 (B + 1) 35 (ef7 (.slice none 0 0) 0 false false (.slice none 0 0) 0 false)) := by unfold Hid; rw [← hB]; exact T1.out.ef
  have L1 := Hid.mk' T1.out.bel
  obtain ⟨c0, c1, c2, c3⟩ := rgC_cells K1.out
  have hz : ¬ at' < 0 := by omega
  go_enter Tryz.func9, Tryz.ntmps9
  go_upto_region 1 with fail
  clear hW1 hB T1 HT
  go_upto_region 2 with fail
  obtain ⟨j0, j1, j2, j3, j4, j5, j6⟩ := ef_cells J1.out
  obtain ⟨f0, f1, f2, f3, f4, f5, f6⟩ := ef_frozen J1.out
  have hbk := ef_store J1.out (.slice none 0 0) (.int .i64 0) (.bool false) (.bool false) (.slice none 0 0) (.int .i64 0) (.bool false)
  have hgr := ef_grown W1 (B + 1) (.slice none 0 0) (.int .i64 0) (.bool false) (.bool false) (.slice none 0 0) (.int .i64 0) (.bool false)
  go_wp2_with fail
  generalize (((((((W1.setCell ⟨B + 1, 0, none⟩ (.slice none 0 0)).setCell ⟨B + 1, 1, none⟩ (.int .i64 0)).setCell ⟨B + 1, 2, none⟩ (.bool false)).setCell ⟨B + 1, 3, none⟩ (.bool false)).setCell ⟨B + 1, 4, none⟩ (.slice none 0 0)).setCell ⟨B + 1, 5, none⟩ (.int .i64 0)).setCell ⟨B + 1, 6, none⟩ (.bool false)) = w9 at *
  obtain ⟨g0, g1, g2, g3, g4, g5, g6⟩ := ef_cells hbk
  refine bodyPost_ret (v := .tuple #[efz, .int .i64 2]) (by simp [results, efz, Tryz.results9, go_sem, g0, g1, g2, g3, g4, g5, g6]) rfl (RfQ.no ?_)
  exact (bT L1.out (Below.refl W1.heap.size W1)).grown hgr (bT L1.out (Below.refl W1.heap.size W1)).size (fun g hg => by injection hg with hg; rw [← hg, HB.out]; exact Nat.le_succ B)
set_option maxHeartbeats 16000000 in
set_option linter.unusedSimpArgs false in
theorem rdo_unk (ao : Option Addr) (n c : Nat) (l : List UInt8) (at' : Int) (s : ByteArray) (fF tT : Int) (L D : Bool) (q : Int) (w : World) (HT : Hid (Tx w ao n c l)) (h0 : 0 ≤ at') (h : at' ≤ (n : Int)) (hs : kn s = 0) :
    Calls Tryz.prog 9 #[.slice ao n c, .int .i64 at', .string s, .agg #[.int .i64 fF, .int .i64 tT, .bool L, .bool D], .int .i64 q] w fun e w' => RfQ ef0 2 w e w' := by
  obtain ⟨W1, hW1⟩ : ∃ x, (w.alloc (.cells #[.int .i64 fF, .int .i64 tT, .bool L, .bool D] 28)).alloc (.cells #[.slice none 0 0, .int .i64 0, .bool false, .bool false, .slice none 0 0, .int .i64 0, .bool false] 35) = x := ⟨_, rfl⟩
  have T1 : Hid (Dob w W1 fF tT L D) := by unfold Hid; rw [← hW1]; exact Dob.new w _ _ _ _
  have HT1 := Hid.mk' (HT.out.keep T1.out.bel)
  have HLN := Hid.mk' HT.out.len
  obtain ⟨B, hB⟩ : ∃ b, w.heap.size = b := ⟨_, rfl⟩
  have HB := Hid.mk' hB
  have K1 : Hid (Blk W1 B 28 (rgC fF tT L D)) := by unfold Hid; rw [← hB]; exact T1.out.rg
  have J1 : Hid (Blk W1 (B + 1) 35 (ef7 (.slice none 0 0) 0 false false (.slice none 0 0) 0 false)) := by unfold Hid; rw [← hB]; exact T1.out.ef
  have L1 := Hid.mk' T1.out.bel
  obtain ⟨c0, c1, c2, c3⟩ := rgC_cells K1.out
  have hz : ¬ at' < 0 := by omega
  have hz2 : ¬ (n : Int) < at' := by omega
  have hno : s ≠ ⟨#[100]⟩ ∧ s ≠ ⟨#[99]⟩ ∧ s ≠ ⟨#[121]⟩ ∧ s ≠ ⟨#[62]⟩ ∧ s ≠ ⟨#[60]⟩ ∧ s ≠ ⟨#[103, 126]⟩ ∧ s ≠ ⟨#[103, 117]⟩ ∧ s ≠ ⟨#[103, 85]⟩ := by
    rcases kn_cases s with ⟨-, h⟩ | ⟨-, h⟩ | ⟨-, h⟩ | ⟨-, h⟩ | ⟨-, h⟩ | ⟨-, h⟩ | ⟨-, h⟩ | ⟨-, h⟩ | ⟨h, -⟩
    all_goals first | exact h | (rw [hs] at h; cases h)
  have CKN := Hid.mk' (rknown_no s W1 hno)
  go_enter Tryz.func9, Tryz.ntmps9
  go_upto_region 1 with fail
  clear hW1 hB T1 HT
  go_upto_region 2 with (first | (go_at_call 23; refine CKN.out.mono ?_; rintro e w' ⟨rfl, hw⟩; have hq9 := hw.symm; subst hq9; clear hw CKN) | fail)
  obtain ⟨j0, j1, j2, j3, j4, j5, j6⟩ := ef_cells J1.out
  obtain ⟨f0, f1, f2, f3, f4, f5, f6⟩ := ef_frozen J1.out
  have hbk := ef_store J1.out (.slice none 0 0) (.int .i64 0) (.bool false) (.bool false) (.slice none 0 0) (.int .i64 0) (.bool false)
  have hgr := ef_grown W1 (B + 1) (.slice none 0 0) (.int .i64 0) (.bool false) (.bool false) (.slice none 0 0) (.int .i64 0) (.bool false)
  go_wp2_with fail
  generalize (((((((W1.setCell ⟨B + 1, 0, none⟩ (.slice none 0 0)).setCell ⟨B + 1, 1, none⟩ (.int .i64 0)).setCell ⟨B + 1, 2, none⟩ (.bool false)).setCell ⟨B + 1, 3, none⟩ (.bool false)).setCell ⟨B + 1, 4, none⟩ (.slice none 0 0)).setCell ⟨B + 1, 5, none⟩ (.int .i64 0)).setCell ⟨B + 1, 6, none⟩ (.bool false)) = w9 at *
  obtain ⟨g0, g1, g2, g3, g4, g5, g6⟩ := ef_cells hbk
  refine bodyPost_ret (v := .tuple #[efz, .int .i64 2]) (by simp [results, efz, Tryz.results9, go_sem, g0, g1, g2, g3, g4, g5, g6]) rfl (RfQ.no ?_)
  exact (bT L1.out (Below.refl W1.heap.size W1)).grown hgr (bT L1.out (Below.refl W1.heap.size W1)).size (fun g hg => by injection hg with hg; rw [← hg, HB.out]; exact Nat.le_succ B)
set_option maxHeartbeats 16000000 in
set_option linter.unusedSimpArgs false in
theorem rdo_rows (ao : Option Addr) (n c : Nat) (l : List UInt8) (k : Nat) (s : ByteArray) (fF tT : Int) (L D : Bool) (q : Int) (w : World) (HT : Hid (Tx w ao n c l)) (hk : k ≤ n) (hbig : n ≤ 1048576) (hs : kn s ≠ 0) (h : (lnR l k fF tT L D).2.2 = false) :
    Calls Tryz.prog 9 #[.slice ao n c, .int .i64 (k : Int), .string s, .agg #[.int .i64 fF, .int .i64 tT, .bool L, .bool D], .int .i64 q] w fun e w' => RfQ ef0 2 w e w' := by
  obtain ⟨W1, hW1⟩ : ∃ x, (w.alloc (.cells #[.int .i64 fF, .int .i64 tT, .bool L, .bool D] 28)).alloc (.cells #[.slice none 0 0, .int .i64 0, .bool false, .bool false, .slice none 0 0, .int .i64 0, .bool false] 35) = x := ⟨_, rfl⟩
  have T1 : Hid (Dob w W1 fF tT L D) := by unfold Hid; rw [← hW1]; exact Dob.new w _ _ _ _
  have HT1 := Hid.mk' (HT.out.keep T1.out.bel)
  have HLN := Hid.mk' HT.out.len
  obtain ⟨B, hB⟩ : ∃ b, w.heap.size = b := ⟨_, rfl⟩
  have HB := Hid.mk' hB
  have K1 : Hid (Blk W1 B 28 (rgC fF tT L D)) := by unfold Hid; rw [← hB]; exact T1.out.rg
  have J1 : Hid (Blk W1 (B + 1) 35 (ef7 (.slice none 0 0) 0 false false (.slice none 0 0) 0 false)) := by unfold Hid; rw [← hB]; exact T1.out.ef
  have L1 := Hid.mk' T1.out.bel
  obtain ⟨c0, c1, c2, c3⟩ := rgC_cells K1.out
  have hz : ¬ (k : Int) < 0 := by omega
  have hz2 : ¬ (n : Int) < (k : Int) := by omega
  have CKN := Hid.mk' (rknown_yes s W1 hs)
  have CR := Hid.mk' (rrows_any ao n c k l fF tT L D W1 HT1 hk hbig)
  go_enter Tryz.func9, Tryz.ntmps9
  go_upto_region 1 with fail
  clear hW1 hB T1 HT
  go_upto_region 3 with (first | (go_at_call 23; refine CKN.out.mono ?_; rintro e w' ⟨rfl, hw⟩; have hq9 := hw.symm; subst hq9; clear hw CKN) | fail)
  clear hz hz2
  go_wp2_with fail
  refine CR.out.mono ?_
  rintro e w2 ⟨rfl, hb2⟩
  have B2 := Hid.mk' hb2
  have J2 := Hid.mk' (J1.out.keep hb2)
  have K2 := Hid.mk' (K1.out.keep hb2)
  clear hb2 CR c0 c1 c2 c3
  obtain ⟨c0, c1, c2, c3⟩ := rgC_cells K2.out
  obtain ⟨⟨ra, rb, rk⟩, hr⟩ : ∃ x, lnR l k fF tT L D = x := ⟨_, rfl⟩
  rw [hr] at h ⊢
  dsimp only at h
  subst h
  unfold lnV
  dsimp only
  go_upto_region 5 with fail
  obtain ⟨j0, j1, j2, j3, j4, j5, j6⟩ := ef_cells J2.out
  obtain ⟨f0, f1, f2, f3, f4, f5, f6⟩ := ef_frozen J2.out
  have hbk := ef_store J2.out (.slice none 0 0) (.int .i64 0) (.bool false) (.bool false) (.slice none 0 0) (.int .i64 0) (.bool false)
  have hgr := ef_grown w2 (B + 1) (.slice none 0 0) (.int .i64 0) (.bool false) (.bool false) (.slice none 0 0) (.int .i64 0) (.bool false)
  go_wp2_with fail
  generalize (((((((w2.setCell ⟨B + 1, 0, none⟩ (.slice none 0 0)).setCell ⟨B + 1, 1, none⟩ (.int .i64 0)).setCell ⟨B + 1, 2, none⟩ (.bool false)).setCell ⟨B + 1, 3, none⟩ (.bool false)).setCell ⟨B + 1, 4, none⟩ (.slice none 0 0)).setCell ⟨B + 1, 5, none⟩ (.int .i64 0)).setCell ⟨B + 1, 6, none⟩ (.bool false)) = w9 at *
  obtain ⟨g0, g1, g2, g3, g4, g5, g6⟩ := ef_cells hbk
  refine bodyPost_ret (v := .tuple #[efz, .int .i64 2]) (by simp [results, efz, Tryz.results9, go_sem, g0, g1, g2, g3, g4, g5, g6]) rfl (RfQ.no ?_)
  exact (bT L1.out B2.out).grown hgr (bT L1.out B2.out).size (fun g hg => by injection hg with hg; rw [← hg, HB.out]; exact Nat.le_succ B)
set_option maxHeartbeats 16000000 in
set_option linter.unusedSimpArgs false in
theorem rdo_cnt0 (ao : Option Addr) (n c : Nat) (l : List UInt8) (k : Nat) (s : ByteArray) (fF tT : Int) (L D : Bool) (q : Int) (w : World) (HT : Hid (Tx w ao n c l)) (hk : k ≤ n) (hbig : n ≤ 1048576) (hs : kn s ≠ 0) (h : (lnR l k fF tT L D).2.2 = true) (hq : q < 1) :
    Calls Tryz.prog 9 #[.slice ao n c, .int .i64 (k : Int), .string s, .agg #[.int .i64 fF, .int .i64 tT, .bool L, .bool D], .int .i64 q] w fun e w' => RfQ ef0 2 w e w' := by
  obtain ⟨W1, hW1⟩ : ∃ x, (w.alloc (.cells #[.int .i64 fF, .int .i64 tT, .bool L, .bool D] 28)).alloc (.cells #[.slice none 0 0, .int .i64 0, .bool false, .bool false, .slice none 0 0, .int .i64 0, .bool false] 35) = x := ⟨_, rfl⟩
  have T1 : Hid (Dob w W1 fF tT L D) := by unfold Hid; rw [← hW1]; exact Dob.new w _ _ _ _
  have HT1 := Hid.mk' (HT.out.keep T1.out.bel)
  have HLN := Hid.mk' HT.out.len
  obtain ⟨B, hB⟩ : ∃ b, w.heap.size = b := ⟨_, rfl⟩
  have HB := Hid.mk' hB
  have K1 : Hid (Blk W1 B 28 (rgC fF tT L D)) := by unfold Hid; rw [← hB]; exact T1.out.rg
  have J1 : Hid (Blk W1 (B + 1) 35 (ef7 (.slice none 0 0) 0 false false (.slice none 0 0) 0 false)) := by unfold Hid; rw [← hB]; exact T1.out.ef
  have L1 := Hid.mk' T1.out.bel
  obtain ⟨c0, c1, c2, c3⟩ := rgC_cells K1.out
  have hz : ¬ (k : Int) < 0 := by omega
  have hz2 : ¬ (n : Int) < (k : Int) := by omega
  have CKN := Hid.mk' (rknown_yes s W1 hs)
  have CR := Hid.mk' (rrows_any ao n c k l fF tT L D W1 HT1 hk hbig)
  go_enter Tryz.func9, Tryz.ntmps9
  go_upto_region 1 with fail
  clear hW1 hB T1 HT
  go_upto_region 3 with (first | (go_at_call 23; refine CKN.out.mono ?_; rintro e w' ⟨rfl, hw⟩; have hq9 := hw.symm; subst hq9; clear hw CKN) | fail)
  clear hz hz2
  go_wp2_with fail
  refine CR.out.mono ?_
  rintro e w2 ⟨rfl, hb2⟩
  have B2 := Hid.mk' hb2
  have J2 := Hid.mk' (J1.out.keep hb2)
  have K2 := Hid.mk' (K1.out.keep hb2)
  clear hb2 CR c0 c1 c2 c3
  obtain ⟨c0, c1, c2, c3⟩ := rgC_cells K2.out
  obtain ⟨⟨ra, rb, rk⟩, hr⟩ : ∃ x, lnR l k fF tT L D = x := ⟨_, rfl⟩
  rw [hr] at h ⊢
  dsimp only at h
  subst h
  unfold lnV
  dsimp only
  go_upto_region 5 with fail
  obtain ⟨j0, j1, j2, j3, j4, j5, j6⟩ := ef_cells J2.out
  obtain ⟨f0, f1, f2, f3, f4, f5, f6⟩ := ef_frozen J2.out
  have hbk := ef_store J2.out (.slice none 0 0) (.int .i64 0) (.bool false) (.bool false) (.slice none 0 0) (.int .i64 0) (.bool false)
  have hgr := ef_grown w2 (B + 1) (.slice none 0 0) (.int .i64 0) (.bool false) (.bool false) (.slice none 0 0) (.int .i64 0) (.bool false)
  go_wp2_with fail
  generalize (((((((w2.setCell ⟨B + 1, 0, none⟩ (.slice none 0 0)).setCell ⟨B + 1, 1, none⟩ (.int .i64 0)).setCell ⟨B + 1, 2, none⟩ (.bool false)).setCell ⟨B + 1, 3, none⟩ (.bool false)).setCell ⟨B + 1, 4, none⟩ (.slice none 0 0)).setCell ⟨B + 1, 5, none⟩ (.int .i64 0)).setCell ⟨B + 1, 6, none⟩ (.bool false)) = w9 at *
  obtain ⟨g0, g1, g2, g3, g4, g5, g6⟩ := ef_cells hbk
  refine bodyPost_ret (v := .tuple #[efz, .int .i64 2]) (by simp [results, efz, Tryz.results9, go_sem, g0, g1, g2, g3, g4, g5, g6]) rfl (RfQ.no ?_)
  exact (bT L1.out B2.out).grown hgr (bT L1.out B2.out).size (fun g hg => by injection hg with hg; rw [← hg, HB.out]; exact Nat.le_succ B)
set_option maxHeartbeats 16000000 in
set_option linter.unusedSimpArgs false in
theorem rdo_cnt1 (ao : Option Addr) (n c : Nat) (l : List UInt8) (k : Nat) (s : ByteArray) (fF tT : Int) (L D : Bool) (q : Int) (w : World) (HT : Hid (Tx w ao n c l)) (hk : k ≤ n) (hbig : n ≤ 1048576) (hs : kn s ≠ 0) (h : (lnR l k fF tT L D).2.2 = true) (_hq0 : 1 ≤ q) (hq : (9999 : Int) < q) :
    Calls Tryz.prog 9 #[.slice ao n c, .int .i64 (k : Int), .string s, .agg #[.int .i64 fF, .int .i64 tT, .bool L, .bool D], .int .i64 q] w fun e w' => RfQ ef0 2 w e w' := by
  obtain ⟨W1, hW1⟩ : ∃ x, (w.alloc (.cells #[.int .i64 fF, .int .i64 tT, .bool L, .bool D] 28)).alloc (.cells #[.slice none 0 0, .int .i64 0, .bool false, .bool false, .slice none 0 0, .int .i64 0, .bool false] 35) = x := ⟨_, rfl⟩
  have T1 : Hid (Dob w W1 fF tT L D) := by unfold Hid; rw [← hW1]; exact Dob.new w _ _ _ _
  have HT1 := Hid.mk' (HT.out.keep T1.out.bel)
  have HLN := Hid.mk' HT.out.len
  obtain ⟨B, hB⟩ : ∃ b, w.heap.size = b := ⟨_, rfl⟩
  have HB := Hid.mk' hB
  have K1 : Hid (Blk W1 B 28 (rgC fF tT L D)) := by unfold Hid; rw [← hB]; exact T1.out.rg
  have J1 : Hid (Blk W1 (B + 1) 35 (ef7 (.slice none 0 0) 0 false false (.slice none 0 0) 0 false)) := by unfold Hid; rw [← hB]; exact T1.out.ef
  have L1 := Hid.mk' T1.out.bel
  obtain ⟨c0, c1, c2, c3⟩ := rgC_cells K1.out
  have hz : ¬ (k : Int) < 0 := by omega
  have hz2 : ¬ (n : Int) < (k : Int) := by omega
  have CKN := Hid.mk' (rknown_yes s W1 hs)
  have CR := Hid.mk' (rrows_any ao n c k l fF tT L D W1 HT1 hk hbig)
  go_enter Tryz.func9, Tryz.ntmps9
  go_upto_region 1 with fail
  clear hW1 hB T1 HT
  go_upto_region 3 with (first | (go_at_call 23; refine CKN.out.mono ?_; rintro e w' ⟨rfl, hw⟩; have hq9 := hw.symm; subst hq9; clear hw CKN) | fail)
  clear hz hz2
  go_wp2_with fail
  refine CR.out.mono ?_
  rintro e w2 ⟨rfl, hb2⟩
  have B2 := Hid.mk' hb2
  have J2 := Hid.mk' (J1.out.keep hb2)
  have K2 := Hid.mk' (K1.out.keep hb2)
  clear hb2 CR c0 c1 c2 c3
  obtain ⟨c0, c1, c2, c3⟩ := rgC_cells K2.out
  obtain ⟨⟨ra, rb, rk⟩, hr⟩ : ∃ x, lnR l k fF tT L D = x := ⟨_, rfl⟩
  rw [hr] at h ⊢
  dsimp only at h
  subst h
  unfold lnV
  dsimp only
  have hq3 : ¬ q < 1 := by omega
  go_upto_region 5 with fail
  obtain ⟨j0, j1, j2, j3, j4, j5, j6⟩ := ef_cells J2.out
  obtain ⟨f0, f1, f2, f3, f4, f5, f6⟩ := ef_frozen J2.out
  have hbk := ef_store J2.out (.slice none 0 0) (.int .i64 0) (.bool false) (.bool false) (.slice none 0 0) (.int .i64 0) (.bool false)
  have hgr := ef_grown w2 (B + 1) (.slice none 0 0) (.int .i64 0) (.bool false) (.bool false) (.slice none 0 0) (.int .i64 0) (.bool false)
  go_wp2_with fail
  generalize (((((((w2.setCell ⟨B + 1, 0, none⟩ (.slice none 0 0)).setCell ⟨B + 1, 1, none⟩ (.int .i64 0)).setCell ⟨B + 1, 2, none⟩ (.bool false)).setCell ⟨B + 1, 3, none⟩ (.bool false)).setCell ⟨B + 1, 4, none⟩ (.slice none 0 0)).setCell ⟨B + 1, 5, none⟩ (.int .i64 0)).setCell ⟨B + 1, 6, none⟩ (.bool false)) = w9 at *
  obtain ⟨g0, g1, g2, g3, g4, g5, g6⟩ := ef_cells hbk
  refine bodyPost_ret (v := .tuple #[efz, .int .i64 2]) (by simp [results, efz, Tryz.results9, go_sem, g0, g1, g2, g3, g4, g5, g6]) rfl (RfQ.no ?_)
  exact (bT L1.out B2.out).grown hgr (bT L1.out B2.out).size (fun g hg => by injection hg with hg; rw [← hg, HB.out]; exact Nat.le_succ B)
set_option maxHeartbeats 16000000 in
set_option linter.unusedSimpArgs false in
theorem rdo_idle0 (ao : Option Addr) (n c : Nat) (l : List UInt8) (k : Nat) (s : ByteArray) (fF tT : Int) (L D : Bool) (q : Int) (w : World) (HT : Hid (Tx w ao n c l)) (hk : k ≤ n) (hbig : n ≤ 1048576) (hs : kn s ≠ 0) (h : (lnR l k fF tT L D).2.2 = true) (hq0 : 1 ≤ q) (hq : q ≤ 9999) (he : fF = tT) (hL : L = false) (hsc : (s.toList == [99]) = false) :
    Calls Tryz.prog 9 #[.slice ao n c, .int .i64 (k : Int), .string s, .agg #[.int .i64 fF, .int .i64 tT, .bool L, .bool D], .int .i64 q] w fun e w' => RfQ ef0 190 w e w' := by
  obtain ⟨W1, hW1⟩ : ∃ x, (w.alloc (.cells #[.int .i64 fF, .int .i64 tT, .bool L, .bool D] 28)).alloc (.cells #[.slice none 0 0, .int .i64 0, .bool false, .bool false, .slice none 0 0, .int .i64 0, .bool false] 35) = x := ⟨_, rfl⟩
  have T1 : Hid (Dob w W1 fF tT L D) := by unfold Hid; rw [← hW1]; exact Dob.new w _ _ _ _
  have HT1 := Hid.mk' (HT.out.keep T1.out.bel)
  have HLN := Hid.mk' HT.out.len
  obtain ⟨B, hB⟩ : ∃ b, w.heap.size = b := ⟨_, rfl⟩
  have HB := Hid.mk' hB
  have K1 : Hid (Blk W1 B 28 (rgC fF tT L D)) := by unfold Hid; rw [← hB]; exact T1.out.rg
  have J1 : Hid (Blk W1 (B + 1) 35 (ef7 (.slice none 0 0) 0 false false (.slice none 0 0) 0 false)) := by unfold Hid; rw [← hB]; exact T1.out.ef
  have L1 := Hid.mk' T1.out.bel
  obtain ⟨c0, c1, c2, c3⟩ := rgC_cells K1.out
  subst he
  subst hL
  have hz : ¬ (k : Int) < 0 := by omega
  have hz2 : ¬ (n : Int) < (k : Int) := by omega
  have CKN := Hid.mk' (rknown_yes s W1 hs)
  have CR := Hid.mk' (rrows_any ao n c k l fF fF false D W1 HT1 hk hbig)
  go_enter Tryz.func9, Tryz.ntmps9
  go_upto_region 1 with fail
  clear hW1 hB T1 HT
  go_upto_region 3 with (first | (go_at_call 23; refine CKN.out.mono ?_; rintro e w' ⟨rfl, hw⟩; have hq9 := hw.symm; subst hq9; clear hw CKN) | fail)
  clear hz hz2
  go_wp2_with fail
  refine CR.out.mono ?_
  rintro e w2 ⟨rfl, hb2⟩
  have B2 := Hid.mk' hb2
  have J2 := Hid.mk' (J1.out.keep hb2)
  have K2 := Hid.mk' (K1.out.keep hb2)
  clear hb2 CR c0 c1 c2 c3
  obtain ⟨c0, c1, c2, c3⟩ := rgC_cells K2.out
  obtain ⟨⟨ra, rb, rk⟩, hr⟩ : ∃ x, lnR l k fF fF false D = x := ⟨_, rfl⟩
  rw [hr] at h ⊢
  dsimp only at h
  subst h
  unfold lnV
  dsimp only
  have hq3 : ¬ q < 1 := by omega
  have hq4 : ¬ (9999 : Int) < q := by omega
  go_upto_region 7 with fail
  obtain ⟨j0, j1, j2, j3, j4, j5, j6⟩ := ef_cells J2.out
  obtain ⟨f0, f1, f2, f3, f4, f5, f6⟩ := ef_frozen J2.out
  have hbk := ef_store J2.out (.slice none 0 0) (.int .i64 0) (.bool false) (.bool false) (.slice none 0 0) (.int .i64 0) (.bool false)
  have hgr := ef_grown w2 (B + 1) (.slice none 0 0) (.int .i64 0) (.bool false) (.bool false) (.slice none 0 0) (.int .i64 0) (.bool false)
  go_wp2_with fail
  generalize (((((((w2.setCell ⟨B + 1, 0, none⟩ (.slice none 0 0)).setCell ⟨B + 1, 1, none⟩ (.int .i64 0)).setCell ⟨B + 1, 2, none⟩ (.bool false)).setCell ⟨B + 1, 3, none⟩ (.bool false)).setCell ⟨B + 1, 4, none⟩ (.slice none 0 0)).setCell ⟨B + 1, 5, none⟩ (.int .i64 0)).setCell ⟨B + 1, 6, none⟩ (.bool false)) = w9 at *
  obtain ⟨g0, g1, g2, g3, g4, g5, g6⟩ := ef_cells hbk
  refine bodyPost_ret (v := .tuple #[efz, .int .i64 190]) (by simp [results, efz, Tryz.results9, go_sem, g0, g1, g2, g3, g4, g5, g6]) rfl (RfQ.no ?_)
  exact (bT L1.out B2.out).grown hgr (bT L1.out B2.out).size (fun g hg => by injection hg with hg; rw [← hg, HB.out]; exact Nat.le_succ B)
set_option maxHeartbeats 16000000 in
set_option linter.unusedSimpArgs false in
theorem rdo_idle1 (ao : Option Addr) (n c : Nat) (l : List UInt8) (k : Nat) (s : ByteArray) (fF tT : Int) (L D : Bool) (q : Int) (w : World) (HT : Hid (Tx w ao n c l)) (hk : k ≤ n) (hbig : n ≤ 1048576) (hs : kn s ≠ 0) (h : (lnR l k fF tT L D).2.2 = true) (hq0 : 1 ≤ q) (hq : q ≤ 9999) (he : fF = tT) (hL : L = true) (hsd : (s.toList == [100]) = true) :
    Calls Tryz.prog 9 #[.slice ao n c, .int .i64 (k : Int), .string s, .agg #[.int .i64 fF, .int .i64 tT, .bool L, .bool D], .int .i64 q] w fun e w' => RfQ ef0 190 w e w' := by
  obtain ⟨W1, hW1⟩ : ∃ x, (w.alloc (.cells #[.int .i64 fF, .int .i64 tT, .bool L, .bool D] 28)).alloc (.cells #[.slice none 0 0, .int .i64 0, .bool false, .bool false, .slice none 0 0, .int .i64 0, .bool false] 35) = x := ⟨_, rfl⟩
  have T1 : Hid (Dob w W1 fF tT L D) := by unfold Hid; rw [← hW1]; exact Dob.new w _ _ _ _
  have HT1 := Hid.mk' (HT.out.keep T1.out.bel)
  have HLN := Hid.mk' HT.out.len
  obtain ⟨B, hB⟩ : ∃ b, w.heap.size = b := ⟨_, rfl⟩
  have HB := Hid.mk' hB
  have K1 : Hid (Blk W1 B 28 (rgC fF tT L D)) := by unfold Hid; rw [← hB]; exact T1.out.rg
  have J1 : Hid (Blk W1 (B + 1) 35 (ef7 (.slice none 0 0) 0 false false (.slice none 0 0) 0 false)) := by unfold Hid; rw [← hB]; exact T1.out.ef
  have L1 := Hid.mk' T1.out.bel
  obtain ⟨c0, c1, c2, c3⟩ := rgC_cells K1.out
  subst he
  subst hL
  have hz : ¬ (k : Int) < 0 := by omega
  have hz2 : ¬ (n : Int) < (k : Int) := by omega
  have CKN := Hid.mk' (rknown_yes s W1 hs)
  have CR := Hid.mk' (rrows_any ao n c k l fF fF true D W1 HT1 hk hbig)
  go_enter Tryz.func9, Tryz.ntmps9
  go_upto_region 1 with fail
  clear hW1 hB T1 HT
  go_upto_region 3 with (first | (go_at_call 23; refine CKN.out.mono ?_; rintro e w' ⟨rfl, hw⟩; have hq9 := hw.symm; subst hq9; clear hw CKN) | fail)
  clear hz hz2
  go_wp2_with fail
  refine CR.out.mono ?_
  rintro e w2 ⟨rfl, hb2⟩
  have B2 := Hid.mk' hb2
  have J2 := Hid.mk' (J1.out.keep hb2)
  have K2 := Hid.mk' (K1.out.keep hb2)
  clear hb2 CR c0 c1 c2 c3
  obtain ⟨c0, c1, c2, c3⟩ := rgC_cells K2.out
  obtain ⟨⟨ra, rb, rk⟩, hr⟩ : ∃ x, lnR l k fF fF true D = x := ⟨_, rfl⟩
  rw [hr] at h ⊢
  dsimp only at h
  subst h
  unfold lnV
  dsimp only
  have hq3 : ¬ q < 1 := by omega
  have hq4 : ¬ (9999 : Int) < q := by omega
  go_upto_region 7 with fail
  obtain ⟨j0, j1, j2, j3, j4, j5, j6⟩ := ef_cells J2.out
  obtain ⟨f0, f1, f2, f3, f4, f5, f6⟩ := ef_frozen J2.out
  have hbk := ef_store J2.out (.slice none 0 0) (.int .i64 0) (.bool false) (.bool false) (.slice none 0 0) (.int .i64 0) (.bool false)
  have hgr := ef_grown w2 (B + 1) (.slice none 0 0) (.int .i64 0) (.bool false) (.bool false) (.slice none 0 0) (.int .i64 0) (.bool false)
  go_wp2_with fail
  generalize (((((((w2.setCell ⟨B + 1, 0, none⟩ (.slice none 0 0)).setCell ⟨B + 1, 1, none⟩ (.int .i64 0)).setCell ⟨B + 1, 2, none⟩ (.bool false)).setCell ⟨B + 1, 3, none⟩ (.bool false)).setCell ⟨B + 1, 4, none⟩ (.slice none 0 0)).setCell ⟨B + 1, 5, none⟩ (.int .i64 0)).setCell ⟨B + 1, 6, none⟩ (.bool false)) = w9 at *
  obtain ⟨g0, g1, g2, g3, g4, g5, g6⟩ := ef_cells hbk
  refine bodyPost_ret (v := .tuple #[efz, .int .i64 190]) (by simp [results, efz, Tryz.results9, go_sem, g0, g1, g2, g3, g4, g5, g6]) rfl (RfQ.no ?_)
  exact (bT L1.out B2.out).grown hgr (bT L1.out B2.out).size (fun g hg => by injection hg with hg; rw [← hg, HB.out]; exact Nat.le_succ B)
set_option maxHeartbeats 16000000 in
set_option linter.unusedSimpArgs false in
theorem rdo_main (ao : Option Addr) (n c : Nat) (l : List UInt8) (k : Nat) (s : ByteArray) (f t : Nat) (L D : Bool) (a b q : Nat) (w : World) (HT : Hid (Tx w ao n c l)) (hk : k ≤ n) (hbig : n ≤ 65536) (hs : kn s ≠ 0) (hR : lnR l k (f : Int) (t : Int) L D = ((a : Int), (b : Int), true)) (hft : f ≤ t) (htn : t ≤ n) (hab : a ≤ b) (hbn : b ≤ nl l) (hrg : rgB l (f : Int) (t : Int) L D = true) (hq0 : 1 ≤ q) (hq : q ≤ 9999) (isd isc : Bool) (hsd : (s.toList == [100]) = isd) (hsc : (s.toList == [99]) = isc) (hni : ¬ (f = t ∧ idl isd isc L = true)) :
    Calls Tryz.prog 9 #[.slice ao n c, .int .i64 (k : Int), .string s, .agg #[.int .i64 (f : Int), .int .i64 (t : Int), .bool L, .bool D], .int .i64 (q : Int)] w fun e w' => RfQ (opX l k (kn s) f t L D a b q).1 (opX l k (kn s) f t L D a b q).2 w e w' := by
  obtain ⟨W1, hW1⟩ : ∃ x, (w.alloc (.cells #[.int .i64 (f : Int), .int .i64 (t : Int), .bool L, .bool D] 28)).alloc (.cells #[.slice none 0 0, .int .i64 0, .bool false, .bool false, .slice none 0 0, .int .i64 0, .bool false] 35) = x := ⟨_, rfl⟩
  have T1 : Hid (Dob w W1 (f : Int) (t : Int) L D) := by unfold Hid; rw [← hW1]; exact Dob.new w _ _ _ _
  have HT1 := Hid.mk' (HT.out.keep T1.out.bel)
  have HLN := Hid.mk' HT.out.len
  obtain ⟨B, hB⟩ : ∃ b, w.heap.size = b := ⟨_, rfl⟩
  have HB := Hid.mk' hB
  have K1 : Hid (Blk W1 B 28 (rgC (f : Int) (t : Int) L D)) := by unfold Hid; rw [← hB]; exact T1.out.rg
  have J1 : Hid (Blk W1 (B + 1) 35 (ef7 (.slice none 0 0) 0 false false (.slice none 0 0) 0 false)) := by unfold Hid; rw [← hB]; exact T1.out.ef
  have L1 := Hid.mk' T1.out.bel
  obtain ⟨c0, c1, c2, c3⟩ := rgC_cells K1.out
  have HRG := Hid.mk' hrg
  have HRR := Hid.mk' hR
  have HNI := Hid.mk' hni
  have HSD := Hid.mk' hsd
  have HSC := Hid.mk' hsc
  clear hrg hR hni hsd hsc
  have hnl := nl_le l
  rw [HLN.out] at hnl
  have hz : ¬ (k : Int) < 0 := by omega
  have hz2 : ¬ (n : Int) < (k : Int) := by omega
  have CKN := Hid.mk' (rknown_yes s W1 hs)
  have CR := Hid.mk' (rrows_any ao n c k l (f : Int) (t : Int) L D W1 HT1 hk (by omega))
  go_enter Tryz.func9, Tryz.ntmps9
  go_upto_region 1 with fail
  clear hW1 hB T1 HT
  go_upto_region 3 with (first | (go_at_call 23; refine CKN.out.mono ?_; rintro e w' ⟨rfl, hw⟩; have hq9 := hw.symm; subst hq9; clear hw CKN) | fail)
  clear hz hz2
  go_wp2_with fail
  refine CR.out.mono ?_
  rintro e w2 ⟨rfl, hb2⟩
  have B2 := Hid.mk' hb2
  have J2 := Hid.mk' (J1.out.keep hb2)
  have K2 := Hid.mk' (K1.out.keep hb2)
  clear hb2 CR c0 c1 c2 c3
  obtain ⟨c0, c1, c2, c3⟩ := rgC_cells K2.out
  rw [HRR.out]
  unfold lnV
  dsimp only
  have hq3 : ¬ (q : Int) < 1 := by omega
  have hq4 : ¬ (9999 : Int) < (q : Int) := by omega
  clear HRR
  go_upto_region 6 with fail
  clear hq3 hq4
  go_cut [78] from 57 to 77 (fun x78 wx => x78 = .bool false ∧ w2 = wx)
  case first =>
    have hsd := HSD.out
    have hsc := HSC.out
    have hni := HNI.out
    unfold idl at hni
    by_cases hft9 : f = t
    · subst hft9
      cases L with
      | false =>
        have hi9 : isc = true := by cases isc with
          | true => rfl
          | false => exact absurd ⟨rfl, rfl⟩ hni
        rw [hi9] at hsc
        clear hni
        go_wp2_with fail
        go_meet
        exact ⟨rfl, rfl⟩
      | true =>
        have hi9 : isd = false := by cases isd with
          | false => rfl
          | true => exact absurd ⟨rfl, rfl⟩ hni
        rw [hi9] at hsd
        clear hni
        go_wp2_with fail
        go_meet
        exact ⟨rfl, rfl⟩
    · have hne1 : ((f : Int) == (t : Int)) = false := beq_eq_false_iff_ne.2 (by omega)
      have hne2 : ¬ (f : Int) = (t : Int) := by omega
      clear hni
      go_wp2_with fail
      go_meet
      exact ⟨rfl, rfl⟩
  case rest =>
    obtain ⟨rfl, rfl⟩ := hcut
    have CT := Hid.mk' (rtake_yes ao n c f t L D l w2 (by omega) HRG.out (Hid.mk' (HT1.out.keep B2.out)))
    clear HNI HSD HSC
    go_upto_region 8 with fail
    go_wp2_with fail
    refine CT.out.mono ?_
    rintro e w3 ⟨v3, rfl, hO3, hb3⟩
    unfold tr
    dsimp only
    obtain ⟨p3, d3, rfl⟩ := own_shape hO3
    have hxb : (tk l f t L D).length ≤ 65537 := by
      have h1 : (tkb l f t (L && D)).length ≤ n := by unfold tkb; rw [List.length_take, List.length_drop, HLN.out]; omega
      unfold tk
      split
      · rw [List.length_append]; simp; omega
      · omega
    have T3 := Hid.mk' (own_tx' hO3 (by omega))
    obtain ⟨X, hX⟩ : ∃ X, tk l f t L D = X := ⟨_, rfl⟩
    obtain ⟨xn, hxn⟩ : ∃ x, X.length = x := ⟨_, rfl⟩
    rw [hX, hxn] at T3
    rw [hX, hxn]
    have HXE := Hid.mk' hX
    have HXN := Hid.mk' hxn
    have B3 := Hid.mk' (bT B2.out hb3)
    have K3 := Hid.mk' (K2.out.keep hb3)
    have J3 := Hid.mk' (J2.out.keep hb3)
    clear CT hO3 hb3 hX hxn hxb c0 c1 c2 c3
    obtain ⟨w4, hw4⟩ : ∃ x, w3.alloc (.cells #[.bool true, .bool L, .slice p3 xn d3] 33) = x := ⟨_, rfl⟩
    obtain ⟨G, hG⟩ : ∃ g, w3.heap.size = g := ⟨_, rfl⟩
    have hb4 : Below w3.heap.size w3 w4 := by rw [← hw4]; exact bAlloc (Below.refl _ _) _
    have S4 : Hid (Rg2 w4 B G (f : Int) (t : Int) L D true L (.slice p3 xn d3)) := by unfold Hid; refine ⟨K3.out.keep hb4, ?_⟩; rw [← hw4, ← hG]; exact Blk.new w3 33 _
    have HG : Hid (B + 1 < G) := by unfold Hid; rw [← hG]; exact J3.out.lt
    have J4 := Hid.mk' (J3.out.keep hb4)
    have B4 := Hid.mk' (bT B3.out hb4)
    have T4 := Hid.mk' (T3.out.keep hb4)
    clear hb4 K3 J3 B3 T3 K2
    obtain ⟨a9, c9, hs9, hT9⟩ := sl_both (HT1.out.keep B4.out) hft htn
    go_upto_region 9 with fail
    clear hw4 hG
    have hdw : Below w4.heap.size w4 w4.drew := (Below.refl _ _).drew
    have SZ : Hid (Rg2 w4.drew B G (f : Int) (t : Int) L D true L (.slice p3 xn d3)) := S4.out.keep hdw
    have JZ := Hid.mk' (J4.out.keep hdw)
    have TZ := Hid.mk' (T4.out.keep hdw)
    have BZ := Hid.mk' (bT B4.out hdw)
    clear hdw
    have hs9' := fun W => hs9 W
    have HTS : Hid (Tx w4.drew a9 (t - f) c9 (sl l f t)) := (hT9 _ (HT1.out.keep BZ.out))
    clear hT9
    refine wp_region_held (S := fun w' => Rg2 w' B G (f : Int) (t : Int) L D true L (.slice p3 xn d3)) (by kernel_rfl) ?_
    change wpAnyH _ _ _ _ _ _ _ _ (World.drew _)
    generalize w4.drew = V0 at *
    refine wpAnyH_take (i := 0) (v := .slice ao n c) rfl (by kernel_rfl) (by kernel_rfl) (by kernel_rfl) (fun _ _ _ h => h) (Yields.yieldsIf (Or.inl ⟨by rfl, fun w => by go_simp⟩)) SZ.out ?_
    try simp only [Act.put, List.getElem_toArray, List.getElem_cons_zero, List.getElem_cons_succ, List.setIfInBounds_toArray, List.set_cons_zero, List.set_cons_succ]
    refine wpAnyH_take (i := 1) (v := .pointer (some ⟨B, 0, none⟩)) rfl (by kernel_rfl) (by kernel_rfl) (by kernel_rfl) (fun _ _ _ h => h) (Yields.yieldsIf (Or.inl ⟨by rfl, fun w => by go_simp⟩)) SZ.out ?_
    try simp only [Act.put, List.getElem_toArray, List.getElem_cons_zero, List.getElem_cons_succ, List.setIfInBounds_toArray, List.set_cons_zero, List.set_cons_succ]
    refine wpAnyH_take (i := 2) (v := .int .i64 (f : Int)) rfl (by kernel_rfl) (by kernel_rfl) (by kernel_rfl) (fun _ _ _ h => h) (Or.inl ⟨by rfl, fun w9 h9 => by obtain ⟨c0, c1, c2, c3⟩ := rgC_cells h9.rg; obtain ⟨r0, r1, r2⟩ := rrC_cells h9.re; go_simp⟩) SZ.out ?_
    try simp only [Act.put, List.getElem_toArray, List.getElem_cons_zero, List.getElem_cons_succ, List.setIfInBounds_toArray, List.set_cons_zero, List.set_cons_succ]
    refine wpAnyH_take (i := 3) (v := .pointer (some ⟨B, 1, none⟩)) rfl (by kernel_rfl) (by kernel_rfl) (by kernel_rfl) (fun _ _ _ h => h) (Yields.yieldsIf (Or.inl ⟨by rfl, fun w => by go_simp⟩)) SZ.out ?_
    try simp only [Act.put, List.getElem_toArray, List.getElem_cons_zero, List.getElem_cons_succ, List.setIfInBounds_toArray, List.set_cons_zero, List.set_cons_succ]
    refine wpAnyH_take (i := 4) (v := .int .i64 (t : Int)) rfl (by kernel_rfl) (by kernel_rfl) (by kernel_rfl) (fun _ _ _ h => h) (Or.inl ⟨by rfl, fun w9 h9 => by obtain ⟨c0, c1, c2, c3⟩ := rgC_cells h9.rg; obtain ⟨r0, r1, r2⟩ := rrC_cells h9.re; go_simp⟩) SZ.out ?_
    try simp only [Act.put, List.getElem_toArray, List.getElem_cons_zero, List.getElem_cons_succ, List.setIfInBounds_toArray, List.set_cons_zero, List.set_cons_succ]
    refine wpAnyH_take (i := 5) (v := .slice a9 (t - f) c9) rfl (by kernel_rfl) (by kernel_rfl) (by kernel_rfl) (fun _ _ _ h => h) (Yields.yieldsIf (Or.inl ⟨by rfl, fun w => by go_simp⟩)) SZ.out ?_
    try simp only [Act.put, List.getElem_toArray, List.getElem_cons_zero, List.getElem_cons_succ, List.setIfInBounds_toArray, List.set_cons_zero, List.set_cons_succ]
    refine wpAnyH_take (i := 6) (v := .pointer (some ⟨B, 2, none⟩)) rfl (by kernel_rfl) (by kernel_rfl) (by kernel_rfl) (fun _ _ _ h => h) (Yields.yieldsIf (Or.inl ⟨by rfl, fun w => by go_simp⟩)) SZ.out ?_
    try simp only [Act.put, List.getElem_toArray, List.getElem_cons_zero, List.getElem_cons_succ, List.setIfInBounds_toArray, List.set_cons_zero, List.set_cons_succ]
    refine wpAnyH_take (i := 7) (v := .bool L) rfl (by kernel_rfl) (by kernel_rfl) (by kernel_rfl) (fun _ _ _ h => h) (Or.inl ⟨by rfl, fun w9 h9 => by obtain ⟨c0, c1, c2, c3⟩ := rgC_cells h9.rg; obtain ⟨r0, r1, r2⟩ := rrC_cells h9.re; go_simp⟩) SZ.out ?_
    try simp only [Act.put, List.getElem_toArray, List.getElem_cons_zero, List.getElem_cons_succ, List.setIfInBounds_toArray, List.set_cons_zero, List.set_cons_succ]
    refine wpAnyH_all (rs := [8]) (by kernel_rfl) (by simp) (AllH.cons rfl (fun K hK => ?_) AllH.nil)
    have CTK := Hid.mk' (rtaken_any a9 (t - f) c9 (sl l f t) L V0 HTS (by omega))
    go_simp
    refine CTK.out.mono ?_
    rintro e9 w' ⟨rfl, hw⟩
    have hq9 := hw.symm
    subst hq9
    clear hw CTK
    rw [hwE_tk l f t L D, HXE.out]
    dsimp only
    refine hK _ _ ⟨SZ.out, ?_⟩
    clear hK K
    try simp only [Act.put, List.getElem_toArray, List.getElem_cons_zero, List.getElem_cons_succ, List.setIfInBounds_toArray, List.set_cons_zero, List.set_cons_succ]
    refine wpAnyH_take (i := 9) (v := .int .i64 (hwE L X)) rfl (by kernel_rfl) (by kernel_rfl) (by kernel_rfl) (fun _ _ _ h => h) (Yields.yieldsIf (Or.inl ⟨by rfl, fun w => by go_simp⟩)) SZ.out ?_
    try simp only [Act.put, List.getElem_toArray, List.getElem_cons_zero, List.getElem_cons_succ, List.setIfInBounds_toArray, List.set_cons_zero, List.set_cons_succ]
    refine wpAnyH_done (by kernel_rfl) ?_ _
    obtain ⟨how, hhw⟩ : ∃ h, hwE L X = h := ⟨_, rfl⟩
    have HHW := Hid.mk' hhw
    rw [hhw]
    clear hhw
    clear hs9 hs9' HTS B2 J2 B4 J4 S4 T4
    obtain ⟨c0, c1, c2, c3⟩ := rgC_cells SZ.out.rg
    go_upto_region 11 with fail
    go_upto_if 98 with fail
    go_cut [18] from 19 to 111 (fun x18 wx => x18 = .int .i64 (hmc l k f L (a : Int)) ∧ V0 = wx)
    case first =>
      cases L with
      | false =>
        go_wp2_with fail
        go_meet
        exact ⟨rfl, rfl⟩
      | true =>
        have CC := refColumn_any ao n c (k : Int) l V0 (Hid.mk' (HT1.out.keep BZ.out))
        have hcb := aCol_is (l := l) (k := k) (by rw [HLN.out]; exact hk)
        unfold pr at CC
        obtain ⟨⟨cc, ce⟩, hcc⟩ : ∃ x, aCol l (k : Int) = x := ⟨_, rfl⟩
        rw [hcc] at CC hcb
        dsimp only at CC
        have hcc2 : cc ≤ 9223372036854775807 := by injection hcb with h1 h2; omega
        have CA := refAt_any ao n c (a : Int) cc l V0 (by omega) hcc2 (Hid.mk' (HT1.out.keep BZ.out))
        unfold pr at CA
        have HHM : Hid (hmc l k f true (a : Int) = (aAt l (a : Int) cc).1) := by unfold Hid hmc; rw [hcc]; rfl
        obtain ⟨⟨rc, re⟩, hrc⟩ : ∃ x, aAt l (a : Int) cc = x := ⟨_, rfl⟩
        rw [hrc] at CA HHM
        dsimp only at CA HHM
        have CC' := Hid.mk' CC
        have CA' := Hid.mk' CA
        clear CC CA hcc hrc hcb
        go_upto_region 12 with fail
        go_wp2_with fail
        refine CC'.out.mono ?_
        rintro e w' ⟨rfl, hw⟩
        have hq9 := hw.symm
        subst hq9
        clear hw CC'
        dsimp only
        go_upto_region 13 with fail
        go_wp2_with fail
        refine CA'.out.mono ?_
        rintro e w' ⟨rfl, hw⟩
        have hq9 := hw.symm
        subst hq9
        clear hw CA'
        dsimp only
        go_wp2_with fail
        go_meet
        exact ⟨by rw [HHM.out], rfl⟩
    case rest =>
      obtain ⟨rfl, rfl⟩ := hcut
      obtain ⟨hm, hhm⟩ : ∃ h, hmc l k f L (a : Int) = h := ⟨_, rfl⟩
      have HHM := Hid.mk' hhm
      rw [hhm]
      clear hhm
      obtain ⟨r0, r1, r2⟩ := rrC_cells SZ.out.re
      rcases kn_cases s with ⟨rfl, hkn⟩ | ⟨rfl, hkn⟩ | ⟨rfl, hkn⟩ | ⟨rfl, hkn⟩ | ⟨rfl, hkn⟩ | ⟨rfl, hkn⟩ | ⟨rfl, hkn⟩ | ⟨rfl, hkn⟩ | ⟨-, h0⟩
      · skip
        have CX : Hid (∀ W, Below V0.heap.size V0 W → Calls Tryz.prog 29 #[.slice ao n c, .int .i64 (f : Int), .int .i64 (t : Int), .slice none 0 0] W fun e w' => EdP (sw l f t []) W e w') := fun W hW => redit_any ao n c _ _ l none 0 0 [] W (Hid.mk' (HT1.out.keep (bT BZ.out hW))) hft htn (by omega) (Hid.mk' (tx_nil W)) (by omega)
        go_upto_region 16 with fail
        go_wp2_with fail
        refine (CX.out V0 (Below.refl _ _)).mono ?_
        rintro e w6 ⟨eo, ec, F, rfl, hF, hE, hb6⟩
        obtain ⟨en, hen⟩ : ∃ en, F.length = en := ⟨_, rfl⟩
        have HEN := Hid.mk' hen
        rw [hen]
        have HF := Hid.mk' hF
        have E6 := Hid.mk' hE
        have S6 := Hid.mk' (SZ.out.keep hb6)
        have J6 := Hid.mk' (JZ.out.keep hb6)
        have B6 := Hid.mk' (bT BZ.out hb6)
        have T6 := Hid.mk' (TZ.out.keep hb6)
        clear hb6 CX c0 c1 c2 c3 r0 r1 r2 SZ JZ BZ TZ
        dsimp only
        obtain ⟨c0, c1, c2, c3⟩ := rgC_cells S6.out.rg
        obtain ⟨r0, r1, r2⟩ := rrC_cells S6.out.re
        cases L with
        | false =>
          go_upto_region 20 with fail
          obtain ⟨j0, j1, j2, j3, j4, j5, j6⟩ := ef_cells J6.out
          obtain ⟨f0, f1, f2, f3, f4, f5, f6⟩ := ef_frozen J6.out
          have hbk := ef_store J6.out (.slice eo en ec) (.int .i64 (f : Int)) (.bool true) (.bool false) (.slice p3 xn d3) (.int .i64 how) (.bool false)
          have hgr := ef_grown w6 (B + 1) (.slice eo en ec) (.int .i64 (f : Int)) (.bool true) (.bool false) (.slice p3 xn d3) (.int .i64 how) (.bool false)
          go_wp2_with fail
          generalize (((((((w6.setCell ⟨B + 1, 0, none⟩ (.slice eo en ec)).setCell ⟨B + 1, 1, none⟩ (.int .i64 (f : Int))).setCell ⟨B + 1, 2, none⟩ (.bool true)).setCell ⟨B + 1, 3, none⟩ (.bool false)).setCell ⟨B + 1, 4, none⟩ (.slice p3 xn d3)).setCell ⟨B + 1, 5, none⟩ (.int .i64 how)).setCell ⟨B + 1, 6, none⟩ (.bool false)) = w9 at *
          obtain ⟨g0, g1, g2, g3, g4, g5, g6⟩ := ef_cells hbk
          refine bodyPost_ret (v := .tuple #[.agg #[.slice eo en ec, .int .i64 (f : Int), .bool true, .bool false, .slice p3 xn d3, .int .i64 how, .bool false], .int .i64 0]) (by simp [results, Tryz.results9, go_sem, g0, g1, g2, g3, g4, g5, g6]) rfl ?_
          have hz : (rEf l f t false D a, (0 : Int)) = opX l k (kn ⟨#[100]⟩) f t false D a b q := by rw [hkn]; rfl
          rw [← hz]
          have hz2 : ⟨sw l f t [], (f : Int), true, false, X, how, false⟩ = rEf l f t false D a := by unfold rEf; rw [HXE.out, HHW.out]; rfl
          rw [← hz2]
          obtain rfl := HEN.out
          obtain rfl := HXN.out
          exact ⟨_, F, _, rfl, efr_out (x := ⟨sw l f t [], (f : Int), true, false, X, how, false⟩) HF.out E6.out T6.out J6.out hgr, (bT L1.out B6.out).grown hgr (bT L1.out B6.out).size (fun g hg => by injection hg with hg; have := HB.out; omega)⟩
        | true =>
          have CY0 := rfst_call (a := a) (ec := ec) (HT1.out.keep B6.out) (by omega) (by omega) hen (by have h9 := congrArg List.length hF; rw [List.length_map] at h9; have h8 := sw_len l f t []; omega) hE hF (by have h8 := nsum_sw l f t []; simp at h8; omega)
          obtain ⟨cf, hcf⟩ : ∃ cf, fbh l (sw l f t []) a = cf := ⟨_, rfl⟩
          rw [hcf] at CY0
          have CY := Hid.mk' CY0
          have HCF := Hid.mk' hcf
          clear CY0 hcf
          go_upto_region 19 with fail
          go_wp2_with fail
          refine CY.out.mono ?_
          rintro e w7 ⟨rfl, hb7⟩
          have J7 := Hid.mk' (J6.out.keep hb7)
          have E7 := Hid.mk' (E6.out.keep hb7)
          have B7 := Hid.mk' (bT B6.out hb7)
          have T7 := Hid.mk' (T6.out.keep hb7)
          have S7 := Hid.mk' (S6.out.keep hb7)
          clear hb7 CY c0 c1 c2 c3 r0 r1 r2 S6 J6
          obtain ⟨r0, r1, r2⟩ := rrC_cells S7.out.re
          dsimp only
          go_upto_region 20 with fail
          obtain ⟨j0, j1, j2, j3, j4, j5, j6⟩ := ef_cells J7.out
          obtain ⟨f0, f1, f2, f3, f4, f5, f6⟩ := ef_frozen J7.out
          have hbk := ef_store J7.out (.slice eo en ec) (.int .i64 cf) (.bool true) (.bool true) (.slice p3 xn d3) (.int .i64 how) (.bool false)
          have hgr := ef_grown w7 (B + 1) (.slice eo en ec) (.int .i64 cf) (.bool true) (.bool true) (.slice p3 xn d3) (.int .i64 how) (.bool false)
          go_wp2_with fail
          generalize (((((((w7.setCell ⟨B + 1, 0, none⟩ (.slice eo en ec)).setCell ⟨B + 1, 1, none⟩ (.int .i64 cf)).setCell ⟨B + 1, 2, none⟩ (.bool true)).setCell ⟨B + 1, 3, none⟩ (.bool true)).setCell ⟨B + 1, 4, none⟩ (.slice p3 xn d3)).setCell ⟨B + 1, 5, none⟩ (.int .i64 how)).setCell ⟨B + 1, 6, none⟩ (.bool false)) = w9 at *
          obtain ⟨g0, g1, g2, g3, g4, g5, g6⟩ := ef_cells hbk
          refine bodyPost_ret (v := .tuple #[.agg #[.slice eo en ec, .int .i64 cf, .bool true, .bool true, .slice p3 xn d3, .int .i64 how, .bool false], .int .i64 0]) (by simp [results, Tryz.results9, go_sem, g0, g1, g2, g3, g4, g5, g6]) rfl ?_
          have hz : (rEf l f t true D a, (0 : Int)) = opX l k (kn ⟨#[100]⟩) f t true D a b q := by rw [hkn]; rfl
          rw [← hz]
          have hz2 : ⟨sw l f t [], cf, true, true, X, how, false⟩ = rEf l f t true D a := by unfold rEf; rw [HXE.out, HHW.out]; unfold rmC; rw [if_pos rfl, HCF.out]
          rw [← hz2]
          obtain rfl := HEN.out
          obtain rfl := HXN.out
          exact ⟨_, F, _, rfl, efr_out (x := ⟨sw l f t [], cf, true, true, X, how, false⟩) HF.out E7.out T7.out J7.out hgr, (bT L1.out B7.out).grown hgr (bT L1.out B7.out).size (fun g hg => by injection hg with hg; have := HB.out; omega)⟩
      · skip
        have CH0 := rch_any ao n c f t L D a b l p3 xn d3 V0 (Hid.mk' (HT1.out.keep BZ.out)) (Hid.mk' (by rw [HXE.out]; exact TZ.out)) (by omega) (by omega) hbn hab hft htn
        rw [HXE.out, HHW.out] at CH0
        obtain ⟨x, hx⟩ : ∃ x, cEf l f t L D a b = x := ⟨_, rfl⟩
        rw [hx] at CH0
        have HX := Hid.mk' hx
        obtain ⟨es, cur, xset, xlin, txt, xhow, typ⟩ := x
        have CH := Hid.mk' CH0
        clear CH0 hx
        go_upto_region 22 with fail
        go_wp2_with fail
        refine CH.out.mono ?_
        rintro e w6 ⟨v6, F, t6, rfl, hE6, hb6⟩
        obtain ⟨eo, ec, rfl, hEz⟩ := hE6.es
        obtain ⟨tp, tc, rfl, hTx⟩ := hE6.tx
        have HF := Hid.mk' hE6.d
        obtain ⟨en, hen⟩ : ∃ en, F.length = en := ⟨_, rfl⟩
        have HEN := Hid.mk' hen
        have E6 := Hid.mk' hEz
        have T6 := Hid.mk' hTx
        have J6 := Hid.mk' (JZ.out.keep hb6)
        have B6 := Hid.mk' (bT BZ.out hb6)
        unfold efV
        dsimp only
        dsimp only at T6 HF
        obtain ⟨tn, htn9⟩ : ∃ x, txt.length = x := ⟨_, rfl⟩
        have HTN := Hid.mk' htn9
        rw [hen, htn9]
        clear hE6 hb6 hEz hTx hen htn9 CH c0 c1 c2 c3 r0 r1 r2
        obtain ⟨j0, j1, j2, j3, j4, j5, j6⟩ := ef_cells J6.out
        obtain ⟨f0, f1, f2, f3, f4, f5, f6⟩ := ef_frozen J6.out
        have hbk := ef_store J6.out (.slice eo en ec) (.int .i64 cur) (.bool xset) (.bool xlin) (.slice tp tn tc) (.int .i64 xhow) (.bool typ)
        have hgr := ef_grown w6 (B + 1) (.slice eo en ec) (.int .i64 cur) (.bool xset) (.bool xlin) (.slice tp tn tc) (.int .i64 xhow) (.bool typ)
        go_wp2_with fail
        generalize (((((((w6.setCell ⟨B + 1, 0, none⟩ (.slice eo en ec)).setCell ⟨B + 1, 1, none⟩ (.int .i64 cur)).setCell ⟨B + 1, 2, none⟩ (.bool xset)).setCell ⟨B + 1, 3, none⟩ (.bool xlin)).setCell ⟨B + 1, 4, none⟩ (.slice tp tn tc)).setCell ⟨B + 1, 5, none⟩ (.int .i64 xhow)).setCell ⟨B + 1, 6, none⟩ (.bool typ)) = w9 at *
        obtain ⟨g0, g1, g2, g3, g4, g5, g6⟩ := ef_cells hbk
        refine bodyPost_ret (v := .tuple #[.agg #[.slice eo en ec, .int .i64 cur, .bool xset, .bool xlin, .slice tp tn tc, .int .i64 xhow, .bool typ], .int .i64 0]) (by simp [results, Tryz.results9, go_sem, g0, g1, g2, g3, g4, g5, g6]) rfl ?_
        have hz : (cEf l f t L D a b, (0 : Int)) = opX l k (kn ⟨#[99]⟩) f t L D a b q := by rw [hkn]; rfl
        rw [← hz, HX.out]
        obtain rfl := HEN.out
        obtain rfl := HTN.out
        exact ⟨_, F, _, rfl, efr_out (x := ⟨es, cur, xset, xlin, txt, xhow, typ⟩) HF.out E6.out T6.out J6.out hgr, (bT L1.out B6.out).grown hgr (bT L1.out B6.out).size (fun g hg => by injection hg with hg; have := HB.out; omega)⟩
      · skip
        have HF : Hid (([] : List Er).map Er.d = []) := rfl
        go_upto_region 24 with fail
        obtain ⟨j0, j1, j2, j3, j4, j5, j6⟩ := ef_cells JZ.out
        obtain ⟨f0, f1, f2, f3, f4, f5, f6⟩ := ef_frozen JZ.out
        have hbk := ef_store JZ.out (.slice none 0 0) (.int .i64 hm) (.bool true) (.bool L) (.slice p3 xn d3) (.int .i64 1) (.bool false)
        have hgr := ef_grown V0 (B + 1) (.slice none 0 0) (.int .i64 hm) (.bool true) (.bool L) (.slice p3 xn d3) (.int .i64 1) (.bool false)
        go_wp2_with fail
        generalize (((((((V0.setCell ⟨B + 1, 0, none⟩ (.slice none 0 0)).setCell ⟨B + 1, 1, none⟩ (.int .i64 hm)).setCell ⟨B + 1, 2, none⟩ (.bool true)).setCell ⟨B + 1, 3, none⟩ (.bool L)).setCell ⟨B + 1, 4, none⟩ (.slice p3 xn d3)).setCell ⟨B + 1, 5, none⟩ (.int .i64 1)).setCell ⟨B + 1, 6, none⟩ (.bool false)) = w9 at *
        obtain ⟨g0, g1, g2, g3, g4, g5, g6⟩ := ef_cells hbk
        refine bodyPost_ret (v := .tuple #[.agg #[.slice none 0 0, .int .i64 hm, .bool true, .bool L, .slice p3 xn d3, .int .i64 1, .bool false], .int .i64 0]) (by simp [results, Tryz.results9, go_sem, g0, g1, g2, g3, g4, g5, g6]) rfl ?_
        have hz : (yEf l k f t L D (a : Int), (0 : Int)) = opX l k (kn ⟨#[121]⟩) f t L D a b q := by rw [hkn]; rfl
        rw [← hz]
        have hz2 : ⟨[], hm, true, L, X, 1, false⟩ = yEf l k f t L D (a : Int) := by unfold yEf; rw [HXE.out, HHM.out]
        rw [← hz2]
        obtain rfl := HXN.out
        exact ⟨_, [], _, rfl, efr_out (ao := none) (c := 0) (F := []) (x := ⟨[], hm, true, L, X, 1, false⟩) HF.out (edz_nil _) TZ.out JZ.out hgr, (bT L1.out BZ.out).grown hgr (bT L1.out BZ.out).size (fun g hg => by injection hg with hg; have := HB.out; omega)⟩
      · skip
        have CH0 := rpushed_any ao n c a b q l V0 (Hid.mk' (HT1.out.keep BZ.out)) hbig hab hbn hq0 hq
        obtain ⟨⟨x, z⟩, hx⟩ : ∃ x, shX l (shf (hdI q) l (b + 1 - a) a 0) a = x := ⟨_, rfl⟩
        rw [hx] at CH0
        have HX := Hid.mk' hx
        obtain ⟨es, cur, xset, xlin, txt, xhow, typ⟩ := x
        dsimp only at CH0
        have CH := Hid.mk' CH0
        clear CH0 hx
        go_upto_region 26 with fail
        go_wp2_with fail
        refine CH.out.mono ?_
        rintro e w6 ⟨v6, F, t6, rfl, hE6, hb6⟩
        obtain ⟨eo, ec, rfl, hEz⟩ := hE6.es
        obtain ⟨tp, tc, rfl, hTx⟩ := hE6.tx
        have HF := Hid.mk' hE6.d
        obtain ⟨en, hen⟩ : ∃ en, F.length = en := ⟨_, rfl⟩
        have HEN := Hid.mk' hen
        have E6 := Hid.mk' hEz
        have T6 := Hid.mk' hTx
        have J6 := Hid.mk' (JZ.out.keep hb6)
        have B6 := Hid.mk' (bT BZ.out hb6)
        unfold efV
        dsimp only
        dsimp only at T6 HF
        obtain ⟨tn, htn9⟩ : ∃ x, txt.length = x := ⟨_, rfl⟩
        have HTN := Hid.mk' htn9
        rw [hen, htn9]
        clear hE6 hb6 hEz hTx hen htn9 CH c0 c1 c2 c3 r0 r1 r2
        obtain ⟨j0, j1, j2, j3, j4, j5, j6⟩ := ef_cells J6.out
        obtain ⟨f0, f1, f2, f3, f4, f5, f6⟩ := ef_frozen J6.out
        have hbk := ef_store J6.out (.slice eo en ec) (.int .i64 cur) (.bool xset) (.bool xlin) (.slice tp tn tc) (.int .i64 xhow) (.bool typ)
        have hgr := ef_grown w6 (B + 1) (.slice eo en ec) (.int .i64 cur) (.bool xset) (.bool xlin) (.slice tp tn tc) (.int .i64 xhow) (.bool typ)
        go_wp2_with fail
        generalize (((((((w6.setCell ⟨B + 1, 0, none⟩ (.slice eo en ec)).setCell ⟨B + 1, 1, none⟩ (.int .i64 cur)).setCell ⟨B + 1, 2, none⟩ (.bool xset)).setCell ⟨B + 1, 3, none⟩ (.bool xlin)).setCell ⟨B + 1, 4, none⟩ (.slice tp tn tc)).setCell ⟨B + 1, 5, none⟩ (.int .i64 xhow)).setCell ⟨B + 1, 6, none⟩ (.bool typ)) = w9 at *
        obtain ⟨g0, g1, g2, g3, g4, g5, g6⟩ := ef_cells hbk
        refine bodyPost_ret (v := .tuple #[.agg #[.slice eo en ec, .int .i64 cur, .bool xset, .bool xlin, .slice tp tn tc, .int .i64 xhow, .bool typ], .int .i64 z]) (by simp [results, Tryz.results9, go_sem, g0, g1, g2, g3, g4, g5, g6]) rfl ?_
        have hz : shX l (shf (hdI q) l (b + 1 - a) a 0) a = opX l k (kn ⟨#[62]⟩) f t L D a b q := by rw [hkn]; rfl
        rw [← hz, HX.out]
        obtain rfl := HEN.out
        obtain rfl := HTN.out
        exact ⟨_, F, _, rfl, efr_out (x := ⟨es, cur, xset, xlin, txt, xhow, typ⟩) HF.out E6.out T6.out J6.out hgr, (bT L1.out B6.out).grown hgr (bT L1.out B6.out).size (fun g hg => by injection hg with hg; have := HB.out; omega)⟩
      · skip
        obtain ⟨DO, hDO⟩ := shf_out q l (b + 1 - a) a 0 (Int.le_refl 0)
        have CX := Hid.mk' (rpulled_any ao n c a b q l V0 (Hid.mk' (HT1.out.keep BZ.out)) (by omega) hab hbn hq hDO)
        have hbd := shf_bounds (hd := hdO q) (fun p => (hdO_le q p hq).2) l (b + 1 - a) a 0 DO hDO
        have hfs := shf_first (hd := hdO q) (fun p => (hdO_le q p hq).1) (a := a) (m := b + 1 - a) (by omega) (by omega) hDO
        have HDO := Hid.mk' hDO
        have HBD := Hid.mk' hbd
        have HFS := Hid.mk' hfs
        clear hDO hbd hfs
        go_upto_region 28 with fail
        go_wp2_with fail
        refine CX.out.mono ?_
        rintro e w6 ⟨eo, ec, F, rfl, hF, hE, hb6⟩
        obtain ⟨en, hen⟩ : ∃ en, F.length = en := ⟨_, rfl⟩
        have HEN := Hid.mk' hen
        rw [hen]
        have HF := Hid.mk' hF
        have E6 := Hid.mk' hE
        have S6 := Hid.mk' (SZ.out.keep hb6)
        have J6 := Hid.mk' (JZ.out.keep hb6)
        have B6 := Hid.mk' (bT BZ.out hb6)
        have T6 := Hid.mk' (TZ.out.keep hb6)
        have CY0 := rfst_call (a := a) (ec := ec) (HT1.out.keep B6.out) (by omega) (by omega) hen (by have h9 := congrArg List.length hF; rw [List.length_map] at h9; have := HBD.out.1; omega) hE hF (by have := HBD.out.2; omega)
        obtain ⟨cf, hcf⟩ : ∃ cf, fbh l DO a = cf := ⟨_, rfl⟩
        rw [hcf] at CY0
        have CY := Hid.mk' CY0
        have HCF : Hid (fbh l (DO.take 1) a = cf) := by unfold Hid; rw [HFS.out]; exact hcf
        clear CY0 hcf hb6 CX c0 c1 c2 c3 r0 r1 r2 SZ JZ BZ TZ hE hF hen S6 T6
        dsimp only
        go_upto_region 29 with fail
        go_wp2_with (first | (go_at_call 30; refine CY.out.mono ?_; rintro e w7 ⟨rfl, hb7⟩; have J7 := Hid.mk' (J6.out.keep hb7); have E7 := Hid.mk' (E6.out.keep hb7); have B7 := Hid.mk' (bT B6.out hb7); clear hb7 CY; obtain ⟨j0, j1, j2, j3, j4, j5, j6⟩ := ef_cells J7.out; obtain ⟨f0, f1, f2, f3, f4, f5, f6⟩ := ef_frozen J7.out) | fail)
        have hbk := ef_store J7.out (.slice eo en ec) (.int .i64 cf) (.bool false) (.bool false) (.slice none 0 0) (.int .i64 0) (.bool false)
        have hgr := ef_grown w7 (B + 1) (.slice eo en ec) (.int .i64 cf) (.bool false) (.bool false) (.slice none 0 0) (.int .i64 0) (.bool false)
        generalize (((((((w7.setCell ⟨B + 1, 0, none⟩ (.slice eo en ec)).setCell ⟨B + 1, 1, none⟩ (.int .i64 cf)).setCell ⟨B + 1, 2, none⟩ (.bool false)).setCell ⟨B + 1, 3, none⟩ (.bool false)).setCell ⟨B + 1, 4, none⟩ (.slice none 0 0)).setCell ⟨B + 1, 5, none⟩ (.int .i64 0)).setCell ⟨B + 1, 6, none⟩ (.bool false)) = w9 at *
        obtain ⟨g0, g1, g2, g3, g4, g5, g6⟩ := ef_cells hbk
        refine bodyPost_ret (v := .tuple #[.agg #[.slice eo en ec, .int .i64 cf, .bool false, .bool false, .slice none 0 0, .int .i64 0, .bool false], .int .i64 0]) (by simp [results, Tryz.results9, go_sem, g0, g1, g2, g3, g4, g5, g6]) rfl ?_
        have hz : shX l (some DO) a = opX l k (kn ⟨#[60]⟩) f t L D a b q := by rw [hkn, ← HDO.out]; rfl
        rw [← hz]
        have hz2 : ((⟨DO, cf, false, false, [], 0, false⟩ : Ef), (0 : Int)) = shX l (some DO) a := by
          show _ = ((⟨DO, fbh l (DO.take 1) a, false, false, [], 0, false⟩ : Ef), (0 : Int))
          rw [HCF.out]
        rw [← hz2]
        obtain rfl := HEN.out
        show RfQ ⟨DO, cf, false, false, [], 0, false⟩ 0 w _ w9
        exact RfQ.out (x := ⟨DO, cf, false, false, [], 0, false⟩) HF.out E7.out rfl J7.out (bT L1.out B7.out) hgr (by have := HB.out; omega)
      · skip
        obtain ⟨a8, c8, hs8, hT8⟩ := sl_both (HT1.out.keep BZ.out) hft htn
        go_upto_region 30 with fail
        have hdw : Below V0.heap.size V0 V0.drew := (Below.refl _ _).drew
        have SY : Hid (Rg2 V0.drew B G (f : Int) (t : Int) L D true L (.slice p3 xn d3)) := SZ.out.keep hdw
        have JY := Hid.mk' (JZ.out.keep hdw)
        have BY := Hid.mk' (bT BZ.out hdw)
        have HTS : Hid (Tx V0.drew a8 (t - f) c8 (sl l f t)) := (hT8 _ (HT1.out.keep BY.out))
        have HSL : Hid ((sl l f t).length = t - f) := sl_len (by rw [HLN.out]; exact htn)
        have CX : Hid (∀ W p d, Below V0.drew.heap.size V0.drew W → Tx W p (t - f) d ((sl l f t).map (tw tgB)) → Calls Tryz.prog 29 #[.slice ao n c, .int .i64 (f : Int), .int .i64 (t : Int), .slice p (t - f) d] W fun e w' => EdP (sw l f t ((sl l f t).map (tw tgB))) W e w') := fun W p d hW hT => redit_any ao n c _ _ l p (t - f) d _ W (Hid.mk' (HT1.out.keep (bT BY.out hW))) hft htn (by omega) (Hid.mk' hT) (by omega)
        clear hT8 hdw c0 c1 c2 c3 r0 r1 r2 SZ JZ
        refine wp_region_held (S := fun w' => Rg2 w' B G (f : Int) (t : Int) L D true L (.slice p3 xn d3)) (by kernel_rfl) ?_
        change wpAnyH _ _ _ _ _ _ _ _ (World.drew _)
        generalize V0.drew = U0 at *
        refine wpAnyH_take (i := 0) (v := .slice ao n c) rfl (by kernel_rfl) (by kernel_rfl) (by kernel_rfl) (fun _ _ _ h => h) (Yields.yieldsIf (Or.inl ⟨by rfl, fun w => by go_simp⟩)) SY.out ?_
        try simp only [Act.put, List.getElem_toArray, List.getElem_cons_zero, List.getElem_cons_succ, List.setIfInBounds_toArray, List.set_cons_zero, List.set_cons_succ]
        refine wpAnyH_take (i := 1) (v := .pointer (some ⟨B, 0, none⟩)) rfl (by kernel_rfl) (by kernel_rfl) (by kernel_rfl) (fun _ _ _ h => h) (Yields.yieldsIf (Or.inl ⟨by rfl, fun w => by go_simp⟩)) SY.out ?_
        try simp only [Act.put, List.getElem_toArray, List.getElem_cons_zero, List.getElem_cons_succ, List.setIfInBounds_toArray, List.set_cons_zero, List.set_cons_succ]
        refine wpAnyH_take (i := 2) (v := .int .i64 (f : Int)) rfl (by kernel_rfl) (by kernel_rfl) (by kernel_rfl) (fun _ _ _ h => h) (Or.inl ⟨by rfl, fun w9 h9 => by obtain ⟨c0, c1, c2, c3⟩ := rgC_cells h9.rg; obtain ⟨r0, r1, r2⟩ := rrC_cells h9.re; go_simp⟩) SY.out ?_
        try simp only [Act.put, List.getElem_toArray, List.getElem_cons_zero, List.getElem_cons_succ, List.setIfInBounds_toArray, List.set_cons_zero, List.set_cons_succ]
        refine wpAnyH_take (i := 3) (v := .pointer (some ⟨B, 1, none⟩)) rfl (by kernel_rfl) (by kernel_rfl) (by kernel_rfl) (fun _ _ _ h => h) (Yields.yieldsIf (Or.inl ⟨by rfl, fun w => by go_simp⟩)) SY.out ?_
        try simp only [Act.put, List.getElem_toArray, List.getElem_cons_zero, List.getElem_cons_succ, List.setIfInBounds_toArray, List.set_cons_zero, List.set_cons_succ]
        refine wpAnyH_take (i := 4) (v := .int .i64 (t : Int)) rfl (by kernel_rfl) (by kernel_rfl) (by kernel_rfl) (fun _ _ _ h => h) (Or.inl ⟨by rfl, fun w9 h9 => by obtain ⟨c0, c1, c2, c3⟩ := rgC_cells h9.rg; obtain ⟨r0, r1, r2⟩ := rrC_cells h9.re; go_simp⟩) SY.out ?_
        try simp only [Act.put, List.getElem_toArray, List.getElem_cons_zero, List.getElem_cons_succ, List.setIfInBounds_toArray, List.set_cons_zero, List.set_cons_succ]
        refine wpAnyH_take (i := 5) (v := .slice ao n c) rfl (by kernel_rfl) (by kernel_rfl) (by kernel_rfl) (fun _ _ _ h => h) (Yields.yieldsIf (Or.inl ⟨by rfl, fun w => by go_simp⟩)) SY.out ?_
        try simp only [Act.put, List.getElem_toArray, List.getElem_cons_zero, List.getElem_cons_succ, List.setIfInBounds_toArray, List.set_cons_zero, List.set_cons_succ]
        refine wpAnyH_take (i := 6) (v := .pointer (some ⟨B, 0, none⟩)) rfl (by kernel_rfl) (by kernel_rfl) (by kernel_rfl) (fun _ _ _ h => h) (Yields.yieldsIf (Or.inl ⟨by rfl, fun w => by go_simp⟩)) SY.out ?_
        try simp only [Act.put, List.getElem_toArray, List.getElem_cons_zero, List.getElem_cons_succ, List.setIfInBounds_toArray, List.set_cons_zero, List.set_cons_succ]
        refine wpAnyH_take (i := 7) (v := .int .i64 (f : Int)) rfl (by kernel_rfl) (by kernel_rfl) (by kernel_rfl) (fun _ _ _ h => h) (Or.inl ⟨by rfl, fun w9 h9 => by obtain ⟨c0, c1, c2, c3⟩ := rgC_cells h9.rg; obtain ⟨r0, r1, r2⟩ := rrC_cells h9.re; go_simp⟩) SY.out ?_
        try simp only [Act.put, List.getElem_toArray, List.getElem_cons_zero, List.getElem_cons_succ, List.setIfInBounds_toArray, List.set_cons_zero, List.set_cons_succ]
        refine wpAnyH_take (i := 8) (v := .pointer (some ⟨B, 1, none⟩)) rfl (by kernel_rfl) (by kernel_rfl) (by kernel_rfl) (fun _ _ _ h => h) (Yields.yieldsIf (Or.inl ⟨by rfl, fun w => by go_simp⟩)) SY.out ?_
        try simp only [Act.put, List.getElem_toArray, List.getElem_cons_zero, List.getElem_cons_succ, List.setIfInBounds_toArray, List.set_cons_zero, List.set_cons_succ]
        refine wpAnyH_take (i := 9) (v := .int .i64 (t : Int)) rfl (by kernel_rfl) (by kernel_rfl) (by kernel_rfl) (fun _ _ _ h => h) (Or.inl ⟨by rfl, fun w9 h9 => by obtain ⟨c0, c1, c2, c3⟩ := rgC_cells h9.rg; obtain ⟨r0, r1, r2⟩ := rrC_cells h9.re; go_simp⟩) SY.out ?_
        try simp only [Act.put, List.getElem_toArray, List.getElem_cons_zero, List.getElem_cons_succ, List.setIfInBounds_toArray, List.set_cons_zero, List.set_cons_succ]
        refine wpAnyH_take (i := 10) (v := .slice a8 (t - f) c8) rfl (by kernel_rfl) (by kernel_rfl) (by kernel_rfl) (fun _ _ _ h => h) (Yields.yieldsIf (Or.inl ⟨by rfl, fun w => by go_simp⟩)) SY.out ?_
        try simp only [Act.put, List.getElem_toArray, List.getElem_cons_zero, List.getElem_cons_succ, List.setIfInBounds_toArray, List.set_cons_zero, List.set_cons_succ]
        refine wpAnyH_take (i := 11) (v := .string ⟨#[103, 126]⟩) rfl (by kernel_rfl) (by kernel_rfl) (by kernel_rfl) (fun _ _ _ h => h) (Yields.yieldsIf (Or.inl ⟨by rfl, fun w => by go_simp⟩)) SY.out ?_
        try simp only [Act.put, List.getElem_toArray, List.getElem_cons_zero, List.getElem_cons_succ, List.setIfInBounds_toArray, List.set_cons_zero, List.set_cons_succ]
        refine wpAnyH_take (i := 14) (v := .int .i64 hm) rfl (by kernel_rfl) (by kernel_rfl) (by kernel_rfl) (fun _ _ _ h => h) (Yields.yieldsIf (Or.inl ⟨by rfl, fun w => by go_simp⟩)) SY.out ?_
        try simp only [Act.put, List.getElem_toArray, List.getElem_cons_zero, List.getElem_cons_succ, List.setIfInBounds_toArray, List.set_cons_zero, List.set_cons_succ]
        refine wpAnyH_all (rs := [12]) (by kernel_rfl) (by simp) (AllH.cons rfl (fun K hK => ?_) AllH.nil)
        have CTU := Hid.mk' (rtu_tog a8 (t - f) c8 (sl l f t) U0 (Hid.mk' (HTS.out.keep (Below.refl U0.heap.size U0))) (by omega))
        go_simp
        refine CTU.out.mono ?_
        rintro e9 V1 ⟨v8, rfl, hO8, hbx⟩
        obtain ⟨p8, d8, rfl⟩ := own_shape hO8
        have T8 := Hid.mk' (own_tx' hO8 (by omega))
        have SV1 := Hid.mk' (SY.out.keep hbx)
        have JV1 := Hid.mk' (JY.out.keep hbx)
        have BV1 := Hid.mk' (bT (Below.refl U0.heap.size U0) hbx)
        clear hbx hO8 CTU
        dsimp only
        refine hK _ _ ⟨SV1.out, ?_⟩
        clear hK K
        try simp only [Act.put, List.getElem_toArray, List.getElem_cons_zero, List.getElem_cons_succ, List.setIfInBounds_toArray, List.set_cons_zero, List.set_cons_succ]
        refine wpAnyH_all (rs := [13]) (by kernel_rfl) (by simp) (AllH.cons rfl (fun K hK => ?_) AllH.nil)
        go_simp
        refine (CX.out V1 p8 d8 BV1.out T8.out).mono ?_
        rintro e9 V2 ⟨eo, ec, F, rfl, hF, hE, hbx⟩
        obtain ⟨en, hen⟩ : ∃ en, F.length = en := ⟨_, rfl⟩
        have HEN := Hid.mk' hen
        rw [hen]
        have HF := Hid.mk' hF
        have E9 := Hid.mk' hE
        have SV2 := Hid.mk' (SV1.out.keep hbx)
        have JV2 := Hid.mk' (JV1.out.keep hbx)
        have BV2 := Hid.mk' (bT BV1.out hbx)
        clear hbx hF hE hen CX
        dsimp only
        refine hK _ _ ⟨SV2.out, ?_⟩
        clear hK K
        try simp only [Act.put, List.getElem_toArray, List.getElem_cons_zero, List.getElem_cons_succ, List.setIfInBounds_toArray, List.set_cons_zero, List.set_cons_succ]
        refine wpAnyH_take (i := 15) (v := .agg #[.slice eo en ec, .int .i64 hm, .bool false, .bool false, .slice none 0 0, .int .i64 0, .bool false]) rfl (by kernel_rfl) (by kernel_rfl) (by kernel_rfl) (fun _ _ _ h => h) (Yields.yieldsIf (Or.inl ⟨by rfl, fun w => by go_simp⟩)) SV2.out ?_
        try simp only [Act.put, List.getElem_toArray, List.getElem_cons_zero, List.getElem_cons_succ, List.setIfInBounds_toArray, List.set_cons_zero, List.set_cons_succ]
        refine wpAnyH_all (rs := [16]) (by kernel_rfl) (by simp) (AllH.cons rfl (fun K hK => ?_) AllH.nil)
        obtain ⟨j0, j1, j2, j3, j4, j5, j6⟩ := ef_cells JV2.out
        obtain ⟨f0, f1, f2, f3, f4, f5, f6⟩ := ef_frozen JV2.out
        have hbk := ef_store JV2.out (.slice eo en ec) (.int .i64 hm) (.bool false) (.bool false) (.slice none 0 0) (.int .i64 0) (.bool false)
        have hgr := ef_grown V2 (B + 1) (.slice eo en ec) (.int .i64 hm) (.bool false) (.bool false) (.slice none 0 0) (.int .i64 0) (.bool false)
        go_simp
        generalize (((((((V2.setCell ⟨B + 1, 0, none⟩ (.slice eo en ec)).setCell ⟨B + 1, 1, none⟩ (.int .i64 hm)).setCell ⟨B + 1, 2, none⟩ (.bool false)).setCell ⟨B + 1, 3, none⟩ (.bool false)).setCell ⟨B + 1, 4, none⟩ (.slice none 0 0)).setCell ⟨B + 1, 5, none⟩ (.int .i64 0)).setCell ⟨B + 1, 6, none⟩ (.bool false)) = w9 at *
        have S9 : Hid (Rg2 w9 B G (f : Int) (t : Int) L D true L (.slice p3 xn d3)) := SV2.out.off HG.out hgr
        have J9 := Hid.mk' hbk
        have G9 := Hid.mk' hgr
        clear hbk hgr j0 j1 j2 j3 j4 j5 j6 f0 f1 f2 f3 f4 f5 f6
        refine hK _ _ ⟨S9.out, ?_⟩
        clear hK K
        try simp only [Act.put, List.getElem_toArray, List.getElem_cons_zero, List.getElem_cons_succ, List.setIfInBounds_toArray, List.set_cons_zero, List.set_cons_succ]
        refine wpAnyH_take (i := 17) (v := .int .i64 0) rfl (by kernel_rfl) (by kernel_rfl) (by kernel_rfl) (fun _ _ _ h => h) (Yields.yieldsIf (Or.inl ⟨by rfl, fun w => by go_simp⟩)) S9.out ?_
        try simp only [Act.put, List.getElem_toArray, List.getElem_cons_zero, List.getElem_cons_succ, List.setIfInBounds_toArray, List.set_cons_zero, List.set_cons_succ]
        refine wpAnyH_done (by kernel_rfl) ?_ _
        go_wp2_with fail
        obtain ⟨g0, g1, g2, g3, g4, g5, g6⟩ := ef_cells J9.out
        refine bodyPost_ret (v := .tuple #[.agg #[.slice eo en ec, .int .i64 hm, .bool false, .bool false, .slice none 0 0, .int .i64 0, .bool false], .int .i64 0]) (by simp [results, Tryz.results9, go_sem, g0, g1, g2, g3, g4, g5, g6]) rfl ?_
        have hz : (leEf tgB l k f t L a, (0 : Int)) = opX l k (kn ⟨#[103, 126]⟩) f t L D a b q := by rw [hkn]; rfl
        rw [← hz]
        have hz2 : ⟨sw l f t ((sl l f t).map (tw tgB)), hm, false, false, [], 0, false⟩ = leEf tgB l k f t L a := by unfold leEf; rw [HHM.out]
        rw [← hz2]
        obtain rfl := HEN.out
        show RfQ ⟨sw l f t ((sl l f t).map (tw tgB)), hm, false, false, [], 0, false⟩ 0 w _ w9
        exact RfQ.out (x := ⟨sw l f t ((sl l f t).map (tw tgB)), hm, false, false, [], 0, false⟩) HF.out E9.out rfl JV2.out (bT L1.out (bT BY.out BV2.out)) G9.out (by have := HB.out; omega)
      · skip
        obtain ⟨a8, c8, hs8, hT8⟩ := sl_both (HT1.out.keep BZ.out) hft htn
        go_upto_region 30 with fail
        have hdw : Below V0.heap.size V0 V0.drew := (Below.refl _ _).drew
        have SY : Hid (Rg2 V0.drew B G (f : Int) (t : Int) L D true L (.slice p3 xn d3)) := SZ.out.keep hdw
        have JY := Hid.mk' (JZ.out.keep hdw)
        have BY := Hid.mk' (bT BZ.out hdw)
        have HTS : Hid (Tx V0.drew a8 (t - f) c8 (sl l f t)) := (hT8 _ (HT1.out.keep BY.out))
        have HSL : Hid ((sl l f t).length = t - f) := sl_len (by rw [HLN.out]; exact htn)
        have CX : Hid (∀ W p d, Below V0.drew.heap.size V0.drew W → Tx W p (t - f) d ((sl l f t).map (tw loB)) → Calls Tryz.prog 29 #[.slice ao n c, .int .i64 (f : Int), .int .i64 (t : Int), .slice p (t - f) d] W fun e w' => EdP (sw l f t ((sl l f t).map (tw loB))) W e w') := fun W p d hW hT => redit_any ao n c _ _ l p (t - f) d _ W (Hid.mk' (HT1.out.keep (bT BY.out hW))) hft htn (by omega) (Hid.mk' hT) (by omega)
        clear hT8 hdw c0 c1 c2 c3 r0 r1 r2 SZ JZ
        refine wp_region_held (S := fun w' => Rg2 w' B G (f : Int) (t : Int) L D true L (.slice p3 xn d3)) (by kernel_rfl) ?_
        change wpAnyH _ _ _ _ _ _ _ _ (World.drew _)
        generalize V0.drew = U0 at *
        refine wpAnyH_take (i := 0) (v := .slice ao n c) rfl (by kernel_rfl) (by kernel_rfl) (by kernel_rfl) (fun _ _ _ h => h) (Yields.yieldsIf (Or.inl ⟨by rfl, fun w => by go_simp⟩)) SY.out ?_
        try simp only [Act.put, List.getElem_toArray, List.getElem_cons_zero, List.getElem_cons_succ, List.setIfInBounds_toArray, List.set_cons_zero, List.set_cons_succ]
        refine wpAnyH_take (i := 1) (v := .pointer (some ⟨B, 0, none⟩)) rfl (by kernel_rfl) (by kernel_rfl) (by kernel_rfl) (fun _ _ _ h => h) (Yields.yieldsIf (Or.inl ⟨by rfl, fun w => by go_simp⟩)) SY.out ?_
        try simp only [Act.put, List.getElem_toArray, List.getElem_cons_zero, List.getElem_cons_succ, List.setIfInBounds_toArray, List.set_cons_zero, List.set_cons_succ]
        refine wpAnyH_take (i := 2) (v := .int .i64 (f : Int)) rfl (by kernel_rfl) (by kernel_rfl) (by kernel_rfl) (fun _ _ _ h => h) (Or.inl ⟨by rfl, fun w9 h9 => by obtain ⟨c0, c1, c2, c3⟩ := rgC_cells h9.rg; obtain ⟨r0, r1, r2⟩ := rrC_cells h9.re; go_simp⟩) SY.out ?_
        try simp only [Act.put, List.getElem_toArray, List.getElem_cons_zero, List.getElem_cons_succ, List.setIfInBounds_toArray, List.set_cons_zero, List.set_cons_succ]
        refine wpAnyH_take (i := 3) (v := .pointer (some ⟨B, 1, none⟩)) rfl (by kernel_rfl) (by kernel_rfl) (by kernel_rfl) (fun _ _ _ h => h) (Yields.yieldsIf (Or.inl ⟨by rfl, fun w => by go_simp⟩)) SY.out ?_
        try simp only [Act.put, List.getElem_toArray, List.getElem_cons_zero, List.getElem_cons_succ, List.setIfInBounds_toArray, List.set_cons_zero, List.set_cons_succ]
        refine wpAnyH_take (i := 4) (v := .int .i64 (t : Int)) rfl (by kernel_rfl) (by kernel_rfl) (by kernel_rfl) (fun _ _ _ h => h) (Or.inl ⟨by rfl, fun w9 h9 => by obtain ⟨c0, c1, c2, c3⟩ := rgC_cells h9.rg; obtain ⟨r0, r1, r2⟩ := rrC_cells h9.re; go_simp⟩) SY.out ?_
        try simp only [Act.put, List.getElem_toArray, List.getElem_cons_zero, List.getElem_cons_succ, List.setIfInBounds_toArray, List.set_cons_zero, List.set_cons_succ]
        refine wpAnyH_take (i := 5) (v := .slice ao n c) rfl (by kernel_rfl) (by kernel_rfl) (by kernel_rfl) (fun _ _ _ h => h) (Yields.yieldsIf (Or.inl ⟨by rfl, fun w => by go_simp⟩)) SY.out ?_
        try simp only [Act.put, List.getElem_toArray, List.getElem_cons_zero, List.getElem_cons_succ, List.setIfInBounds_toArray, List.set_cons_zero, List.set_cons_succ]
        refine wpAnyH_take (i := 6) (v := .pointer (some ⟨B, 0, none⟩)) rfl (by kernel_rfl) (by kernel_rfl) (by kernel_rfl) (fun _ _ _ h => h) (Yields.yieldsIf (Or.inl ⟨by rfl, fun w => by go_simp⟩)) SY.out ?_
        try simp only [Act.put, List.getElem_toArray, List.getElem_cons_zero, List.getElem_cons_succ, List.setIfInBounds_toArray, List.set_cons_zero, List.set_cons_succ]
        refine wpAnyH_take (i := 7) (v := .int .i64 (f : Int)) rfl (by kernel_rfl) (by kernel_rfl) (by kernel_rfl) (fun _ _ _ h => h) (Or.inl ⟨by rfl, fun w9 h9 => by obtain ⟨c0, c1, c2, c3⟩ := rgC_cells h9.rg; obtain ⟨r0, r1, r2⟩ := rrC_cells h9.re; go_simp⟩) SY.out ?_
        try simp only [Act.put, List.getElem_toArray, List.getElem_cons_zero, List.getElem_cons_succ, List.setIfInBounds_toArray, List.set_cons_zero, List.set_cons_succ]
        refine wpAnyH_take (i := 8) (v := .pointer (some ⟨B, 1, none⟩)) rfl (by kernel_rfl) (by kernel_rfl) (by kernel_rfl) (fun _ _ _ h => h) (Yields.yieldsIf (Or.inl ⟨by rfl, fun w => by go_simp⟩)) SY.out ?_
        try simp only [Act.put, List.getElem_toArray, List.getElem_cons_zero, List.getElem_cons_succ, List.setIfInBounds_toArray, List.set_cons_zero, List.set_cons_succ]
        refine wpAnyH_take (i := 9) (v := .int .i64 (t : Int)) rfl (by kernel_rfl) (by kernel_rfl) (by kernel_rfl) (fun _ _ _ h => h) (Or.inl ⟨by rfl, fun w9 h9 => by obtain ⟨c0, c1, c2, c3⟩ := rgC_cells h9.rg; obtain ⟨r0, r1, r2⟩ := rrC_cells h9.re; go_simp⟩) SY.out ?_
        try simp only [Act.put, List.getElem_toArray, List.getElem_cons_zero, List.getElem_cons_succ, List.setIfInBounds_toArray, List.set_cons_zero, List.set_cons_succ]
        refine wpAnyH_take (i := 10) (v := .slice a8 (t - f) c8) rfl (by kernel_rfl) (by kernel_rfl) (by kernel_rfl) (fun _ _ _ h => h) (Yields.yieldsIf (Or.inl ⟨by rfl, fun w => by go_simp⟩)) SY.out ?_
        try simp only [Act.put, List.getElem_toArray, List.getElem_cons_zero, List.getElem_cons_succ, List.setIfInBounds_toArray, List.set_cons_zero, List.set_cons_succ]
        refine wpAnyH_take (i := 11) (v := .string ⟨#[103, 117]⟩) rfl (by kernel_rfl) (by kernel_rfl) (by kernel_rfl) (fun _ _ _ h => h) (Yields.yieldsIf (Or.inl ⟨by rfl, fun w => by go_simp⟩)) SY.out ?_
        try simp only [Act.put, List.getElem_toArray, List.getElem_cons_zero, List.getElem_cons_succ, List.setIfInBounds_toArray, List.set_cons_zero, List.set_cons_succ]
        refine wpAnyH_take (i := 14) (v := .int .i64 hm) rfl (by kernel_rfl) (by kernel_rfl) (by kernel_rfl) (fun _ _ _ h => h) (Yields.yieldsIf (Or.inl ⟨by rfl, fun w => by go_simp⟩)) SY.out ?_
        try simp only [Act.put, List.getElem_toArray, List.getElem_cons_zero, List.getElem_cons_succ, List.setIfInBounds_toArray, List.set_cons_zero, List.set_cons_succ]
        refine wpAnyH_all (rs := [12]) (by kernel_rfl) (by simp) (AllH.cons rfl (fun K hK => ?_) AllH.nil)
        have CTU := Hid.mk' (rtu_low a8 (t - f) c8 (sl l f t) U0 (Hid.mk' (HTS.out.keep (Below.refl U0.heap.size U0))) (by omega))
        go_simp
        refine CTU.out.mono ?_
        rintro e9 V1 ⟨v8, rfl, hO8, hbx⟩
        obtain ⟨p8, d8, rfl⟩ := own_shape hO8
        have T8 := Hid.mk' (own_tx' hO8 (by omega))
        have SV1 := Hid.mk' (SY.out.keep hbx)
        have JV1 := Hid.mk' (JY.out.keep hbx)
        have BV1 := Hid.mk' (bT (Below.refl U0.heap.size U0) hbx)
        clear hbx hO8 CTU
        dsimp only
        refine hK _ _ ⟨SV1.out, ?_⟩
        clear hK K
        try simp only [Act.put, List.getElem_toArray, List.getElem_cons_zero, List.getElem_cons_succ, List.setIfInBounds_toArray, List.set_cons_zero, List.set_cons_succ]
        refine wpAnyH_all (rs := [13]) (by kernel_rfl) (by simp) (AllH.cons rfl (fun K hK => ?_) AllH.nil)
        go_simp
        refine (CX.out V1 p8 d8 BV1.out T8.out).mono ?_
        rintro e9 V2 ⟨eo, ec, F, rfl, hF, hE, hbx⟩
        obtain ⟨en, hen⟩ : ∃ en, F.length = en := ⟨_, rfl⟩
        have HEN := Hid.mk' hen
        rw [hen]
        have HF := Hid.mk' hF
        have E9 := Hid.mk' hE
        have SV2 := Hid.mk' (SV1.out.keep hbx)
        have JV2 := Hid.mk' (JV1.out.keep hbx)
        have BV2 := Hid.mk' (bT BV1.out hbx)
        clear hbx hF hE hen CX
        dsimp only
        refine hK _ _ ⟨SV2.out, ?_⟩
        clear hK K
        try simp only [Act.put, List.getElem_toArray, List.getElem_cons_zero, List.getElem_cons_succ, List.setIfInBounds_toArray, List.set_cons_zero, List.set_cons_succ]
        refine wpAnyH_take (i := 15) (v := .agg #[.slice eo en ec, .int .i64 hm, .bool false, .bool false, .slice none 0 0, .int .i64 0, .bool false]) rfl (by kernel_rfl) (by kernel_rfl) (by kernel_rfl) (fun _ _ _ h => h) (Yields.yieldsIf (Or.inl ⟨by rfl, fun w => by go_simp⟩)) SV2.out ?_
        try simp only [Act.put, List.getElem_toArray, List.getElem_cons_zero, List.getElem_cons_succ, List.setIfInBounds_toArray, List.set_cons_zero, List.set_cons_succ]
        refine wpAnyH_all (rs := [16]) (by kernel_rfl) (by simp) (AllH.cons rfl (fun K hK => ?_) AllH.nil)
        obtain ⟨j0, j1, j2, j3, j4, j5, j6⟩ := ef_cells JV2.out
        obtain ⟨f0, f1, f2, f3, f4, f5, f6⟩ := ef_frozen JV2.out
        have hbk := ef_store JV2.out (.slice eo en ec) (.int .i64 hm) (.bool false) (.bool false) (.slice none 0 0) (.int .i64 0) (.bool false)
        have hgr := ef_grown V2 (B + 1) (.slice eo en ec) (.int .i64 hm) (.bool false) (.bool false) (.slice none 0 0) (.int .i64 0) (.bool false)
        go_simp
        generalize (((((((V2.setCell ⟨B + 1, 0, none⟩ (.slice eo en ec)).setCell ⟨B + 1, 1, none⟩ (.int .i64 hm)).setCell ⟨B + 1, 2, none⟩ (.bool false)).setCell ⟨B + 1, 3, none⟩ (.bool false)).setCell ⟨B + 1, 4, none⟩ (.slice none 0 0)).setCell ⟨B + 1, 5, none⟩ (.int .i64 0)).setCell ⟨B + 1, 6, none⟩ (.bool false)) = w9 at *
        have S9 : Hid (Rg2 w9 B G (f : Int) (t : Int) L D true L (.slice p3 xn d3)) := SV2.out.off HG.out hgr
        have J9 := Hid.mk' hbk
        have G9 := Hid.mk' hgr
        clear hbk hgr j0 j1 j2 j3 j4 j5 j6 f0 f1 f2 f3 f4 f5 f6
        refine hK _ _ ⟨S9.out, ?_⟩
        clear hK K
        try simp only [Act.put, List.getElem_toArray, List.getElem_cons_zero, List.getElem_cons_succ, List.setIfInBounds_toArray, List.set_cons_zero, List.set_cons_succ]
        refine wpAnyH_take (i := 17) (v := .int .i64 0) rfl (by kernel_rfl) (by kernel_rfl) (by kernel_rfl) (fun _ _ _ h => h) (Yields.yieldsIf (Or.inl ⟨by rfl, fun w => by go_simp⟩)) S9.out ?_
        try simp only [Act.put, List.getElem_toArray, List.getElem_cons_zero, List.getElem_cons_succ, List.setIfInBounds_toArray, List.set_cons_zero, List.set_cons_succ]
        refine wpAnyH_done (by kernel_rfl) ?_ _
        go_wp2_with fail
        obtain ⟨g0, g1, g2, g3, g4, g5, g6⟩ := ef_cells J9.out
        refine bodyPost_ret (v := .tuple #[.agg #[.slice eo en ec, .int .i64 hm, .bool false, .bool false, .slice none 0 0, .int .i64 0, .bool false], .int .i64 0]) (by simp [results, Tryz.results9, go_sem, g0, g1, g2, g3, g4, g5, g6]) rfl ?_
        have hz : (leEf loB l k f t L a, (0 : Int)) = opX l k (kn ⟨#[103, 117]⟩) f t L D a b q := by rw [hkn]; rfl
        rw [← hz]
        have hz2 : ⟨sw l f t ((sl l f t).map (tw loB)), hm, false, false, [], 0, false⟩ = leEf loB l k f t L a := by unfold leEf; rw [HHM.out]
        rw [← hz2]
        obtain rfl := HEN.out
        show RfQ ⟨sw l f t ((sl l f t).map (tw loB)), hm, false, false, [], 0, false⟩ 0 w _ w9
        exact RfQ.out (x := ⟨sw l f t ((sl l f t).map (tw loB)), hm, false, false, [], 0, false⟩) HF.out E9.out rfl JV2.out (bT L1.out (bT BY.out BV2.out)) G9.out (by have := HB.out; omega)
      · skip
        obtain ⟨a8, c8, hs8, hT8⟩ := sl_both (HT1.out.keep BZ.out) hft htn
        go_upto_region 30 with fail
        have hdw : Below V0.heap.size V0 V0.drew := (Below.refl _ _).drew
        have SY : Hid (Rg2 V0.drew B G (f : Int) (t : Int) L D true L (.slice p3 xn d3)) := SZ.out.keep hdw
        have JY := Hid.mk' (JZ.out.keep hdw)
        have BY := Hid.mk' (bT BZ.out hdw)
        have HTS : Hid (Tx V0.drew a8 (t - f) c8 (sl l f t)) := (hT8 _ (HT1.out.keep BY.out))
        have HSL : Hid ((sl l f t).length = t - f) := sl_len (by rw [HLN.out]; exact htn)
        have CX : Hid (∀ W p d, Below V0.drew.heap.size V0.drew W → Tx W p (t - f) d ((sl l f t).map (tw upB)) → Calls Tryz.prog 29 #[.slice ao n c, .int .i64 (f : Int), .int .i64 (t : Int), .slice p (t - f) d] W fun e w' => EdP (sw l f t ((sl l f t).map (tw upB))) W e w') := fun W p d hW hT => redit_any ao n c _ _ l p (t - f) d _ W (Hid.mk' (HT1.out.keep (bT BY.out hW))) hft htn (by omega) (Hid.mk' hT) (by omega)
        clear hT8 hdw c0 c1 c2 c3 r0 r1 r2 SZ JZ
        refine wp_region_held (S := fun w' => Rg2 w' B G (f : Int) (t : Int) L D true L (.slice p3 xn d3)) (by kernel_rfl) ?_
        change wpAnyH _ _ _ _ _ _ _ _ (World.drew _)
        generalize V0.drew = U0 at *
        refine wpAnyH_take (i := 0) (v := .slice ao n c) rfl (by kernel_rfl) (by kernel_rfl) (by kernel_rfl) (fun _ _ _ h => h) (Yields.yieldsIf (Or.inl ⟨by rfl, fun w => by go_simp⟩)) SY.out ?_
        try simp only [Act.put, List.getElem_toArray, List.getElem_cons_zero, List.getElem_cons_succ, List.setIfInBounds_toArray, List.set_cons_zero, List.set_cons_succ]
        refine wpAnyH_take (i := 1) (v := .pointer (some ⟨B, 0, none⟩)) rfl (by kernel_rfl) (by kernel_rfl) (by kernel_rfl) (fun _ _ _ h => h) (Yields.yieldsIf (Or.inl ⟨by rfl, fun w => by go_simp⟩)) SY.out ?_
        try simp only [Act.put, List.getElem_toArray, List.getElem_cons_zero, List.getElem_cons_succ, List.setIfInBounds_toArray, List.set_cons_zero, List.set_cons_succ]
        refine wpAnyH_take (i := 2) (v := .int .i64 (f : Int)) rfl (by kernel_rfl) (by kernel_rfl) (by kernel_rfl) (fun _ _ _ h => h) (Or.inl ⟨by rfl, fun w9 h9 => by obtain ⟨c0, c1, c2, c3⟩ := rgC_cells h9.rg; obtain ⟨r0, r1, r2⟩ := rrC_cells h9.re; go_simp⟩) SY.out ?_
        try simp only [Act.put, List.getElem_toArray, List.getElem_cons_zero, List.getElem_cons_succ, List.setIfInBounds_toArray, List.set_cons_zero, List.set_cons_succ]
        refine wpAnyH_take (i := 3) (v := .pointer (some ⟨B, 1, none⟩)) rfl (by kernel_rfl) (by kernel_rfl) (by kernel_rfl) (fun _ _ _ h => h) (Yields.yieldsIf (Or.inl ⟨by rfl, fun w => by go_simp⟩)) SY.out ?_
        try simp only [Act.put, List.getElem_toArray, List.getElem_cons_zero, List.getElem_cons_succ, List.setIfInBounds_toArray, List.set_cons_zero, List.set_cons_succ]
        refine wpAnyH_take (i := 4) (v := .int .i64 (t : Int)) rfl (by kernel_rfl) (by kernel_rfl) (by kernel_rfl) (fun _ _ _ h => h) (Or.inl ⟨by rfl, fun w9 h9 => by obtain ⟨c0, c1, c2, c3⟩ := rgC_cells h9.rg; obtain ⟨r0, r1, r2⟩ := rrC_cells h9.re; go_simp⟩) SY.out ?_
        try simp only [Act.put, List.getElem_toArray, List.getElem_cons_zero, List.getElem_cons_succ, List.setIfInBounds_toArray, List.set_cons_zero, List.set_cons_succ]
        refine wpAnyH_take (i := 5) (v := .slice ao n c) rfl (by kernel_rfl) (by kernel_rfl) (by kernel_rfl) (fun _ _ _ h => h) (Yields.yieldsIf (Or.inl ⟨by rfl, fun w => by go_simp⟩)) SY.out ?_
        try simp only [Act.put, List.getElem_toArray, List.getElem_cons_zero, List.getElem_cons_succ, List.setIfInBounds_toArray, List.set_cons_zero, List.set_cons_succ]
        refine wpAnyH_take (i := 6) (v := .pointer (some ⟨B, 0, none⟩)) rfl (by kernel_rfl) (by kernel_rfl) (by kernel_rfl) (fun _ _ _ h => h) (Yields.yieldsIf (Or.inl ⟨by rfl, fun w => by go_simp⟩)) SY.out ?_
        try simp only [Act.put, List.getElem_toArray, List.getElem_cons_zero, List.getElem_cons_succ, List.setIfInBounds_toArray, List.set_cons_zero, List.set_cons_succ]
        refine wpAnyH_take (i := 7) (v := .int .i64 (f : Int)) rfl (by kernel_rfl) (by kernel_rfl) (by kernel_rfl) (fun _ _ _ h => h) (Or.inl ⟨by rfl, fun w9 h9 => by obtain ⟨c0, c1, c2, c3⟩ := rgC_cells h9.rg; obtain ⟨r0, r1, r2⟩ := rrC_cells h9.re; go_simp⟩) SY.out ?_
        try simp only [Act.put, List.getElem_toArray, List.getElem_cons_zero, List.getElem_cons_succ, List.setIfInBounds_toArray, List.set_cons_zero, List.set_cons_succ]
        refine wpAnyH_take (i := 8) (v := .pointer (some ⟨B, 1, none⟩)) rfl (by kernel_rfl) (by kernel_rfl) (by kernel_rfl) (fun _ _ _ h => h) (Yields.yieldsIf (Or.inl ⟨by rfl, fun w => by go_simp⟩)) SY.out ?_
        try simp only [Act.put, List.getElem_toArray, List.getElem_cons_zero, List.getElem_cons_succ, List.setIfInBounds_toArray, List.set_cons_zero, List.set_cons_succ]
        refine wpAnyH_take (i := 9) (v := .int .i64 (t : Int)) rfl (by kernel_rfl) (by kernel_rfl) (by kernel_rfl) (fun _ _ _ h => h) (Or.inl ⟨by rfl, fun w9 h9 => by obtain ⟨c0, c1, c2, c3⟩ := rgC_cells h9.rg; obtain ⟨r0, r1, r2⟩ := rrC_cells h9.re; go_simp⟩) SY.out ?_
        try simp only [Act.put, List.getElem_toArray, List.getElem_cons_zero, List.getElem_cons_succ, List.setIfInBounds_toArray, List.set_cons_zero, List.set_cons_succ]
        refine wpAnyH_take (i := 10) (v := .slice a8 (t - f) c8) rfl (by kernel_rfl) (by kernel_rfl) (by kernel_rfl) (fun _ _ _ h => h) (Yields.yieldsIf (Or.inl ⟨by rfl, fun w => by go_simp⟩)) SY.out ?_
        try simp only [Act.put, List.getElem_toArray, List.getElem_cons_zero, List.getElem_cons_succ, List.setIfInBounds_toArray, List.set_cons_zero, List.set_cons_succ]
        refine wpAnyH_take (i := 11) (v := .string ⟨#[103, 85]⟩) rfl (by kernel_rfl) (by kernel_rfl) (by kernel_rfl) (fun _ _ _ h => h) (Yields.yieldsIf (Or.inl ⟨by rfl, fun w => by go_simp⟩)) SY.out ?_
        try simp only [Act.put, List.getElem_toArray, List.getElem_cons_zero, List.getElem_cons_succ, List.setIfInBounds_toArray, List.set_cons_zero, List.set_cons_succ]
        refine wpAnyH_take (i := 14) (v := .int .i64 hm) rfl (by kernel_rfl) (by kernel_rfl) (by kernel_rfl) (fun _ _ _ h => h) (Yields.yieldsIf (Or.inl ⟨by rfl, fun w => by go_simp⟩)) SY.out ?_
        try simp only [Act.put, List.getElem_toArray, List.getElem_cons_zero, List.getElem_cons_succ, List.setIfInBounds_toArray, List.set_cons_zero, List.set_cons_succ]
        refine wpAnyH_all (rs := [12]) (by kernel_rfl) (by simp) (AllH.cons rfl (fun K hK => ?_) AllH.nil)
        have CTU := Hid.mk' (rtu_upp a8 (t - f) c8 (sl l f t) U0 (Hid.mk' (HTS.out.keep (Below.refl U0.heap.size U0))) (by omega))
        go_simp
        refine CTU.out.mono ?_
        rintro e9 V1 ⟨v8, rfl, hO8, hbx⟩
        obtain ⟨p8, d8, rfl⟩ := own_shape hO8
        have T8 := Hid.mk' (own_tx' hO8 (by omega))
        have SV1 := Hid.mk' (SY.out.keep hbx)
        have JV1 := Hid.mk' (JY.out.keep hbx)
        have BV1 := Hid.mk' (bT (Below.refl U0.heap.size U0) hbx)
        clear hbx hO8 CTU
        dsimp only
        refine hK _ _ ⟨SV1.out, ?_⟩
        clear hK K
        try simp only [Act.put, List.getElem_toArray, List.getElem_cons_zero, List.getElem_cons_succ, List.setIfInBounds_toArray, List.set_cons_zero, List.set_cons_succ]
        refine wpAnyH_all (rs := [13]) (by kernel_rfl) (by simp) (AllH.cons rfl (fun K hK => ?_) AllH.nil)
        go_simp
        refine (CX.out V1 p8 d8 BV1.out T8.out).mono ?_
        rintro e9 V2 ⟨eo, ec, F, rfl, hF, hE, hbx⟩
        obtain ⟨en, hen⟩ : ∃ en, F.length = en := ⟨_, rfl⟩
        have HEN := Hid.mk' hen
        rw [hen]
        have HF := Hid.mk' hF
        have E9 := Hid.mk' hE
        have SV2 := Hid.mk' (SV1.out.keep hbx)
        have JV2 := Hid.mk' (JV1.out.keep hbx)
        have BV2 := Hid.mk' (bT BV1.out hbx)
        clear hbx hF hE hen CX
        dsimp only
        refine hK _ _ ⟨SV2.out, ?_⟩
        clear hK K
        try simp only [Act.put, List.getElem_toArray, List.getElem_cons_zero, List.getElem_cons_succ, List.setIfInBounds_toArray, List.set_cons_zero, List.set_cons_succ]
        refine wpAnyH_take (i := 15) (v := .agg #[.slice eo en ec, .int .i64 hm, .bool false, .bool false, .slice none 0 0, .int .i64 0, .bool false]) rfl (by kernel_rfl) (by kernel_rfl) (by kernel_rfl) (fun _ _ _ h => h) (Yields.yieldsIf (Or.inl ⟨by rfl, fun w => by go_simp⟩)) SV2.out ?_
        try simp only [Act.put, List.getElem_toArray, List.getElem_cons_zero, List.getElem_cons_succ, List.setIfInBounds_toArray, List.set_cons_zero, List.set_cons_succ]
        refine wpAnyH_all (rs := [16]) (by kernel_rfl) (by simp) (AllH.cons rfl (fun K hK => ?_) AllH.nil)
        obtain ⟨j0, j1, j2, j3, j4, j5, j6⟩ := ef_cells JV2.out
        obtain ⟨f0, f1, f2, f3, f4, f5, f6⟩ := ef_frozen JV2.out
        have hbk := ef_store JV2.out (.slice eo en ec) (.int .i64 hm) (.bool false) (.bool false) (.slice none 0 0) (.int .i64 0) (.bool false)
        have hgr := ef_grown V2 (B + 1) (.slice eo en ec) (.int .i64 hm) (.bool false) (.bool false) (.slice none 0 0) (.int .i64 0) (.bool false)
        go_simp
        generalize (((((((V2.setCell ⟨B + 1, 0, none⟩ (.slice eo en ec)).setCell ⟨B + 1, 1, none⟩ (.int .i64 hm)).setCell ⟨B + 1, 2, none⟩ (.bool false)).setCell ⟨B + 1, 3, none⟩ (.bool false)).setCell ⟨B + 1, 4, none⟩ (.slice none 0 0)).setCell ⟨B + 1, 5, none⟩ (.int .i64 0)).setCell ⟨B + 1, 6, none⟩ (.bool false)) = w9 at *
        have S9 : Hid (Rg2 w9 B G (f : Int) (t : Int) L D true L (.slice p3 xn d3)) := SV2.out.off HG.out hgr
        have J9 := Hid.mk' hbk
        have G9 := Hid.mk' hgr
        clear hbk hgr j0 j1 j2 j3 j4 j5 j6 f0 f1 f2 f3 f4 f5 f6
        refine hK _ _ ⟨S9.out, ?_⟩
        clear hK K
        try simp only [Act.put, List.getElem_toArray, List.getElem_cons_zero, List.getElem_cons_succ, List.setIfInBounds_toArray, List.set_cons_zero, List.set_cons_succ]
        refine wpAnyH_take (i := 17) (v := .int .i64 0) rfl (by kernel_rfl) (by kernel_rfl) (by kernel_rfl) (fun _ _ _ h => h) (Yields.yieldsIf (Or.inl ⟨by rfl, fun w => by go_simp⟩)) S9.out ?_
        try simp only [Act.put, List.getElem_toArray, List.getElem_cons_zero, List.getElem_cons_succ, List.setIfInBounds_toArray, List.set_cons_zero, List.set_cons_succ]
        refine wpAnyH_done (by kernel_rfl) ?_ _
        go_wp2_with fail
        obtain ⟨g0, g1, g2, g3, g4, g5, g6⟩ := ef_cells J9.out
        refine bodyPost_ret (v := .tuple #[.agg #[.slice eo en ec, .int .i64 hm, .bool false, .bool false, .slice none 0 0, .int .i64 0, .bool false], .int .i64 0]) (by simp [results, Tryz.results9, go_sem, g0, g1, g2, g3, g4, g5, g6]) rfl ?_
        have hz : (leEf upB l k f t L a, (0 : Int)) = opX l k (kn ⟨#[103, 85]⟩) f t L D a b q := by rw [hkn]; rfl
        rw [← hz]
        have hz2 : ⟨sw l f t ((sl l f t).map (tw upB)), hm, false, false, [], 0, false⟩ = leEf upB l k f t L a := by unfold leEf; rw [HHM.out]
        rw [← hz2]
        obtain rfl := HEN.out
        show RfQ ⟨sw l f t ((sl l f t).map (tw upB)), hm, false, false, [], 0, false⟩ 0 w _ w9
        exact RfQ.out (x := ⟨sw l f t ((sl l f t).map (tw upB)), hm, false, false, [], 0, false⟩) HF.out E9.out rfl JV2.out (bT L1.out (bT BY.out BV2.out)) G9.out (by have := HB.out; omega)
      · exact absurd h0 hs
theorem rdo_any (ao : Option Addr) (n c : Nat) (l : List UInt8) (at' : Int) (s : ByteArray) (fF tT : Int) (L D : Bool) (q : Int) (w : World) (HT : Hid (Tx w ao n c l)) (hbig : n ≤ 65536) :
    Calls Tryz.prog 9 #[.slice ao n c, .int .i64 at', .string s, .agg #[.int .i64 fF, .int .i64 tT, .bool L, .bool D], .int .i64 q] w fun e w' => RfQ (doX l at' s fF tT L D q).1 (doX l at' s fF tT L D q).2 w e w' := by
  have hln := HT.out.len
  unfold doX
  rw [hln]
  by_cases h0 : at' < 0
  · rw [if_pos (.inr (.inl (by omega)))]
    exact rdo_at0 ao n c l at' s fF tT L D q w HT h0
  by_cases h1 : (n : Int) < at'
  · rw [if_pos (.inr (.inl (by omega)))]
    exact rdo_at1 ao n c l at' s fF tT L D q w HT (by omega) h1
  by_cases hs : kn s = 0
  · rw [if_pos (.inl hs)]
    exact rdo_unk ao n c l at' s fF tT L D q w HT (by omega) (by omega) hs
  obtain ⟨k, rfl⟩ := Int.eq_ofNat_of_zero_le (show 0 ≤ at' by omega)
  have hk : k ≤ n := by omega
  rw [show ((k : Nat) : Int).toNat = k from rfl]
  have hok := lnR_ok (l := l) (k := k) (F := fF) (T := tT) (L := L) (D := D)
  cases hl : (lnO l k fF tT L D).2.2 with
  | false =>
    rw [if_pos (.inr (.inr (.inr rfl)))]
    exact rdo_rows ao n c l k s fF tT L D q w HT hk (by omega) hs (by rw [hok.1, hl])
  | true =>
    have hlr : (lnR l k fF tT L D).2.2 = true := by rw [hok.1, hl]
    by_cases hq1 : q < 1
    · rw [if_pos (.inr (.inr (.inl (by omega))))]
      exact rdo_cnt0 ao n c l k s fF tT L D q w HT hk (by omega) hs hlr hq1
    by_cases hq2 : (9999 : Int) < q
    · rw [if_pos (.inr (.inr (.inl (by omega))))]
      exact rdo_cnt1 ao n c l k s fF tT L D q w HT hk (by omega) hs hlr (by omega) hq2
    have hno : ¬ (kn s = 0 ∨ ¬ (0 ≤ (k : Int) ∧ (k : Int) ≤ (n : Int)) ∨ ¬ (1 ≤ q ∧ q ≤ 9999) ∨ true = false) := by
      rintro (h | h | h | h)
      · exact hs h
      · exact h ⟨by omega, by omega⟩
      · exact h ⟨by omega, by omega⟩
      · cases h
    rw [if_neg hno]
    have hsd : (s.toList == [100]) = (kn s == 1) := by
      rcases kn_cases s with ⟨rfl, h⟩ | ⟨rfl, h⟩ | ⟨rfl, h⟩ | ⟨rfl, h⟩ | ⟨rfl, h⟩ | ⟨rfl, h⟩ | ⟨rfl, h⟩ | ⟨rfl, h⟩ | ⟨-, h⟩
      all_goals first | exact absurd h hs | (rw [h]; decide +kernel)
    have hsc : (s.toList == [99]) = (kn s == 2) := by
      rcases kn_cases s with ⟨rfl, h⟩ | ⟨rfl, h⟩ | ⟨rfl, h⟩ | ⟨rfl, h⟩ | ⟨rfl, h⟩ | ⟨rfl, h⟩ | ⟨rfl, h⟩ | ⟨rfl, h⟩ | ⟨-, h⟩
      all_goals first | exact absurd h hs | (rw [h]; decide +kernel)
    obtain ⟨f, t, a, b, R⟩ := lnO_ok hl
    by_cases hi : fF = tT ∧ idl (kn s == 1) (kn s == 2) L = true
    · rw [if_pos hi]
      have hi2 := hi.2
      unfold idl at hi2
      cases L with
      | false =>
        refine rdo_idle0 ao n c l k s fF tT false D q w HT hk (by omega) hs hlr (by omega) (by omega) hi.1 rfl ?_
        rw [hsc]
        simpa using hi2
      | true =>
        refine rdo_idle1 ao n c l k s fF tT true D q w HT hk (by omega) hs hlr (by omega) (by omega) hi.1 rfl ?_
        rw [hsd]
        simpa using hi2
    · rw [if_neg hi]
      have hR : lnR l k fF tT L D = ((a : Int), (b : Int), true) := by rw [hok.2 hl, R.eX]
      rw [R.eX]
      obtain ⟨q, rfl⟩ := Int.eq_ofNat_of_zero_le (show 0 ≤ q by omega)
      have eF := R.eF
      have eT := R.eT
      subst eF eT
      exact rdo_main ao n c l k s f t L D a b q w HT hk hbig hs hR R.ft (by have := R.tn; omega) R.ab R.bn R.rg (by omega) (by omega) _ _ hsd hsc (fun h => hi ⟨by rw [h.1], h.2⟩)
end Go.Proofs.YtppefcnopkmhbaaGreatDoor
