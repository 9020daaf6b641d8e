/- Do -/
import Derived.Test.YtppefcnopkmhbaaGreatDoorPt20
namespace Go.Proofs.YtppefcnopkmhbaaGreatDoor
open Go.RowKit

set_option maxRecDepth 8000
def rgC (fF tT : Int) (L D : Bool) : Array Value := #[.int .i64 fF, .int .i64 tT, .bool L, .bool D]
/-- Do's boxes -/
structure Dob (w W : World) (fF tT : Int) (L D : Bool) : Prop where
  bel : Below w.heap.size w W
  rg : Blk W w.heap.size 28 (rgC fF tT L D)
  ef : Blk W (w.heap.size + 1) 35 (ef7 (.slice none 0 0) 0 false false (.slice none 0 0) 0 false)
theorem Dob.new (w : World) (fF tT : Int) (L D : Bool) : Dob w ((w.alloc (.cells (rgC fF tT L D) 28)).alloc (.cells (ef7 (.slice none 0 0) 0 false false (.slice none 0 0) 0 false) 35)) fF tT L D :=
  ⟨bAlloc (bAlloc (Below.refl _ _) _) _, (Blk.new w 28 _).keep (bAlloc (Below.refl _ _) _), by have := Blk.new (w.alloc (.cells (rgC fF tT L D) 28)) 35 (ef7 (.slice none 0 0) 0 false false (.slice none 0 0) 0 false); rwa [World.size_alloc] at this⟩
theorem rgC_cells {W : World} {B : Nat} {fF tT : Int} {L D : Bool} (h : Blk W B 28 (rgC fF tT L D)) :
    W.cell? ⟨B, 0, none⟩ = some (.int .i64 fF) ∧ W.cell? ⟨B, 1, none⟩ = some (.int .i64 tT) ∧ W.cell? ⟨B, 2, none⟩ = some (.bool L) ∧ W.cell? ⟨B, 3, none⟩ = some (.bool D) :=
  ⟨h.cell rfl, h.cell rfl, h.cell rfl, h.cell rfl⟩
set_option maxHeartbeats 8000000 in
set_option linter.unusedSimpArgs false in
theorem do_none (ao : Option Addr) (n c : Nat) (l : List UInt8) (at' : Int) (s : ByteArray) (fF tT : Int) (L D : Bool) (q : Int) (w : World) (HT : Hid (Tx w ao n c l)) (hs : kn s = 0) :
    Calls Tryz.prog 10 #[.slice ao n c, .int .i64 at', .string s, .agg #[.int .i64 fF, .int .i64 tT, .bool L, .bool D], .int .i64 q] w fun e w' => EfQ ef0 2 w e w' := by
  have hno : s ≠ ⟨#[100]⟩ ∧ s ≠ ⟨#[99]⟩ ∧ s ≠ ⟨#[121]⟩ ∧ s ≠ ⟨#[62]⟩ ∧ s ≠ ⟨#[60]⟩ ∧ s ≠ ⟨#[103, 126]⟩ ∧ s ≠ ⟨#[103, 117]⟩ ∧ s ≠ ⟨#[103, 85]⟩ := by
    rcases kn_cases s with ⟨_, h⟩ | ⟨_, h⟩ | ⟨_, h⟩ | ⟨_, h⟩ | ⟨_, h⟩ | ⟨_, h⟩ | ⟨_, h⟩ | ⟨_, h⟩ | ⟨h, _⟩ <;> first | exact h | (rw [h] at hs; cases hs)
  obtain ⟨W1, hW1⟩ : ∃ x, (w.alloc (.cells #[.int .i64 fF, .int .i64 tT, .bool L, .bool D] 28)).alloc (.cells #[.slice none 0 0, .int .i64 0, .bool false, .bool false, .slice none 0 0, .int .i64 0, .bool false] 35) = x := ⟨_, rfl⟩
  have T1 : Hid (Dob w W1 fF tT L D) := by unfold Hid; rw [← hW1]; exact Dob.new w _ _ _ _
  have HT1 := Hid.mk' (HT.out.keep T1.out.bel)
  have HLN := Hid.mk' HT.out.len
  have CM := Hid.mk' (opr_any W1)
  obtain ⟨B, hB⟩ : ∃ b, w.heap.size = b := ⟨_, rfl⟩
  have HB := Hid.mk' hB
  have K1 : Hid (Blk W1 B 28 (rgC fF tT L D)) := by unfold Hid; rw [← hB]; exact T1.out.rg
  have J1 : Hid (Blk W1 (B + 1) 35 (ef7 (.slice none 0 0) 0 false false (.slice none 0 0) 0 false)) := by unfold Hid; rw [← hB]; exact T1.out.ef
  have L1 := Hid.mk' T1.out.bel
  go_enter Tryz.func10, Tryz.ntmps10
  go_upto_region 1 with fail
  clear hW1 hB T1 HT
  go_upto_region 2 with (first | (go_at_call 35; refine CM.out.mono ?_; rintro e w2 ⟨r, C1, C2, C3, rfl, hm, k1, k2, k3, hb2⟩; have hlk := look_none hm s (find_no hno); have K2 := Hid.mk' (K1.out.keep hb2); have J2 := Hid.mk' (J1.out.keep hb2); have B2 := Hid.mk' hb2; have M1 := Hid.mk' k1; have M2 := Hid.mk' k2; have M3 := Hid.mk' k3; clear hb2 K1 J1 k1 k2 k3 hm; obtain ⟨c0, c1, c2, c3⟩ := rgC_cells K2.out) | fail)
  clear hlk
  go_upto_region 3 with fail
  obtain ⟨j0, j1, j2, j3, j4, j5, j6⟩ := ef_cells J2.out
  obtain ⟨f0, f1, f2, f3, f4, f5, f6⟩ := ef_frozen J2.out
  have hbk := ef_store J2.out (.slice none 0 0) (.int .i64 0) (.bool false) (.bool false) (.slice none 0 0) (.int .i64 0) (.bool false)
  have hgr := ef_grown w2 (B + 1) (.slice none 0 0) (.int .i64 0) (.bool false) (.bool false) (.slice none 0 0) (.int .i64 0) (.bool false)
  go_wp2_with fail
  generalize (((((((w2.setCell ⟨B + 1, 0, none⟩ (.slice none 0 0)).setCell ⟨B + 1, 1, none⟩ (.int .i64 0)).setCell ⟨B + 1, 2, none⟩ (.bool false)).setCell ⟨B + 1, 3, none⟩ (.bool false)).setCell ⟨B + 1, 4, none⟩ (.slice none 0 0)).setCell ⟨B + 1, 5, none⟩ (.int .i64 0)).setCell ⟨B + 1, 6, none⟩ (.bool false)) = w9 at *
  obtain ⟨g0, g1, g2, g3, g4, g5, g6⟩ := ef_cells hbk
  refine bodyPost_ret (v := .tuple #[efz, .int .i64 2]) (by simp [results, efz, Tryz.results10, go_sem, g0, g1, g2, g3, g4, g5, g6]) rfl (EfQ.no ?_)
  exact (bT L1.out B2.out).grown hgr (bT L1.out B2.out).size (fun g hg => by injection hg with hg; rw [← hg, HB.out]; exact Nat.le_succ B)
set_option maxHeartbeats 8000000 in
set_option linter.unusedSimpArgs false in
theorem do_args (ao : Option Addr) (n c : Nat) (l : List UInt8) (at' : Int) (s : ByteArray) (fF tT : Int) (L D : Bool) (q : Int) (w : World) (HT : Hid (Tx w ao n c l)) (hf : ∀ C1 C2 C3, ∃ i v, Instr.findNow .string (.string s) (opes C1 C2 C3).toList 0 = some (some (i, v))) (h : ¬ ((0 ≤ at' ∧ at' ≤ (n : Int)) ∧ cntB q = true)) :
    Calls Tryz.prog 10 #[.slice ao n c, .int .i64 at', .string s, .agg #[.int .i64 fF, .int .i64 tT, .bool L, .bool D], .int .i64 q] w fun e w' => EfQ ef0 2 w e w' := by
  obtain ⟨W1, hW1⟩ : ∃ x, (w.alloc (.cells #[.int .i64 fF, .int .i64 tT, .bool L, .bool D] 28)).alloc (.cells #[.slice none 0 0, .int .i64 0, .bool false, .bool false, .slice none 0 0, .int .i64 0, .bool false] 35) = x := ⟨_, rfl⟩
  have T1 : Hid (Dob w W1 fF tT L D) := by unfold Hid; rw [← hW1]; exact Dob.new w _ _ _ _
  have HT1 := Hid.mk' (HT.out.keep T1.out.bel)
  have HLN := Hid.mk' HT.out.len
  have CM := Hid.mk' (opr_any W1)
  obtain ⟨B, hB⟩ : ∃ b, w.heap.size = b := ⟨_, rfl⟩
  have HB := Hid.mk' hB
  have K1 : Hid (Blk W1 B 28 (rgC fF tT L D)) := by unfold Hid; rw [← hB]; exact T1.out.rg
  have J1 : Hid (Blk W1 (B + 1) 35 (ef7 (.slice none 0 0) 0 false false (.slice none 0 0) 0 false)) := by unfold Hid; rw [← hB]; exact T1.out.ef
  have L1 := Hid.mk' T1.out.bel
  go_enter Tryz.func10, Tryz.ntmps10
  go_upto_region 1 with fail
  clear hW1 hB T1 HT
  go_upto_region 2 with (first | (go_at_call 35; refine CM.out.mono ?_; rintro e w2 ⟨r, C1, C2, C3, rfl, hm, k1, k2, k3, hb2⟩; obtain ⟨i9, v9, hf9⟩ := hf C1 C2 C3; have hlk := look_any hm s hf9; have K2 := Hid.mk' (K1.out.keep hb2); have J2 := Hid.mk' (J1.out.keep hb2); have B2 := Hid.mk' hb2; have M1 := Hid.mk' k1; have M2 := Hid.mk' k2; have M3 := Hid.mk' k3; clear hb2 K1 J1 k1 k2 k3 hm; obtain ⟨c0, c1, c2, c3⟩ := rgC_cells K2.out) | fail)
  clear hlk
  by_cases hp : (0 ≤ at' ∧ at' ≤ (n : Int))
  · have hq9 : cntB q = false := by cases e : cntB q with
      | true => exact absurd ⟨hp, e⟩ h
      | false => rfl
    have hp9 : decide (0 ≤ at' ∧ at' ≤ (n : Int)) = true := decide_eq_true hp
    go_upto_region 3 with (first | (go_at_call 36; have CP := oplace_any ao n c at' w2; rw [hp9] at CP; refine CP.mono ?_; rintro e w' ⟨rfl, hw⟩; have hq := hw.symm; subst hq; clear hw CP) | (go_at_call 37; have CP := ocount_any q w2; rw [hq9] at CP; refine CP.mono ?_; rintro e w' ⟨rfl, hw⟩; have hq := hw.symm; subst hq; clear hw CP) | fail)
    obtain ⟨j0, j1, j2, j3, j4, j5, j6⟩ := ef_cells J2.out
    obtain ⟨f0, f1, f2, f3, f4, f5, f6⟩ := ef_frozen J2.out
    have hbk := ef_store J2.out (.slice none 0 0) (.int .i64 0) (.bool false) (.bool false) (.slice none 0 0) (.int .i64 0) (.bool false)
    have hgr := ef_grown w2 (B + 1) (.slice none 0 0) (.int .i64 0) (.bool false) (.bool false) (.slice none 0 0) (.int .i64 0) (.bool false)
    go_wp2_with fail
    generalize (((((((w2.setCell ⟨B + 1, 0, none⟩ (.slice none 0 0)).setCell ⟨B + 1, 1, none⟩ (.int .i64 0)).setCell ⟨B + 1, 2, none⟩ (.bool false)).setCell ⟨B + 1, 3, none⟩ (.bool false)).setCell ⟨B + 1, 4, none⟩ (.slice none 0 0)).setCell ⟨B + 1, 5, none⟩ (.int .i64 0)).setCell ⟨B + 1, 6, none⟩ (.bool false)) = w9 at *
    obtain ⟨g0, g1, g2, g3, g4, g5, g6⟩ := ef_cells hbk
    refine bodyPost_ret (v := .tuple #[efz, .int .i64 2]) (by simp [results, efz, Tryz.results10, go_sem, g0, g1, g2, g3, g4, g5, g6]) rfl (EfQ.no ?_)
    exact (bT L1.out B2.out).grown hgr (bT L1.out B2.out).size (fun g hg => by injection hg with hg; rw [← hg, HB.out]; exact Nat.le_succ B)
  · have hp9 : decide (0 ≤ at' ∧ at' ≤ (n : Int)) = false := decide_eq_false hp
    go_upto_region 3 with (first | (go_at_call 36; have CP := oplace_any ao n c at' w2; rw [hp9] at CP; refine CP.mono ?_; rintro e w' ⟨rfl, hw⟩; have hq := hw.symm; subst hq; clear hw CP) | fail)
    obtain ⟨j0, j1, j2, j3, j4, j5, j6⟩ := ef_cells J2.out
    obtain ⟨f0, f1, f2, f3, f4, f5, f6⟩ := ef_frozen J2.out
    have hbk := ef_store J2.out (.slice none 0 0) (.int .i64 0) (.bool false) (.bool false) (.slice none 0 0) (.int .i64 0) (.bool false)
    have hgr := ef_grown w2 (B + 1) (.slice none 0 0) (.int .i64 0) (.bool false) (.bool false) (.slice none 0 0) (.int .i64 0) (.bool false)
    go_wp2_with fail
    generalize (((((((w2.setCell ⟨B + 1, 0, none⟩ (.slice none 0 0)).setCell ⟨B + 1, 1, none⟩ (.int .i64 0)).setCell ⟨B + 1, 2, none⟩ (.bool false)).setCell ⟨B + 1, 3, none⟩ (.bool false)).setCell ⟨B + 1, 4, none⟩ (.slice none 0 0)).setCell ⟨B + 1, 5, none⟩ (.int .i64 0)).setCell ⟨B + 1, 6, none⟩ (.bool false)) = w9 at *
    obtain ⟨g0, g1, g2, g3, g4, g5, g6⟩ := ef_cells hbk
    refine bodyPost_ret (v := .tuple #[efz, .int .i64 2]) (by simp [results, efz, Tryz.results10, go_sem, g0, g1, g2, g3, g4, g5, g6]) rfl (EfQ.no ?_)
    exact (bT L1.out B2.out).grown hgr (bT L1.out B2.out).size (fun g hg => by injection hg with hg; rw [← hg, HB.out]; exact Nat.le_succ B)
set_option maxHeartbeats 8000000 in
set_option linter.unusedSimpArgs false in
theorem do_lines (ao : Option Addr) (n c : Nat) (l : List UInt8) (at' : Int) (s : ByteArray) (fF tT : Int) (L D : Bool) (q : Int) (w : World) (HT : Hid (Tx w ao n c l)) (hf : ∀ C1 C2 C3, ∃ i v, Instr.findNow .string (.string s) (opes C1 C2 C3).toList 0 = some (some (i, v))) (hp : 0 ≤ at' ∧ at' ≤ (n : Int)) (hq9 : cntB q = true) (hl : (lnO l at'.toNat fF tT L D).2.2 = false) :
    Calls Tryz.prog 10 #[.slice ao n c, .int .i64 at', .string s, .agg #[.int .i64 fF, .int .i64 tT, .bool L, .bool D], .int .i64 q] w fun e w' => EfQ ef0 2 w e w' := by
  obtain ⟨W1, hW1⟩ : ∃ x, (w.alloc (.cells #[.int .i64 fF, .int .i64 tT, .bool L, .bool D] 28)).alloc (.cells #[.slice none 0 0, .int .i64 0, .bool false, .bool false, .slice none 0 0, .int .i64 0, .bool false] 35) = x := ⟨_, rfl⟩
  have T1 : Hid (Dob w W1 fF tT L D) := by unfold Hid; rw [← hW1]; exact Dob.new w _ _ _ _
  have HT1 := Hid.mk' (HT.out.keep T1.out.bel)
  have HLN := Hid.mk' HT.out.len
  have CM := Hid.mk' (opr_any W1)
  obtain ⟨B, hB⟩ : ∃ b, w.heap.size = b := ⟨_, rfl⟩
  have HB := Hid.mk' hB
  have K1 : Hid (Blk W1 B 28 (rgC fF tT L D)) := by unfold Hid; rw [← hB]; exact T1.out.rg
  have J1 : Hid (Blk W1 (B + 1) 35 (ef7 (.slice none 0 0) 0 false false (.slice none 0 0) 0 false)) := by unfold Hid; rw [← hB]; exact T1.out.ef
  have L1 := Hid.mk' T1.out.bel
  have hp9 : decide (0 ≤ at' ∧ at' ≤ (n : Int)) = true := decide_eq_true hp
  obtain ⟨k, hk⟩ : ∃ k : Nat, at' = (k : Int) := ⟨at'.toNat, by omega⟩
  subst hk
  have CL : Hid (∀ W, Below W1.heap.size W1 W → Calls Tryz.prog 38 #[.slice ao n c, .int .i64 (k : Int), .agg #[.int .i64 fF, .int .i64 tT, .bool L, .bool D]] W fun e w' => e = .returned (lnV (lnO l k fF tT L D)) ∧ Below W.heap.size W w') := fun W hW => linesOf_any' ao n c k fF tT L D l W (HT1.out.keep hW) (by omega)
  unfold lnV at CL
  rw [show ((k : Int)).toNat = k from rfl] at hl
  generalize lnO l k fF tT L D = x at *
  obtain ⟨x1, x2, x3⟩ := x
  dsimp only at hl CL
  subst hl
  go_enter Tryz.func10, Tryz.ntmps10
  go_upto_region 1 with fail
  clear hW1 hB T1 HT
  go_upto_region 2 with (first | (go_at_call 35; refine CM.out.mono ?_; rintro e w2 ⟨r, C1, C2, C3, rfl, hm, k1, k2, k3, hb2⟩; obtain ⟨i9, v9, hf9⟩ := hf C1 C2 C3; have hlk := look_any hm s hf9; have K2 := Hid.mk' (K1.out.keep hb2); have J2 := Hid.mk' (J1.out.keep hb2); have B2 := Hid.mk' hb2; have M1 := Hid.mk' k1; have M2 := Hid.mk' k2; have M3 := Hid.mk' k3; clear hb2 K1 J1 k1 k2 k3 hm; obtain ⟨c0, c1, c2, c3⟩ := rgC_cells K2.out) | fail)
  clear hlk
  go_upto_region 4 with (first | (go_at_call 36; have CP := oplace_any ao n c (k : Int) w2; rw [hp9] at CP; refine CP.mono ?_; rintro e w' ⟨rfl, hw⟩; have hq := hw.symm; subst hq; clear hw CP) | (go_at_call 37; have CP := ocount_any q w2; rw [hq9] at CP; refine CP.mono ?_; rintro e w' ⟨rfl, hw⟩; have hq := hw.symm; subst hq; clear hw CP) | fail)
  go_upto_region 6 with (first | (go_at_call 38; refine (CL.out w2 B2.out).mono ?_; rintro e w3 ⟨rfl, hb3⟩; have K3 := Hid.mk' (K2.out.keep hb3); have J3 := Hid.mk' (J2.out.keep hb3); have B3 := Hid.mk' (bT B2.out hb3); have N1 := Hid.mk' (M1.out.keep hb3); have N2 := Hid.mk' (M2.out.keep hb3); have N3 := Hid.mk' (M3.out.keep hb3); clear hb3 K2 J2 B2 M1 M2 M3 CL c0 c1 c2 c3; obtain ⟨c0, c1, c2, c3⟩ := rgC_cells K3.out) | fail)
  obtain ⟨j0, j1, j2, j3, j4, j5, j6⟩ := ef_cells J3.out
  obtain ⟨f0, f1, f2, f3, f4, f5, f6⟩ := ef_frozen J3.out
  have hbk := ef_store J3.out (.slice none 0 0) (.int .i64 0) (.bool false) (.bool false) (.slice none 0 0) (.int .i64 0) (.bool false)
  have hgr := ef_grown w3 (B + 1) (.slice none 0 0) (.int .i64 0) (.bool false) (.bool false) (.slice none 0 0) (.int .i64 0) (.bool false)
  go_wp2_with fail
  generalize (((((((w3.setCell ⟨B + 1, 0, none⟩ (.slice none 0 0)).setCell ⟨B + 1, 1, none⟩ (.int .i64 0)).setCell ⟨B + 1, 2, none⟩ (.bool false)).setCell ⟨B + 1, 3, none⟩ (.bool false)).setCell ⟨B + 1, 4, none⟩ (.slice none 0 0)).setCell ⟨B + 1, 5, none⟩ (.int .i64 0)).setCell ⟨B + 1, 6, none⟩ (.bool false)) = w9 at *
  obtain ⟨g0, g1, g2, g3, g4, g5, g6⟩ := ef_cells hbk
  refine bodyPost_ret (v := .tuple #[efz, .int .i64 2]) (by simp [results, efz, Tryz.results10, go_sem, g0, g1, g2, g3, g4, g5, g6]) rfl (EfQ.no ?_)
  exact (bT L1.out B3.out).grown hgr (bT L1.out B3.out).size (fun g hg => by injection hg with hg; rw [← hg, HB.out]; exact Nat.le_succ B)
set_option maxHeartbeats 8000000 in
set_option linter.unusedSimpArgs false in
theorem do_idle (ao : Option Addr) (n c : Nat) (l : List UInt8) (at' : Int) (s : ByteArray) (fF tT : Int) (L D : Bool) (q : Int) (w : World) (HT : Hid (Tx w ao n c l)) (isd isc : Bool) (hsd : (s.toList == [100]) = isd) (hsc : (s.toList == [99]) = isc) (hf : ∀ C1 C2 C3, ∃ i v, Instr.findNow .string (.string s) (opes C1 C2 C3).toList 0 = some (some (i, v))) (hp : 0 ≤ at' ∧ at' ≤ (n : Int)) (hq9 : cntB q = true) (hl : (lnO l at'.toNat fF tT L D).2.2 = true) (he : fF = tT) (hi : idl isd isc L = true) :
    Calls Tryz.prog 10 #[.slice ao n c, .int .i64 at', .string s, .agg #[.int .i64 fF, .int .i64 tT, .bool L, .bool D], .int .i64 q] w fun e w' => EfQ ef0 190 w e w' := by
  obtain ⟨W1, hW1⟩ : ∃ x, (w.alloc (.cells #[.int .i64 fF, .int .i64 tT, .bool L, .bool D] 28)).alloc (.cells #[.slice none 0 0, .int .i64 0, .bool false, .bool false, .slice none 0 0, .int .i64 0, .bool false] 35) = x := ⟨_, rfl⟩
  have T1 : Hid (Dob w W1 fF tT L D) := by unfold Hid; rw [← hW1]; exact Dob.new w _ _ _ _
  have HT1 := Hid.mk' (HT.out.keep T1.out.bel)
  have HLN := Hid.mk' HT.out.len
  have CM := Hid.mk' (opr_any W1)
  obtain ⟨B, hB⟩ : ∃ b, w.heap.size = b := ⟨_, rfl⟩
  have HB := Hid.mk' hB
  have K1 : Hid (Blk W1 B 28 (rgC fF tT L D)) := by unfold Hid; rw [← hB]; exact T1.out.rg
  have J1 : Hid (Blk W1 (B + 1) 35 (ef7 (.slice none 0 0) 0 false false (.slice none 0 0) 0 false)) := by unfold Hid; rw [← hB]; exact T1.out.ef
  have L1 := Hid.mk' T1.out.bel
  have hp9 : decide (0 ≤ at' ∧ at' ≤ (n : Int)) = true := decide_eq_true hp
  obtain ⟨k, hk⟩ : ∃ k : Nat, at' = (k : Int) := ⟨at'.toNat, by omega⟩
  subst hk
  have CL : Hid (∀ W, Below W1.heap.size W1 W → Calls Tryz.prog 38 #[.slice ao n c, .int .i64 (k : Int), .agg #[.int .i64 fF, .int .i64 tT, .bool L, .bool D]] W fun e w' => e = .returned (lnV (lnO l k fF tT L D)) ∧ Below W.heap.size W w') := fun W hW => linesOf_any' ao n c k fF tT L D l W (HT1.out.keep hW) (by omega)
  unfold lnV at CL
  rw [show ((k : Int)).toNat = k from rfl] at hl
  generalize lnO l k fF tT L D = x at *
  obtain ⟨x1, x2, x3⟩ := x
  dsimp only at hl CL
  subst hl
  subst he
  go_enter Tryz.func10, Tryz.ntmps10
  go_upto_region 1 with fail
  clear hW1 hB T1 HT
  go_upto_region 2 with (first | (go_at_call 35; refine CM.out.mono ?_; rintro e w2 ⟨r, C1, C2, C3, rfl, hm, k1, k2, k3, hb2⟩; obtain ⟨i9, v9, hf9⟩ := hf C1 C2 C3; have hlk := look_any hm s hf9; have K2 := Hid.mk' (K1.out.keep hb2); have J2 := Hid.mk' (J1.out.keep hb2); have B2 := Hid.mk' hb2; have M1 := Hid.mk' k1; have M2 := Hid.mk' k2; have M3 := Hid.mk' k3; clear hb2 K1 J1 k1 k2 k3 hm; obtain ⟨c0, c1, c2, c3⟩ := rgC_cells K2.out) | fail)
  clear hlk
  go_upto_region 4 with (first | (go_at_call 36; have CP := oplace_any ao n c (k : Int) w2; rw [hp9] at CP; refine CP.mono ?_; rintro e w' ⟨rfl, hw⟩; have hq := hw.symm; subst hq; clear hw CP) | (go_at_call 37; have CP := ocount_any q w2; rw [hq9] at CP; refine CP.mono ?_; rintro e w' ⟨rfl, hw⟩; have hq := hw.symm; subst hq; clear hw CP) | fail)
  go_upto_region 8 with (first | (go_at_call 38; refine (CL.out w2 B2.out).mono ?_; rintro e w3 ⟨rfl, hb3⟩; have K3 := Hid.mk' (K2.out.keep hb3); have J3 := Hid.mk' (J2.out.keep hb3); have B3 := Hid.mk' (bT B2.out hb3); have N1 := Hid.mk' (M1.out.keep hb3); have N2 := Hid.mk' (M2.out.keep hb3); have N3 := Hid.mk' (M3.out.keep hb3); clear hb3 K2 J2 B2 M1 M2 M3 CL c0 c1 c2 c3; obtain ⟨c0, c1, c2, c3⟩ := rgC_cells K3.out) | (go_at_call 39; have CI := idle_any s isd isc L w3 hsd hsc; rw [hi] at CI; refine CI.mono ?_; rintro e w' ⟨rfl, hw⟩; have hq := hw.symm; subst hq; clear hw CI) | fail)
  obtain ⟨j0, j1, j2, j3, j4, j5, j6⟩ := ef_cells J3.out
  obtain ⟨f0, f1, f2, f3, f4, f5, f6⟩ := ef_frozen J3.out
  have hbk := ef_store J3.out (.slice none 0 0) (.int .i64 0) (.bool false) (.bool false) (.slice none 0 0) (.int .i64 0) (.bool false)
  have hgr := ef_grown w3 (B + 1) (.slice none 0 0) (.int .i64 0) (.bool false) (.bool false) (.slice none 0 0) (.int .i64 0) (.bool false)
  go_wp2_with fail
  generalize (((((((w3.setCell ⟨B + 1, 0, none⟩ (.slice none 0 0)).setCell ⟨B + 1, 1, none⟩ (.int .i64 0)).setCell ⟨B + 1, 2, none⟩ (.bool false)).setCell ⟨B + 1, 3, none⟩ (.bool false)).setCell ⟨B + 1, 4, none⟩ (.slice none 0 0)).setCell ⟨B + 1, 5, none⟩ (.int .i64 0)).setCell ⟨B + 1, 6, none⟩ (.bool false)) = w9 at *
  obtain ⟨g0, g1, g2, g3, g4, g5, g6⟩ := ef_cells hbk
  refine bodyPost_ret (v := .tuple #[efz, .int .i64 190]) (by simp [results, efz, Tryz.results10, go_sem, g0, g1, g2, g3, g4, g5, g6]) rfl (EfQ.no ?_)
  exact (bT L1.out B3.out).grown hgr (bT L1.out B3.out).size (fun g hg => by injection hg with hg; rw [← hg, HB.out]; exact Nat.le_succ B)
end Go.Proofs.YtppefcnopkmhbaaGreatDoor
