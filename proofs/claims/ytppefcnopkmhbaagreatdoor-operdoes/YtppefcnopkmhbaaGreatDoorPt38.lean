/- Dok -/
import Derived.Test.YtppefcnopkmhbaaGreatDoorPt31
import Derived.Test.YtppefcnopkmhbaaGreatDoorPt22
namespace Go.Proofs.YtppefcnopkmhbaaGreatDoor
open Go.RowKit

set_option maxRecDepth 8000
theorem repl_any (ao : Option Addr) (n c k f t : Nat) (L D : Bool) (a b : Nat) (q : Int) (l : List UInt8) (w : World) (HT : Hid (Tx w ao n c l)) (hbig : n ≤ 1048576) (hg : rgB l (f : Int) (t : Int) L D = true) (hft : f ≤ t) (ht : t ≤ n) (hab : a ≤ b) (hbn : b ≤ nl l) :
    Calls Tryz.prog 69 #[tsk (.slice ao n c) (k : Int) (f : Int) (t : Int) L D (a : Int) (b : Int) q] w fun e w' => EfQ (cEf l f t L D a b) 0 w e w' := by
  unfold cEf
  cases L with
  | true =>
    rw [if_pos rfl]
    have hl := HT.out.len
    have h1 := sp_le (t := l) hbn
    have h2 := sp_mono hab hbn
    have h3 := en_ge l (sp l b)
    have h4 := en_le h1
    exact replace_L ao n c k f t _ _ D a b q l w HT hbig hg (by omega) (by omega) ⟨by omega, hbn, rfl, rfl⟩
  | false =>
    rw [if_neg (by simp)]
    by_cases he : f = t
    · subst he
      rw [if_pos rfl]
      exact replace_none ao n c k f D a b q w
    · rw [if_neg he]
      exact replace_B ao n c k f t D a b q l w HT hbig hg hft ht he
set_option maxHeartbeats 8000000 in
set_option linter.unusedSimpArgs false in
theorem do_op1 (ao : Option Addr) (n c : Nat) (l : List UInt8) (k f t a b q : Nat) (L D : Bool) (w : World) (HT : Hid (Tx w ao n c l)) (hbig : n ≤ 1048576) (hk : k ≤ n) (hq1 : 1 ≤ q) (hq : q ≤ 9999) (R : RgO l (f : Int) (t : Int) L D (lnO l k (f : Int) (t : Int) L D) f t a b) (hni : ¬ ((f : Int) = (t : Int) ∧ idl true false L = true)) :
    Calls Tryz.prog 10 #[.slice ao n c, .int .i64 (k : Int), .string ⟨#[100]⟩, .agg #[.int .i64 (f : Int), .int .i64 (t : Int), .bool L, .bool D], .int .i64 (q : Int)] w fun e w' => EfQ (rEf l f t L D a) (0) w e w' := by
  have hln := HT.out.len
  have ht : t ≤ n := by have := R.tn; omega
  have ha : (a : Int) ≤ 9223372036854775807 := by have h1 := R.ab; have h2 := R.bn; have h3 := nl_le l; omega
  have CC : Hid (∀ W C1 C2 C3, Tx W ao n c l → Blk W C1 110 (tfv 74) → Blk W C2 110 (tfv 75) → Blk W C3 110 (tfv 76) → Calls Tryz.prog 68 #[tsk (.slice ao n c) (k : Int) (f : Int) (t : Int) L D (a : Int) (b : Int) (q : Int)] W fun e w' => EfQ (rEf l f t L D a) (0) W e w') := fun W C1 C2 C3 HT M1 M2 M3 => remove_any ao n c k f t L D a (b : Int) (q : Int) l W HT hbig R.rg R.ft ht ha
  obtain ⟨W1, hW1⟩ : ∃ x, (w.alloc (.cells #[.int .i64 (f : Int), .int .i64 (t : Int), .bool L, .bool D] 28)).alloc (.cells #[.slice none 0 0, .int .i64 0, .bool false, .bool false, .slice none 0 0, .int .i64 0, .bool false] 35) = x := ⟨_, rfl⟩
  have T1 : Hid (Dob w W1 (f : Int) (t : Int) L D) := by unfold Hid; rw [← hW1]; exact Dob.new w _ _ _ _
  have HT1 := Hid.mk' (HT.out.keep T1.out.bel)
  have HLN := Hid.mk' HT.out.len
  have CM := Hid.mk' (opr_any W1)
  obtain ⟨B, hB⟩ : ∃ b, w.heap.size = b := ⟨_, rfl⟩
  have HB := Hid.mk' hB
  have K1 : Hid (Blk W1 B 28 (rgC (f : Int) (t : Int) L D)) := by unfold Hid; rw [← hB]; exact T1.out.rg
  have J1 : Hid (Blk W1 (B + 1) 35 (ef7 (.slice none 0 0) 0 false false (.slice none 0 0) 0 false)) := by unfold Hid; rw [← hB]; exact T1.out.ef
  have L1 := Hid.mk' T1.out.bel
  have CL : Hid (∀ W, Below W1.heap.size W1 W → Calls Tryz.prog 38 #[.slice ao n c, .int .i64 (k : Int), .agg #[.int .i64 (f : Int), .int .i64 (t : Int), .bool L, .bool D]] W fun e w' => e = .returned (lnV (lnO l k (f : Int) (t : Int) L D)) ∧ Below W.heap.size W w') := fun W hW => linesOf_any' ao n c k (f : Int) (t : Int) L D l W (HT1.out.keep hW) hk
  rw [R.eX] at CL
  unfold lnV at CL
  dsimp only at CL
  have hp9 : decide (0 ≤ (k : Int) ∧ (k : Int) ≤ (n : Int)) = true := decide_eq_true (by omega)
  have hq9 : cntB (q : Int) = true := by unfold cntB; rw [decide_eq_true (by omega), decide_eq_true (by omega)]; rfl
  unfold tsk at CC
  generalize (rEf l f t L D a) = x at *
  clear R
  go_enter Tryz.func10, Tryz.ntmps10
  go_upto_region 1 with fail
  clear hW1 hB T1 HT
  go_upto_region 2 with (first | (go_at_call 35; refine CM.out.mono ?_; rintro e w2 ⟨r, C1, C2, C3, rfl, hm, k1, k2, k3, hb2⟩; have hlk := look_any hm ⟨#[100]⟩ (i := 0) (v := .func (.func 68) #[] #[]) (by kernel_rfl); have K2 := Hid.mk' (K1.out.keep hb2); have J2 := Hid.mk' (J1.out.keep hb2); have B2 := Hid.mk' hb2; have M1 := Hid.mk' k1; have M2 := Hid.mk' k2; have M3 := Hid.mk' k3; clear hb2 K1 J1 k1 k2 k3 hm; obtain ⟨c0, c1, c2, c3⟩ := rgC_cells K2.out) | fail)
  clear hlk
  go_upto_region 4 with (first | (go_at_call 36; have CP := oplace_any ao n c (k : Int) w2; rw [hp9] at CP; refine CP.mono ?_; rintro e w' ⟨rfl, hw⟩; have hq := hw.symm; subst hq; clear hw CP) | (go_at_call 37; have CP := ocount_any (q : Int) w2; rw [hq9] at CP; refine CP.mono ?_; rintro e w' ⟨rfl, hw⟩; have hq := hw.symm; subst hq; clear hw CP) | fail)
  by_cases he : (f : Int) = (t : Int)
  · have hi : idl true false L = false := by
      cases e : idl true false L with
      | true => exact absurd ⟨he, e⟩ hni
      | false => rfl
    obtain rfl : f = t := by omega
    clear he
    go_upto_region 9 with (first | (go_at_call 38; refine (CL.out w2 B2.out).mono ?_; rintro e w3 ⟨rfl, hb3⟩; have K3 := Hid.mk' (K2.out.keep hb3); have J3 := Hid.mk' (J2.out.keep hb3); have B3 := Hid.mk' (bT B2.out hb3); have N1 := Hid.mk' (M1.out.keep hb3); have N2 := Hid.mk' (M2.out.keep hb3); have N3 := Hid.mk' (M3.out.keep hb3); clear hb3 K2 J2 B2 M1 M2 M3 CL c0 c1 c2 c3; obtain ⟨c0, c1, c2, c3⟩ := rgC_cells K3.out) | (go_at_call 39; have CI := idle_any ⟨#[100]⟩ true false L w3 (by decide +kernel) (by decide +kernel); rw [hi] at CI; refine CI.mono ?_; rintro e w' ⟨rfl, hw⟩; have hq := hw.symm; subst hq; clear hw CI) | fail)
    have CX := Hid.mk' (CC.out w3 C1 C2 C3 (HT1.out.keep B3.out) N1.out N2.out N3.out)
    clear CC
    go_wp2_with fail
    refine CX.out.mono ?_
    rintro e w5 ⟨v, F, tv, rfl, hF, hM, hb5⟩
    obtain ⟨es, cur, sset, lin, txt, how, typ⟩ := x
    obtain ⟨eo, ec, rfl, -, -⟩ := hM.eds.edz
    obtain ⟨to', tc, rfl⟩ := hM.tx.shape
    have J5 := Hid.mk' (J3.out.keep hb5)
    obtain ⟨j0, j1, j2, j3, j4, j5, j6⟩ := ef_cells J5.out
    obtain ⟨f0, f1, f2, f3, f4, f5, f6⟩ := ef_frozen J5.out
    have hbk := ef_store J5.out (.slice eo F.length ec) (.int .i64 cur) (.bool sset) (.bool lin) (.slice to' txt.length tc) (.int .i64 how) (.bool typ)
    have hgr := ef_grown w5 (B + 1) (.slice eo F.length ec) (.int .i64 cur) (.bool sset) (.bool lin) (.slice to' txt.length tc) (.int .i64 how) (.bool typ)
    have HF := Hid.mk' hF
    have HM := Hid.mk' hM
    have B5 := Hid.mk' hb5
    clear hF hM hb5 CX K3 c0 c1 c2 c3
    unfold efV
    dsimp only
    go_wp2_with fail
    generalize (((((((w5.setCell ⟨B + 1, 0, none⟩ (.slice eo F.length ec)).setCell ⟨B + 1, 1, none⟩ (.int .i64 cur)).setCell ⟨B + 1, 2, none⟩ (.bool sset)).setCell ⟨B + 1, 3, none⟩ (.bool lin)).setCell ⟨B + 1, 4, none⟩ (.slice to' txt.length tc)).setCell ⟨B + 1, 5, none⟩ (.int .i64 how)).setCell ⟨B + 1, 6, none⟩ (.bool typ)) = w9 at *
    obtain ⟨g0, g1, g2, g3, g4, g5, g6⟩ := ef_cells hbk
    refine bodyPost_ret (v := .tuple #[.agg #[.slice eo F.length ec, .int .i64 cur, .bool sset, .bool lin, .slice to' txt.length tc, .int .i64 how, .bool typ], .int .i64 0]) (by simp [results, Tryz.results10, go_sem, g0, g1, g2, g3, g4, g5, g6]) rfl ?_
    exact EfQ.out HF.out HM.out (bT L1.out B3.out) (Below.refl _ _ |>.trans B5.out) hgr J3.out.lt (by have := HB.out; omega)
  · have hne : ¬ (f = t) := by omega
    go_upto_region 9 with (first | (go_at_call 38; refine (CL.out w2 B2.out).mono ?_; rintro e w3 ⟨rfl, hb3⟩; have K3 := Hid.mk' (K2.out.keep hb3); have J3 := Hid.mk' (J2.out.keep hb3); have B3 := Hid.mk' (bT B2.out hb3); have N1 := Hid.mk' (M1.out.keep hb3); have N2 := Hid.mk' (M2.out.keep hb3); have N3 := Hid.mk' (M3.out.keep hb3); clear hb3 K2 J2 B2 M1 M2 M3 CL c0 c1 c2 c3; obtain ⟨c0, c1, c2, c3⟩ := rgC_cells K3.out) | fail)
    have CX := Hid.mk' (CC.out w3 C1 C2 C3 (HT1.out.keep B3.out) N1.out N2.out N3.out)
    clear CC
    go_wp2_with fail
    refine CX.out.mono ?_
    rintro e w5 ⟨v, F, tv, rfl, hF, hM, hb5⟩
    obtain ⟨es, cur, sset, lin, txt, how, typ⟩ := x
    obtain ⟨eo, ec, rfl, -, -⟩ := hM.eds.edz
    obtain ⟨to', tc, rfl⟩ := hM.tx.shape
    have J5 := Hid.mk' (J3.out.keep hb5)
    obtain ⟨j0, j1, j2, j3, j4, j5, j6⟩ := ef_cells J5.out
    obtain ⟨f0, f1, f2, f3, f4, f5, f6⟩ := ef_frozen J5.out
    have hbk := ef_store J5.out (.slice eo F.length ec) (.int .i64 cur) (.bool sset) (.bool lin) (.slice to' txt.length tc) (.int .i64 how) (.bool typ)
    have hgr := ef_grown w5 (B + 1) (.slice eo F.length ec) (.int .i64 cur) (.bool sset) (.bool lin) (.slice to' txt.length tc) (.int .i64 how) (.bool typ)
    have HF := Hid.mk' hF
    have HM := Hid.mk' hM
    have B5 := Hid.mk' hb5
    clear hF hM hb5 CX K3 c0 c1 c2 c3
    unfold efV
    dsimp only
    go_wp2_with fail
    generalize (((((((w5.setCell ⟨B + 1, 0, none⟩ (.slice eo F.length ec)).setCell ⟨B + 1, 1, none⟩ (.int .i64 cur)).setCell ⟨B + 1, 2, none⟩ (.bool sset)).setCell ⟨B + 1, 3, none⟩ (.bool lin)).setCell ⟨B + 1, 4, none⟩ (.slice to' txt.length tc)).setCell ⟨B + 1, 5, none⟩ (.int .i64 how)).setCell ⟨B + 1, 6, none⟩ (.bool typ)) = w9 at *
    obtain ⟨g0, g1, g2, g3, g4, g5, g6⟩ := ef_cells hbk
    refine bodyPost_ret (v := .tuple #[.agg #[.slice eo F.length ec, .int .i64 cur, .bool sset, .bool lin, .slice to' txt.length tc, .int .i64 how, .bool typ], .int .i64 0]) (by simp [results, Tryz.results10, go_sem, g0, g1, g2, g3, g4, g5, g6]) rfl ?_
    exact EfQ.out HF.out HM.out (bT L1.out B3.out) (Below.refl _ _ |>.trans B5.out) hgr J3.out.lt (by have := HB.out; omega)
set_option maxHeartbeats 8000000 in
set_option linter.unusedSimpArgs false in
theorem do_op2 (ao : Option Addr) (n c : Nat) (l : List UInt8) (k f t a b q : Nat) (L D : Bool) (w : World) (HT : Hid (Tx w ao n c l)) (hbig : n ≤ 1048576) (hk : k ≤ n) (hq1 : 1 ≤ q) (hq : q ≤ 9999) (R : RgO l (f : Int) (t : Int) L D (lnO l k (f : Int) (t : Int) L D) f t a b) (hni : ¬ ((f : Int) = (t : Int) ∧ idl false true L = true)) :
    Calls Tryz.prog 10 #[.slice ao n c, .int .i64 (k : Int), .string ⟨#[99]⟩, .agg #[.int .i64 (f : Int), .int .i64 (t : Int), .bool L, .bool D], .int .i64 (q : Int)] w fun e w' => EfQ (cEf l f t L D a b) (0) w e w' := by
  have hln := HT.out.len
  have ht : t ≤ n := by have := R.tn; omega
  have ha : (a : Int) ≤ 9223372036854775807 := by have h1 := R.ab; have h2 := R.bn; have h3 := nl_le l; omega
  have CC : Hid (∀ W C1 C2 C3, Tx W ao n c l → Blk W C1 110 (tfv 74) → Blk W C2 110 (tfv 75) → Blk W C3 110 (tfv 76) → Calls Tryz.prog 69 #[tsk (.slice ao n c) (k : Int) (f : Int) (t : Int) L D (a : Int) (b : Int) (q : Int)] W fun e w' => EfQ (cEf l f t L D a b) (0) W e w') := fun W C1 C2 C3 HT M1 M2 M3 => repl_any ao n c k f t L D a b (q : Int) l W HT hbig R.rg R.ft ht R.ab R.bn
  obtain ⟨W1, hW1⟩ : ∃ x, (w.alloc (.cells #[.int .i64 (f : Int), .int .i64 (t : Int), .bool L, .bool D] 28)).alloc (.cells #[.slice none 0 0, .int .i64 0, .bool false, .bool false, .slice none 0 0, .int .i64 0, .bool false] 35) = x := ⟨_, rfl⟩
  have T1 : Hid (Dob w W1 (f : Int) (t : Int) L D) := by unfold Hid; rw [← hW1]; exact Dob.new w _ _ _ _
  have HT1 := Hid.mk' (HT.out.keep T1.out.bel)
  have HLN := Hid.mk' HT.out.len
  have CM := Hid.mk' (opr_any W1)
  obtain ⟨B, hB⟩ : ∃ b, w.heap.size = b := ⟨_, rfl⟩
  have HB := Hid.mk' hB
  have K1 : Hid (Blk W1 B 28 (rgC (f : Int) (t : Int) L D)) := by unfold Hid; rw [← hB]; exact T1.out.rg
  have J1 : Hid (Blk W1 (B + 1) 35 (ef7 (.slice none 0 0) 0 false false (.slice none 0 0) 0 false)) := by unfold Hid; rw [← hB]; exact T1.out.ef
  have L1 := Hid.mk' T1.out.bel
  have CL : Hid (∀ W, Below W1.heap.size W1 W → Calls Tryz.prog 38 #[.slice ao n c, .int .i64 (k : Int), .agg #[.int .i64 (f : Int), .int .i64 (t : Int), .bool L, .bool D]] W fun e w' => e = .returned (lnV (lnO l k (f : Int) (t : Int) L D)) ∧ Below W.heap.size W w') := fun W hW => linesOf_any' ao n c k (f : Int) (t : Int) L D l W (HT1.out.keep hW) hk
  rw [R.eX] at CL
  unfold lnV at CL
  dsimp only at CL
  have hp9 : decide (0 ≤ (k : Int) ∧ (k : Int) ≤ (n : Int)) = true := decide_eq_true (by omega)
  have hq9 : cntB (q : Int) = true := by unfold cntB; rw [decide_eq_true (by omega), decide_eq_true (by omega)]; rfl
  unfold tsk at CC
  generalize (cEf l f t L D a b) = x at *
  clear R
  go_enter Tryz.func10, Tryz.ntmps10
  go_upto_region 1 with fail
  clear hW1 hB T1 HT
  go_upto_region 2 with (first | (go_at_call 35; refine CM.out.mono ?_; rintro e w2 ⟨r, C1, C2, C3, rfl, hm, k1, k2, k3, hb2⟩; have hlk := look_any hm ⟨#[99]⟩ (i := 1) (v := .func (.func 69) #[] #[]) (by kernel_rfl); have K2 := Hid.mk' (K1.out.keep hb2); have J2 := Hid.mk' (J1.out.keep hb2); have B2 := Hid.mk' hb2; have M1 := Hid.mk' k1; have M2 := Hid.mk' k2; have M3 := Hid.mk' k3; clear hb2 K1 J1 k1 k2 k3 hm; obtain ⟨c0, c1, c2, c3⟩ := rgC_cells K2.out) | fail)
  clear hlk
  go_upto_region 4 with (first | (go_at_call 36; have CP := oplace_any ao n c (k : Int) w2; rw [hp9] at CP; refine CP.mono ?_; rintro e w' ⟨rfl, hw⟩; have hq := hw.symm; subst hq; clear hw CP) | (go_at_call 37; have CP := ocount_any (q : Int) w2; rw [hq9] at CP; refine CP.mono ?_; rintro e w' ⟨rfl, hw⟩; have hq := hw.symm; subst hq; clear hw CP) | fail)
  by_cases he : (f : Int) = (t : Int)
  · have hi : idl false true L = false := by
      cases e : idl false true L with
      | true => exact absurd ⟨he, e⟩ hni
      | false => rfl
    obtain rfl : f = t := by omega
    clear he
    go_upto_region 9 with (first | (go_at_call 38; refine (CL.out w2 B2.out).mono ?_; rintro e w3 ⟨rfl, hb3⟩; have K3 := Hid.mk' (K2.out.keep hb3); have J3 := Hid.mk' (J2.out.keep hb3); have B3 := Hid.mk' (bT B2.out hb3); have N1 := Hid.mk' (M1.out.keep hb3); have N2 := Hid.mk' (M2.out.keep hb3); have N3 := Hid.mk' (M3.out.keep hb3); clear hb3 K2 J2 B2 M1 M2 M3 CL c0 c1 c2 c3; obtain ⟨c0, c1, c2, c3⟩ := rgC_cells K3.out) | (go_at_call 39; have CI := idle_any ⟨#[99]⟩ false true L w3 (by decide +kernel) (by decide +kernel); rw [hi] at CI; refine CI.mono ?_; rintro e w' ⟨rfl, hw⟩; have hq := hw.symm; subst hq; clear hw CI) | fail)
    have CX := Hid.mk' (CC.out w3 C1 C2 C3 (HT1.out.keep B3.out) N1.out N2.out N3.out)
    clear CC
    go_wp2_with fail
    refine CX.out.mono ?_
    rintro e w5 ⟨v, F, tv, rfl, hF, hM, hb5⟩
    obtain ⟨es, cur, sset, lin, txt, how, typ⟩ := x
    obtain ⟨eo, ec, rfl, -, -⟩ := hM.eds.edz
    obtain ⟨to', tc, rfl⟩ := hM.tx.shape
    have J5 := Hid.mk' (J3.out.keep hb5)
    obtain ⟨j0, j1, j2, j3, j4, j5, j6⟩ := ef_cells J5.out
    obtain ⟨f0, f1, f2, f3, f4, f5, f6⟩ := ef_frozen J5.out
    have hbk := ef_store J5.out (.slice eo F.length ec) (.int .i64 cur) (.bool sset) (.bool lin) (.slice to' txt.length tc) (.int .i64 how) (.bool typ)
    have hgr := ef_grown w5 (B + 1) (.slice eo F.length ec) (.int .i64 cur) (.bool sset) (.bool lin) (.slice to' txt.length tc) (.int .i64 how) (.bool typ)
    have HF := Hid.mk' hF
    have HM := Hid.mk' hM
    have B5 := Hid.mk' hb5
    clear hF hM hb5 CX K3 c0 c1 c2 c3
    unfold efV
    dsimp only
    go_wp2_with fail
    generalize (((((((w5.setCell ⟨B + 1, 0, none⟩ (.slice eo F.length ec)).setCell ⟨B + 1, 1, none⟩ (.int .i64 cur)).setCell ⟨B + 1, 2, none⟩ (.bool sset)).setCell ⟨B + 1, 3, none⟩ (.bool lin)).setCell ⟨B + 1, 4, none⟩ (.slice to' txt.length tc)).setCell ⟨B + 1, 5, none⟩ (.int .i64 how)).setCell ⟨B + 1, 6, none⟩ (.bool typ)) = w9 at *
    obtain ⟨g0, g1, g2, g3, g4, g5, g6⟩ := ef_cells hbk
    refine bodyPost_ret (v := .tuple #[.agg #[.slice eo F.length ec, .int .i64 cur, .bool sset, .bool lin, .slice to' txt.length tc, .int .i64 how, .bool typ], .int .i64 0]) (by simp [results, Tryz.results10, go_sem, g0, g1, g2, g3, g4, g5, g6]) rfl ?_
    exact EfQ.out HF.out HM.out (bT L1.out B3.out) (Below.refl _ _ |>.trans B5.out) hgr J3.out.lt (by have := HB.out; omega)
  · have hne : ¬ (f = t) := by omega
    go_upto_region 9 with (first | (go_at_call 38; refine (CL.out w2 B2.out).mono ?_; rintro e w3 ⟨rfl, hb3⟩; have K3 := Hid.mk' (K2.out.keep hb3); have J3 := Hid.mk' (J2.out.keep hb3); have B3 := Hid.mk' (bT B2.out hb3); have N1 := Hid.mk' (M1.out.keep hb3); have N2 := Hid.mk' (M2.out.keep hb3); have N3 := Hid.mk' (M3.out.keep hb3); clear hb3 K2 J2 B2 M1 M2 M3 CL c0 c1 c2 c3; obtain ⟨c0, c1, c2, c3⟩ := rgC_cells K3.out) | fail)
    have CX := Hid.mk' (CC.out w3 C1 C2 C3 (HT1.out.keep B3.out) N1.out N2.out N3.out)
    clear CC
    go_wp2_with fail
    refine CX.out.mono ?_
    rintro e w5 ⟨v, F, tv, rfl, hF, hM, hb5⟩
    obtain ⟨es, cur, sset, lin, txt, how, typ⟩ := x
    obtain ⟨eo, ec, rfl, -, -⟩ := hM.eds.edz
    obtain ⟨to', tc, rfl⟩ := hM.tx.shape
    have J5 := Hid.mk' (J3.out.keep hb5)
    obtain ⟨j0, j1, j2, j3, j4, j5, j6⟩ := ef_cells J5.out
    obtain ⟨f0, f1, f2, f3, f4, f5, f6⟩ := ef_frozen J5.out
    have hbk := ef_store J5.out (.slice eo F.length ec) (.int .i64 cur) (.bool sset) (.bool lin) (.slice to' txt.length tc) (.int .i64 how) (.bool typ)
    have hgr := ef_grown w5 (B + 1) (.slice eo F.length ec) (.int .i64 cur) (.bool sset) (.bool lin) (.slice to' txt.length tc) (.int .i64 how) (.bool typ)
    have HF := Hid.mk' hF
    have HM := Hid.mk' hM
    have B5 := Hid.mk' hb5
    clear hF hM hb5 CX K3 c0 c1 c2 c3
    unfold efV
    dsimp only
    go_wp2_with fail
    generalize (((((((w5.setCell ⟨B + 1, 0, none⟩ (.slice eo F.length ec)).setCell ⟨B + 1, 1, none⟩ (.int .i64 cur)).setCell ⟨B + 1, 2, none⟩ (.bool sset)).setCell ⟨B + 1, 3, none⟩ (.bool lin)).setCell ⟨B + 1, 4, none⟩ (.slice to' txt.length tc)).setCell ⟨B + 1, 5, none⟩ (.int .i64 how)).setCell ⟨B + 1, 6, none⟩ (.bool typ)) = w9 at *
    obtain ⟨g0, g1, g2, g3, g4, g5, g6⟩ := ef_cells hbk
    refine bodyPost_ret (v := .tuple #[.agg #[.slice eo F.length ec, .int .i64 cur, .bool sset, .bool lin, .slice to' txt.length tc, .int .i64 how, .bool typ], .int .i64 0]) (by simp [results, Tryz.results10, go_sem, g0, g1, g2, g3, g4, g5, g6]) rfl ?_
    exact EfQ.out HF.out HM.out (bT L1.out B3.out) (Below.refl _ _ |>.trans B5.out) hgr J3.out.lt (by have := HB.out; omega)
set_option maxHeartbeats 8000000 in
set_option linter.unusedSimpArgs false in
theorem do_op3 (ao : Option Addr) (n c : Nat) (l : List UInt8) (k f t a b q : Nat) (L D : Bool) (w : World) (HT : Hid (Tx w ao n c l)) (hbig : n ≤ 1048576) (hk : k ≤ n) (hq1 : 1 ≤ q) (hq : q ≤ 9999) (R : RgO l (f : Int) (t : Int) L D (lnO l k (f : Int) (t : Int) L D) f t a b) (hni : ¬ ((f : Int) = (t : Int) ∧ idl false false L = true)) :
    Calls Tryz.prog 10 #[.slice ao n c, .int .i64 (k : Int), .string ⟨#[121]⟩, .agg #[.int .i64 (f : Int), .int .i64 (t : Int), .bool L, .bool D], .int .i64 (q : Int)] w fun e w' => EfQ (yEf l k f t L D (a : Int)) (0) w e w' := by
  have hln := HT.out.len
  have ht : t ≤ n := by have := R.tn; omega
  have ha : (a : Int) ≤ 9223372036854775807 := by have h1 := R.ab; have h2 := R.bn; have h3 := nl_le l; omega
  have CC : Hid (∀ W C1 C2 C3, Tx W ao n c l → Blk W C1 110 (tfv 74) → Blk W C2 110 (tfv 75) → Blk W C3 110 (tfv 76) → Calls Tryz.prog 70 #[tsk (.slice ao n c) (k : Int) (f : Int) (t : Int) L D (a : Int) (b : Int) (q : Int)] W fun e w' => EfQ (yEf l k f t L D (a : Int)) (0) W e w') := fun W C1 C2 C3 HT M1 M2 M3 => yank_any ao n c k f t L D (a : Int) (b : Int) (q : Int) l W HT hbig R.rg hk ha
  obtain ⟨W1, hW1⟩ : ∃ x, (w.alloc (.cells #[.int .i64 (f : Int), .int .i64 (t : Int), .bool L, .bool D] 28)).alloc (.cells #[.slice none 0 0, .int .i64 0, .bool false, .bool false, .slice none 0 0, .int .i64 0, .bool false] 35) = x := ⟨_, rfl⟩
  have T1 : Hid (Dob w W1 (f : Int) (t : Int) L D) := by unfold Hid; rw [← hW1]; exact Dob.new w _ _ _ _
  have HT1 := Hid.mk' (HT.out.keep T1.out.bel)
  have HLN := Hid.mk' HT.out.len
  have CM := Hid.mk' (opr_any W1)
  obtain ⟨B, hB⟩ : ∃ b, w.heap.size = b := ⟨_, rfl⟩
  have HB := Hid.mk' hB
  have K1 : Hid (Blk W1 B 28 (rgC (f : Int) (t : Int) L D)) := by unfold Hid; rw [← hB]; exact T1.out.rg
  have J1 : Hid (Blk W1 (B + 1) 35 (ef7 (.slice none 0 0) 0 false false (.slice none 0 0) 0 false)) := by unfold Hid; rw [← hB]; exact T1.out.ef
  have L1 := Hid.mk' T1.out.bel
  have CL : Hid (∀ W, Below W1.heap.size W1 W → Calls Tryz.prog 38 #[.slice ao n c, .int .i64 (k : Int), .agg #[.int .i64 (f : Int), .int .i64 (t : Int), .bool L, .bool D]] W fun e w' => e = .returned (lnV (lnO l k (f : Int) (t : Int) L D)) ∧ Below W.heap.size W w') := fun W hW => linesOf_any' ao n c k (f : Int) (t : Int) L D l W (HT1.out.keep hW) hk
  rw [R.eX] at CL
  unfold lnV at CL
  dsimp only at CL
  have hp9 : decide (0 ≤ (k : Int) ∧ (k : Int) ≤ (n : Int)) = true := decide_eq_true (by omega)
  have hq9 : cntB (q : Int) = true := by unfold cntB; rw [decide_eq_true (by omega), decide_eq_true (by omega)]; rfl
  unfold tsk at CC
  generalize (yEf l k f t L D (a : Int)) = x at *
  clear R
  go_enter Tryz.func10, Tryz.ntmps10
  go_upto_region 1 with fail
  clear hW1 hB T1 HT
  go_upto_region 2 with (first | (go_at_call 35; refine CM.out.mono ?_; rintro e w2 ⟨r, C1, C2, C3, rfl, hm, k1, k2, k3, hb2⟩; have hlk := look_any hm ⟨#[121]⟩ (i := 2) (v := .func (.func 70) #[] #[]) (by kernel_rfl); have K2 := Hid.mk' (K1.out.keep hb2); have J2 := Hid.mk' (J1.out.keep hb2); have B2 := Hid.mk' hb2; have M1 := Hid.mk' k1; have M2 := Hid.mk' k2; have M3 := Hid.mk' k3; clear hb2 K1 J1 k1 k2 k3 hm; obtain ⟨c0, c1, c2, c3⟩ := rgC_cells K2.out) | fail)
  clear hlk
  go_upto_region 4 with (first | (go_at_call 36; have CP := oplace_any ao n c (k : Int) w2; rw [hp9] at CP; refine CP.mono ?_; rintro e w' ⟨rfl, hw⟩; have hq := hw.symm; subst hq; clear hw CP) | (go_at_call 37; have CP := ocount_any (q : Int) w2; rw [hq9] at CP; refine CP.mono ?_; rintro e w' ⟨rfl, hw⟩; have hq := hw.symm; subst hq; clear hw CP) | fail)
  by_cases he : (f : Int) = (t : Int)
  · have hi : idl false false L = false := by
      cases e : idl false false L with
      | true => exact absurd ⟨he, e⟩ hni
      | false => rfl
    obtain rfl : f = t := by omega
    clear he
    go_upto_region 9 with (first | (go_at_call 38; refine (CL.out w2 B2.out).mono ?_; rintro e w3 ⟨rfl, hb3⟩; have K3 := Hid.mk' (K2.out.keep hb3); have J3 := Hid.mk' (J2.out.keep hb3); have B3 := Hid.mk' (bT B2.out hb3); have N1 := Hid.mk' (M1.out.keep hb3); have N2 := Hid.mk' (M2.out.keep hb3); have N3 := Hid.mk' (M3.out.keep hb3); clear hb3 K2 J2 B2 M1 M2 M3 CL c0 c1 c2 c3; obtain ⟨c0, c1, c2, c3⟩ := rgC_cells K3.out) | (go_at_call 39; have CI := idle_any ⟨#[121]⟩ false false L w3 (by decide +kernel) (by decide +kernel); rw [hi] at CI; refine CI.mono ?_; rintro e w' ⟨rfl, hw⟩; have hq := hw.symm; subst hq; clear hw CI) | fail)
    have CX := Hid.mk' (CC.out w3 C1 C2 C3 (HT1.out.keep B3.out) N1.out N2.out N3.out)
    clear CC
    go_wp2_with fail
    refine CX.out.mono ?_
    rintro e w5 ⟨v, F, tv, rfl, hF, hM, hb5⟩
    obtain ⟨es, cur, sset, lin, txt, how, typ⟩ := x
    obtain ⟨eo, ec, rfl, -, -⟩ := hM.eds.edz
    obtain ⟨to', tc, rfl⟩ := hM.tx.shape
    have J5 := Hid.mk' (J3.out.keep hb5)
    obtain ⟨j0, j1, j2, j3, j4, j5, j6⟩ := ef_cells J5.out
    obtain ⟨f0, f1, f2, f3, f4, f5, f6⟩ := ef_frozen J5.out
    have hbk := ef_store J5.out (.slice eo F.length ec) (.int .i64 cur) (.bool sset) (.bool lin) (.slice to' txt.length tc) (.int .i64 how) (.bool typ)
    have hgr := ef_grown w5 (B + 1) (.slice eo F.length ec) (.int .i64 cur) (.bool sset) (.bool lin) (.slice to' txt.length tc) (.int .i64 how) (.bool typ)
    have HF := Hid.mk' hF
    have HM := Hid.mk' hM
    have B5 := Hid.mk' hb5
    clear hF hM hb5 CX K3 c0 c1 c2 c3
    unfold efV
    dsimp only
    go_wp2_with fail
    generalize (((((((w5.setCell ⟨B + 1, 0, none⟩ (.slice eo F.length ec)).setCell ⟨B + 1, 1, none⟩ (.int .i64 cur)).setCell ⟨B + 1, 2, none⟩ (.bool sset)).setCell ⟨B + 1, 3, none⟩ (.bool lin)).setCell ⟨B + 1, 4, none⟩ (.slice to' txt.length tc)).setCell ⟨B + 1, 5, none⟩ (.int .i64 how)).setCell ⟨B + 1, 6, none⟩ (.bool typ)) = w9 at *
    obtain ⟨g0, g1, g2, g3, g4, g5, g6⟩ := ef_cells hbk
    refine bodyPost_ret (v := .tuple #[.agg #[.slice eo F.length ec, .int .i64 cur, .bool sset, .bool lin, .slice to' txt.length tc, .int .i64 how, .bool typ], .int .i64 0]) (by simp [results, Tryz.results10, go_sem, g0, g1, g2, g3, g4, g5, g6]) rfl ?_
    exact EfQ.out HF.out HM.out (bT L1.out B3.out) (Below.refl _ _ |>.trans B5.out) hgr J3.out.lt (by have := HB.out; omega)
  · have hne : ¬ (f = t) := by omega
    go_upto_region 9 with (first | (go_at_call 38; refine (CL.out w2 B2.out).mono ?_; rintro e w3 ⟨rfl, hb3⟩; have K3 := Hid.mk' (K2.out.keep hb3); have J3 := Hid.mk' (J2.out.keep hb3); have B3 := Hid.mk' (bT B2.out hb3); have N1 := Hid.mk' (M1.out.keep hb3); have N2 := Hid.mk' (M2.out.keep hb3); have N3 := Hid.mk' (M3.out.keep hb3); clear hb3 K2 J2 B2 M1 M2 M3 CL c0 c1 c2 c3; obtain ⟨c0, c1, c2, c3⟩ := rgC_cells K3.out) | fail)
    have CX := Hid.mk' (CC.out w3 C1 C2 C3 (HT1.out.keep B3.out) N1.out N2.out N3.out)
    clear CC
    go_wp2_with fail
    refine CX.out.mono ?_
    rintro e w5 ⟨v, F, tv, rfl, hF, hM, hb5⟩
    obtain ⟨es, cur, sset, lin, txt, how, typ⟩ := x
    obtain ⟨eo, ec, rfl, -, -⟩ := hM.eds.edz
    obtain ⟨to', tc, rfl⟩ := hM.tx.shape
    have J5 := Hid.mk' (J3.out.keep hb5)
    obtain ⟨j0, j1, j2, j3, j4, j5, j6⟩ := ef_cells J5.out
    obtain ⟨f0, f1, f2, f3, f4, f5, f6⟩ := ef_frozen J5.out
    have hbk := ef_store J5.out (.slice eo F.length ec) (.int .i64 cur) (.bool sset) (.bool lin) (.slice to' txt.length tc) (.int .i64 how) (.bool typ)
    have hgr := ef_grown w5 (B + 1) (.slice eo F.length ec) (.int .i64 cur) (.bool sset) (.bool lin) (.slice to' txt.length tc) (.int .i64 how) (.bool typ)
    have HF := Hid.mk' hF
    have HM := Hid.mk' hM
    have B5 := Hid.mk' hb5
    clear hF hM hb5 CX K3 c0 c1 c2 c3
    unfold efV
    dsimp only
    go_wp2_with fail
    generalize (((((((w5.setCell ⟨B + 1, 0, none⟩ (.slice eo F.length ec)).setCell ⟨B + 1, 1, none⟩ (.int .i64 cur)).setCell ⟨B + 1, 2, none⟩ (.bool sset)).setCell ⟨B + 1, 3, none⟩ (.bool lin)).setCell ⟨B + 1, 4, none⟩ (.slice to' txt.length tc)).setCell ⟨B + 1, 5, none⟩ (.int .i64 how)).setCell ⟨B + 1, 6, none⟩ (.bool typ)) = w9 at *
    obtain ⟨g0, g1, g2, g3, g4, g5, g6⟩ := ef_cells hbk
    refine bodyPost_ret (v := .tuple #[.agg #[.slice eo F.length ec, .int .i64 cur, .bool sset, .bool lin, .slice to' txt.length tc, .int .i64 how, .bool typ], .int .i64 0]) (by simp [results, Tryz.results10, go_sem, g0, g1, g2, g3, g4, g5, g6]) rfl ?_
    exact EfQ.out HF.out HM.out (bT L1.out B3.out) (Below.refl _ _ |>.trans B5.out) hgr J3.out.lt (by have := HB.out; omega)
set_option maxHeartbeats 8000000 in
set_option linter.unusedSimpArgs false in
theorem do_op4 (ao : Option Addr) (n c : Nat) (l : List UInt8) (k f t a b q : Nat) (L D : Bool) (w : World) (HT : Hid (Tx w ao n c l)) (hbig : n ≤ 1048576) (hk : k ≤ n) (hq1 : 1 ≤ q) (hq : q ≤ 9999) (R : RgO l (f : Int) (t : Int) L D (lnO l k (f : Int) (t : Int) L D) f t a b) (hni : ¬ ((f : Int) = (t : Int) ∧ idl false false L = true)) :
    Calls Tryz.prog 10 #[.slice ao n c, .int .i64 (k : Int), .string ⟨#[62]⟩, .agg #[.int .i64 (f : Int), .int .i64 (t : Int), .bool L, .bool D], .int .i64 (q : Int)] w fun e w' => EfQ ((shX l (shf (hdI q) l (b + 1 - a) a 0) a).1) ((shX l (shf (hdI q) l (b + 1 - a) a 0) a).2) w e w' := by
  have hln := HT.out.len
  have ht : t ≤ n := by have := R.tn; omega
  have ha : (a : Int) ≤ 9223372036854775807 := by have h1 := R.ab; have h2 := R.bn; have h3 := nl_le l; omega
  have CC : Hid (∀ W C1 C2 C3, Tx W ao n c l → Blk W C1 110 (tfv 74) → Blk W C2 110 (tfv 75) → Blk W C3 110 (tfv 76) → Calls Tryz.prog 71 #[tsk (.slice ao n c) (k : Int) (f : Int) (t : Int) L D (a : Int) (b : Int) (q : Int)] W fun e w' => EfQ ((shX l (shf (hdI q) l (b + 1 - a) a 0) a).1) ((shX l (shf (hdI q) l (b + 1 - a) a 0) a).2) W e w') := fun W C1 C2 C3 HT M1 M2 M3 => indent_any ao n c k a b q (f : Int) (t : Int) L D l W HT hbig R.ab R.bn hq
  obtain ⟨W1, hW1⟩ : ∃ x, (w.alloc (.cells #[.int .i64 (f : Int), .int .i64 (t : Int), .bool L, .bool D] 28)).alloc (.cells #[.slice none 0 0, .int .i64 0, .bool false, .bool false, .slice none 0 0, .int .i64 0, .bool false] 35) = x := ⟨_, rfl⟩
  have T1 : Hid (Dob w W1 (f : Int) (t : Int) L D) := by unfold Hid; rw [← hW1]; exact Dob.new w _ _ _ _
  have HT1 := Hid.mk' (HT.out.keep T1.out.bel)
  have HLN := Hid.mk' HT.out.len
  have CM := Hid.mk' (opr_any W1)
  obtain ⟨B, hB⟩ : ∃ b, w.heap.size = b := ⟨_, rfl⟩
  have HB := Hid.mk' hB
  have K1 : Hid (Blk W1 B 28 (rgC (f : Int) (t : Int) L D)) := by unfold Hid; rw [← hB]; exact T1.out.rg
  have J1 : Hid (Blk W1 (B + 1) 35 (ef7 (.slice none 0 0) 0 false false (.slice none 0 0) 0 false)) := by unfold Hid; rw [← hB]; exact T1.out.ef
  have L1 := Hid.mk' T1.out.bel
  have CL : Hid (∀ W, Below W1.heap.size W1 W → Calls Tryz.prog 38 #[.slice ao n c, .int .i64 (k : Int), .agg #[.int .i64 (f : Int), .int .i64 (t : Int), .bool L, .bool D]] W fun e w' => e = .returned (lnV (lnO l k (f : Int) (t : Int) L D)) ∧ Below W.heap.size W w') := fun W hW => linesOf_any' ao n c k (f : Int) (t : Int) L D l W (HT1.out.keep hW) hk
  rw [R.eX] at CL
  unfold lnV at CL
  dsimp only at CL
  have hp9 : decide (0 ≤ (k : Int) ∧ (k : Int) ≤ (n : Int)) = true := decide_eq_true (by omega)
  have hq9 : cntB (q : Int) = true := by unfold cntB; rw [decide_eq_true (by omega), decide_eq_true (by omega)]; rfl
  unfold tsk at CC
  generalize ((shX l (shf (hdI q) l (b + 1 - a) a 0) a).1) = x at *
  generalize ((shX l (shf (hdI q) l (b + 1 - a) a 0) a).2) = z at *
  clear R
  go_enter Tryz.func10, Tryz.ntmps10
  go_upto_region 1 with fail
  clear hW1 hB T1 HT
  go_upto_region 2 with (first | (go_at_call 35; refine CM.out.mono ?_; rintro e w2 ⟨r, C1, C2, C3, rfl, hm, k1, k2, k3, hb2⟩; have hlk := look_any hm ⟨#[62]⟩ (i := 3) (v := .func (.func 71) #[] #[]) (by kernel_rfl); have K2 := Hid.mk' (K1.out.keep hb2); have J2 := Hid.mk' (J1.out.keep hb2); have B2 := Hid.mk' hb2; have M1 := Hid.mk' k1; have M2 := Hid.mk' k2; have M3 := Hid.mk' k3; clear hb2 K1 J1 k1 k2 k3 hm; obtain ⟨c0, c1, c2, c3⟩ := rgC_cells K2.out) | fail)
  clear hlk
  go_upto_region 4 with (first | (go_at_call 36; have CP := oplace_any ao n c (k : Int) w2; rw [hp9] at CP; refine CP.mono ?_; rintro e w' ⟨rfl, hw⟩; have hq := hw.symm; subst hq; clear hw CP) | (go_at_call 37; have CP := ocount_any (q : Int) w2; rw [hq9] at CP; refine CP.mono ?_; rintro e w' ⟨rfl, hw⟩; have hq := hw.symm; subst hq; clear hw CP) | fail)
  by_cases he : (f : Int) = (t : Int)
  · have hi : idl false false L = false := by
      cases e : idl false false L with
      | true => exact absurd ⟨he, e⟩ hni
      | false => rfl
    obtain rfl : f = t := by omega
    clear he
    go_upto_region 9 with (first | (go_at_call 38; refine (CL.out w2 B2.out).mono ?_; rintro e w3 ⟨rfl, hb3⟩; have K3 := Hid.mk' (K2.out.keep hb3); have J3 := Hid.mk' (J2.out.keep hb3); have B3 := Hid.mk' (bT B2.out hb3); have N1 := Hid.mk' (M1.out.keep hb3); have N2 := Hid.mk' (M2.out.keep hb3); have N3 := Hid.mk' (M3.out.keep hb3); clear hb3 K2 J2 B2 M1 M2 M3 CL c0 c1 c2 c3; obtain ⟨c0, c1, c2, c3⟩ := rgC_cells K3.out) | (go_at_call 39; have CI := idle_any ⟨#[62]⟩ false false L w3 (by decide +kernel) (by decide +kernel); rw [hi] at CI; refine CI.mono ?_; rintro e w' ⟨rfl, hw⟩; have hq := hw.symm; subst hq; clear hw CI) | fail)
    have CX := Hid.mk' (CC.out w3 C1 C2 C3 (HT1.out.keep B3.out) N1.out N2.out N3.out)
    clear CC
    go_wp2_with fail
    refine CX.out.mono ?_
    rintro e w5 ⟨v, F, tv, rfl, hF, hM, hb5⟩
    obtain ⟨es, cur, sset, lin, txt, how, typ⟩ := x
    obtain ⟨eo, ec, rfl, -, -⟩ := hM.eds.edz
    obtain ⟨to', tc, rfl⟩ := hM.tx.shape
    have J5 := Hid.mk' (J3.out.keep hb5)
    obtain ⟨j0, j1, j2, j3, j4, j5, j6⟩ := ef_cells J5.out
    obtain ⟨f0, f1, f2, f3, f4, f5, f6⟩ := ef_frozen J5.out
    have hbk := ef_store J5.out (.slice eo F.length ec) (.int .i64 cur) (.bool sset) (.bool lin) (.slice to' txt.length tc) (.int .i64 how) (.bool typ)
    have hgr := ef_grown w5 (B + 1) (.slice eo F.length ec) (.int .i64 cur) (.bool sset) (.bool lin) (.slice to' txt.length tc) (.int .i64 how) (.bool typ)
    have HF := Hid.mk' hF
    have HM := Hid.mk' hM
    have B5 := Hid.mk' hb5
    clear hF hM hb5 CX K3 c0 c1 c2 c3
    unfold efV
    dsimp only
    go_wp2_with fail
    generalize (((((((w5.setCell ⟨B + 1, 0, none⟩ (.slice eo F.length ec)).setCell ⟨B + 1, 1, none⟩ (.int .i64 cur)).setCell ⟨B + 1, 2, none⟩ (.bool sset)).setCell ⟨B + 1, 3, none⟩ (.bool lin)).setCell ⟨B + 1, 4, none⟩ (.slice to' txt.length tc)).setCell ⟨B + 1, 5, none⟩ (.int .i64 how)).setCell ⟨B + 1, 6, none⟩ (.bool typ)) = w9 at *
    obtain ⟨g0, g1, g2, g3, g4, g5, g6⟩ := ef_cells hbk
    refine bodyPost_ret (v := .tuple #[.agg #[.slice eo F.length ec, .int .i64 cur, .bool sset, .bool lin, .slice to' txt.length tc, .int .i64 how, .bool typ], .int .i64 z]) (by simp [results, Tryz.results10, go_sem, g0, g1, g2, g3, g4, g5, g6]) rfl ?_
    exact EfQ.out HF.out HM.out (bT L1.out B3.out) (Below.refl _ _ |>.trans B5.out) hgr J3.out.lt (by have := HB.out; omega)
  · have hne : ¬ (f = t) := by omega
    go_upto_region 9 with (first | (go_at_call 38; refine (CL.out w2 B2.out).mono ?_; rintro e w3 ⟨rfl, hb3⟩; have K3 := Hid.mk' (K2.out.keep hb3); have J3 := Hid.mk' (J2.out.keep hb3); have B3 := Hid.mk' (bT B2.out hb3); have N1 := Hid.mk' (M1.out.keep hb3); have N2 := Hid.mk' (M2.out.keep hb3); have N3 := Hid.mk' (M3.out.keep hb3); clear hb3 K2 J2 B2 M1 M2 M3 CL c0 c1 c2 c3; obtain ⟨c0, c1, c2, c3⟩ := rgC_cells K3.out) | fail)
    have CX := Hid.mk' (CC.out w3 C1 C2 C3 (HT1.out.keep B3.out) N1.out N2.out N3.out)
    clear CC
    go_wp2_with fail
    refine CX.out.mono ?_
    rintro e w5 ⟨v, F, tv, rfl, hF, hM, hb5⟩
    obtain ⟨es, cur, sset, lin, txt, how, typ⟩ := x
    obtain ⟨eo, ec, rfl, -, -⟩ := hM.eds.edz
    obtain ⟨to', tc, rfl⟩ := hM.tx.shape
    have J5 := Hid.mk' (J3.out.keep hb5)
    obtain ⟨j0, j1, j2, j3, j4, j5, j6⟩ := ef_cells J5.out
    obtain ⟨f0, f1, f2, f3, f4, f5, f6⟩ := ef_frozen J5.out
    have hbk := ef_store J5.out (.slice eo F.length ec) (.int .i64 cur) (.bool sset) (.bool lin) (.slice to' txt.length tc) (.int .i64 how) (.bool typ)
    have hgr := ef_grown w5 (B + 1) (.slice eo F.length ec) (.int .i64 cur) (.bool sset) (.bool lin) (.slice to' txt.length tc) (.int .i64 how) (.bool typ)
    have HF := Hid.mk' hF
    have HM := Hid.mk' hM
    have B5 := Hid.mk' hb5
    clear hF hM hb5 CX K3 c0 c1 c2 c3
    unfold efV
    dsimp only
    go_wp2_with fail
    generalize (((((((w5.setCell ⟨B + 1, 0, none⟩ (.slice eo F.length ec)).setCell ⟨B + 1, 1, none⟩ (.int .i64 cur)).setCell ⟨B + 1, 2, none⟩ (.bool sset)).setCell ⟨B + 1, 3, none⟩ (.bool lin)).setCell ⟨B + 1, 4, none⟩ (.slice to' txt.length tc)).setCell ⟨B + 1, 5, none⟩ (.int .i64 how)).setCell ⟨B + 1, 6, none⟩ (.bool typ)) = w9 at *
    obtain ⟨g0, g1, g2, g3, g4, g5, g6⟩ := ef_cells hbk
    refine bodyPost_ret (v := .tuple #[.agg #[.slice eo F.length ec, .int .i64 cur, .bool sset, .bool lin, .slice to' txt.length tc, .int .i64 how, .bool typ], .int .i64 z]) (by simp [results, Tryz.results10, go_sem, g0, g1, g2, g3, g4, g5, g6]) rfl ?_
    exact EfQ.out HF.out HM.out (bT L1.out B3.out) (Below.refl _ _ |>.trans B5.out) hgr J3.out.lt (by have := HB.out; omega)
set_option maxHeartbeats 8000000 in
set_option linter.unusedSimpArgs false in
theorem do_op5 (ao : Option Addr) (n c : Nat) (l : List UInt8) (k f t a b q : Nat) (L D : Bool) (w : World) (HT : Hid (Tx w ao n c l)) (hbig : n ≤ 1048576) (hk : k ≤ n) (hq1 : 1 ≤ q) (hq : q ≤ 9999) (R : RgO l (f : Int) (t : Int) L D (lnO l k (f : Int) (t : Int) L D) f t a b) (hni : ¬ ((f : Int) = (t : Int) ∧ idl false false L = true)) :
    Calls Tryz.prog 10 #[.slice ao n c, .int .i64 (k : Int), .string ⟨#[60]⟩, .agg #[.int .i64 (f : Int), .int .i64 (t : Int), .bool L, .bool D], .int .i64 (q : Int)] w fun e w' => EfQ ((shX l (shf (hdO q) l (b + 1 - a) a 0) a).1) ((shX l (shf (hdO q) l (b + 1 - a) a 0) a).2) w e w' := by
  have hln := HT.out.len
  have ht : t ≤ n := by have := R.tn; omega
  have ha : (a : Int) ≤ 9223372036854775807 := by have h1 := R.ab; have h2 := R.bn; have h3 := nl_le l; omega
  have CC : Hid (∀ W C1 C2 C3, Tx W ao n c l → Blk W C1 110 (tfv 74) → Blk W C2 110 (tfv 75) → Blk W C3 110 (tfv 76) → Calls Tryz.prog 72 #[tsk (.slice ao n c) (k : Int) (f : Int) (t : Int) L D (a : Int) (b : Int) (q : Int)] W fun e w' => EfQ ((shX l (shf (hdO q) l (b + 1 - a) a 0) a).1) ((shX l (shf (hdO q) l (b + 1 - a) a 0) a).2) W e w') := fun W C1 C2 C3 HT M1 M2 M3 => outdent_any ao n c k a b q (f : Int) (t : Int) L D l W HT hbig R.ab R.bn hq
  obtain ⟨W1, hW1⟩ : ∃ x, (w.alloc (.cells #[.int .i64 (f : Int), .int .i64 (t : Int), .bool L, .bool D] 28)).alloc (.cells #[.slice none 0 0, .int .i64 0, .bool false, .bool false, .slice none 0 0, .int .i64 0, .bool false] 35) = x := ⟨_, rfl⟩
  have T1 : Hid (Dob w W1 (f : Int) (t : Int) L D) := by unfold Hid; rw [← hW1]; exact Dob.new w _ _ _ _
  have HT1 := Hid.mk' (HT.out.keep T1.out.bel)
  have HLN := Hid.mk' HT.out.len
  have CM := Hid.mk' (opr_any W1)
  obtain ⟨B, hB⟩ : ∃ b, w.heap.size = b := ⟨_, rfl⟩
  have HB := Hid.mk' hB
  have K1 : Hid (Blk W1 B 28 (rgC (f : Int) (t : Int) L D)) := by unfold Hid; rw [← hB]; exact T1.out.rg
  have J1 : Hid (Blk W1 (B + 1) 35 (ef7 (.slice none 0 0) 0 false false (.slice none 0 0) 0 false)) := by unfold Hid; rw [← hB]; exact T1.out.ef
  have L1 := Hid.mk' T1.out.bel
  have CL : Hid (∀ W, Below W1.heap.size W1 W → Calls Tryz.prog 38 #[.slice ao n c, .int .i64 (k : Int), .agg #[.int .i64 (f : Int), .int .i64 (t : Int), .bool L, .bool D]] W fun e w' => e = .returned (lnV (lnO l k (f : Int) (t : Int) L D)) ∧ Below W.heap.size W w') := fun W hW => linesOf_any' ao n c k (f : Int) (t : Int) L D l W (HT1.out.keep hW) hk
  rw [R.eX] at CL
  unfold lnV at CL
  dsimp only at CL
  have hp9 : decide (0 ≤ (k : Int) ∧ (k : Int) ≤ (n : Int)) = true := decide_eq_true (by omega)
  have hq9 : cntB (q : Int) = true := by unfold cntB; rw [decide_eq_true (by omega), decide_eq_true (by omega)]; rfl
  unfold tsk at CC
  generalize ((shX l (shf (hdO q) l (b + 1 - a) a 0) a).1) = x at *
  generalize ((shX l (shf (hdO q) l (b + 1 - a) a 0) a).2) = z at *
  clear R
  go_enter Tryz.func10, Tryz.ntmps10
  go_upto_region 1 with fail
  clear hW1 hB T1 HT
  go_upto_region 2 with (first | (go_at_call 35; refine CM.out.mono ?_; rintro e w2 ⟨r, C1, C2, C3, rfl, hm, k1, k2, k3, hb2⟩; have hlk := look_any hm ⟨#[60]⟩ (i := 4) (v := .func (.func 72) #[] #[]) (by kernel_rfl); have K2 := Hid.mk' (K1.out.keep hb2); have J2 := Hid.mk' (J1.out.keep hb2); have B2 := Hid.mk' hb2; have M1 := Hid.mk' k1; have M2 := Hid.mk' k2; have M3 := Hid.mk' k3; clear hb2 K1 J1 k1 k2 k3 hm; obtain ⟨c0, c1, c2, c3⟩ := rgC_cells K2.out) | fail)
  clear hlk
  go_upto_region 4 with (first | (go_at_call 36; have CP := oplace_any ao n c (k : Int) w2; rw [hp9] at CP; refine CP.mono ?_; rintro e w' ⟨rfl, hw⟩; have hq := hw.symm; subst hq; clear hw CP) | (go_at_call 37; have CP := ocount_any (q : Int) w2; rw [hq9] at CP; refine CP.mono ?_; rintro e w' ⟨rfl, hw⟩; have hq := hw.symm; subst hq; clear hw CP) | fail)
  by_cases he : (f : Int) = (t : Int)
  · have hi : idl false false L = false := by
      cases e : idl false false L with
      | true => exact absurd ⟨he, e⟩ hni
      | false => rfl
    obtain rfl : f = t := by omega
    clear he
    go_upto_region 9 with (first | (go_at_call 38; refine (CL.out w2 B2.out).mono ?_; rintro e w3 ⟨rfl, hb3⟩; have K3 := Hid.mk' (K2.out.keep hb3); have J3 := Hid.mk' (J2.out.keep hb3); have B3 := Hid.mk' (bT B2.out hb3); have N1 := Hid.mk' (M1.out.keep hb3); have N2 := Hid.mk' (M2.out.keep hb3); have N3 := Hid.mk' (M3.out.keep hb3); clear hb3 K2 J2 B2 M1 M2 M3 CL c0 c1 c2 c3; obtain ⟨c0, c1, c2, c3⟩ := rgC_cells K3.out) | (go_at_call 39; have CI := idle_any ⟨#[60]⟩ false false L w3 (by decide +kernel) (by decide +kernel); rw [hi] at CI; refine CI.mono ?_; rintro e w' ⟨rfl, hw⟩; have hq := hw.symm; subst hq; clear hw CI) | fail)
    have CX := Hid.mk' (CC.out w3 C1 C2 C3 (HT1.out.keep B3.out) N1.out N2.out N3.out)
    clear CC
    go_wp2_with fail
    refine CX.out.mono ?_
    rintro e w5 ⟨v, F, tv, rfl, hF, hM, hb5⟩
    obtain ⟨es, cur, sset, lin, txt, how, typ⟩ := x
    obtain ⟨eo, ec, rfl, -, -⟩ := hM.eds.edz
    obtain ⟨to', tc, rfl⟩ := hM.tx.shape
    have J5 := Hid.mk' (J3.out.keep hb5)
    obtain ⟨j0, j1, j2, j3, j4, j5, j6⟩ := ef_cells J5.out
    obtain ⟨f0, f1, f2, f3, f4, f5, f6⟩ := ef_frozen J5.out
    have hbk := ef_store J5.out (.slice eo F.length ec) (.int .i64 cur) (.bool sset) (.bool lin) (.slice to' txt.length tc) (.int .i64 how) (.bool typ)
    have hgr := ef_grown w5 (B + 1) (.slice eo F.length ec) (.int .i64 cur) (.bool sset) (.bool lin) (.slice to' txt.length tc) (.int .i64 how) (.bool typ)
    have HF := Hid.mk' hF
    have HM := Hid.mk' hM
    have B5 := Hid.mk' hb5
    clear hF hM hb5 CX K3 c0 c1 c2 c3
    unfold efV
    dsimp only
    go_wp2_with fail
    generalize (((((((w5.setCell ⟨B + 1, 0, none⟩ (.slice eo F.length ec)).setCell ⟨B + 1, 1, none⟩ (.int .i64 cur)).setCell ⟨B + 1, 2, none⟩ (.bool sset)).setCell ⟨B + 1, 3, none⟩ (.bool lin)).setCell ⟨B + 1, 4, none⟩ (.slice to' txt.length tc)).setCell ⟨B + 1, 5, none⟩ (.int .i64 how)).setCell ⟨B + 1, 6, none⟩ (.bool typ)) = w9 at *
    obtain ⟨g0, g1, g2, g3, g4, g5, g6⟩ := ef_cells hbk
    refine bodyPost_ret (v := .tuple #[.agg #[.slice eo F.length ec, .int .i64 cur, .bool sset, .bool lin, .slice to' txt.length tc, .int .i64 how, .bool typ], .int .i64 z]) (by simp [results, Tryz.results10, go_sem, g0, g1, g2, g3, g4, g5, g6]) rfl ?_
    exact EfQ.out HF.out HM.out (bT L1.out B3.out) (Below.refl _ _ |>.trans B5.out) hgr J3.out.lt (by have := HB.out; omega)
  · have hne : ¬ (f = t) := by omega
    go_upto_region 9 with (first | (go_at_call 38; refine (CL.out w2 B2.out).mono ?_; rintro e w3 ⟨rfl, hb3⟩; have K3 := Hid.mk' (K2.out.keep hb3); have J3 := Hid.mk' (J2.out.keep hb3); have B3 := Hid.mk' (bT B2.out hb3); have N1 := Hid.mk' (M1.out.keep hb3); have N2 := Hid.mk' (M2.out.keep hb3); have N3 := Hid.mk' (M3.out.keep hb3); clear hb3 K2 J2 B2 M1 M2 M3 CL c0 c1 c2 c3; obtain ⟨c0, c1, c2, c3⟩ := rgC_cells K3.out) | fail)
    have CX := Hid.mk' (CC.out w3 C1 C2 C3 (HT1.out.keep B3.out) N1.out N2.out N3.out)
    clear CC
    go_wp2_with fail
    refine CX.out.mono ?_
    rintro e w5 ⟨v, F, tv, rfl, hF, hM, hb5⟩
    obtain ⟨es, cur, sset, lin, txt, how, typ⟩ := x
    obtain ⟨eo, ec, rfl, -, -⟩ := hM.eds.edz
    obtain ⟨to', tc, rfl⟩ := hM.tx.shape
    have J5 := Hid.mk' (J3.out.keep hb5)
    obtain ⟨j0, j1, j2, j3, j4, j5, j6⟩ := ef_cells J5.out
    obtain ⟨f0, f1, f2, f3, f4, f5, f6⟩ := ef_frozen J5.out
    have hbk := ef_store J5.out (.slice eo F.length ec) (.int .i64 cur) (.bool sset) (.bool lin) (.slice to' txt.length tc) (.int .i64 how) (.bool typ)
    have hgr := ef_grown w5 (B + 1) (.slice eo F.length ec) (.int .i64 cur) (.bool sset) (.bool lin) (.slice to' txt.length tc) (.int .i64 how) (.bool typ)
    have HF := Hid.mk' hF
    have HM := Hid.mk' hM
    have B5 := Hid.mk' hb5
    clear hF hM hb5 CX K3 c0 c1 c2 c3
    unfold efV
    dsimp only
    go_wp2_with fail
    generalize (((((((w5.setCell ⟨B + 1, 0, none⟩ (.slice eo F.length ec)).setCell ⟨B + 1, 1, none⟩ (.int .i64 cur)).setCell ⟨B + 1, 2, none⟩ (.bool sset)).setCell ⟨B + 1, 3, none⟩ (.bool lin)).setCell ⟨B + 1, 4, none⟩ (.slice to' txt.length tc)).setCell ⟨B + 1, 5, none⟩ (.int .i64 how)).setCell ⟨B + 1, 6, none⟩ (.bool typ)) = w9 at *
    obtain ⟨g0, g1, g2, g3, g4, g5, g6⟩ := ef_cells hbk
    refine bodyPost_ret (v := .tuple #[.agg #[.slice eo F.length ec, .int .i64 cur, .bool sset, .bool lin, .slice to' txt.length tc, .int .i64 how, .bool typ], .int .i64 z]) (by simp [results, Tryz.results10, go_sem, g0, g1, g2, g3, g4, g5, g6]) rfl ?_
    exact EfQ.out HF.out HM.out (bT L1.out B3.out) (Below.refl _ _ |>.trans B5.out) hgr J3.out.lt (by have := HB.out; omega)
set_option maxHeartbeats 8000000 in
set_option linter.unusedSimpArgs false in
theorem do_op6 (ao : Option Addr) (n c : Nat) (l : List UInt8) (k f t a b q : Nat) (L D : Bool) (w : World) (HT : Hid (Tx w ao n c l)) (hbig : n ≤ 1048576) (hk : k ≤ n) (hq1 : 1 ≤ q) (hq : q ≤ 9999) (R : RgO l (f : Int) (t : Int) L D (lnO l k (f : Int) (t : Int) L D) f t a b) (hni : ¬ ((f : Int) = (t : Int) ∧ idl false false L = true)) :
    Calls Tryz.prog 10 #[.slice ao n c, .int .i64 (k : Int), .string ⟨#[103, 126]⟩, .agg #[.int .i64 (f : Int), .int .i64 (t : Int), .bool L, .bool D], .int .i64 (q : Int)] w fun e w' => EfQ (leEf tgB l k f t L a) (0) w e w' := by
  have hln := HT.out.len
  have ht : t ≤ n := by have := R.tn; omega
  have ha : (a : Int) ≤ 9223372036854775807 := by have h1 := R.ab; have h2 := R.bn; have h3 := nl_le l; omega
  have CC : Hid (∀ W C1 C2 C3, Tx W ao n c l → Blk W C1 110 (tfv 74) → Blk W C2 110 (tfv 75) → Blk W C3 110 (tfv 76) → Calls Tryz.prog 106 #[tsk (.slice ao n c) (k : Int) (f : Int) (t : Int) L D (a : Int) (b : Int) (q : Int), .pointer (some ⟨C1, 0, none⟩)] W fun e w' => EfQ (leEf tgB l k f t L a) (0) W e w') := fun W C1 C2 C3 HT M1 M2 M3 => let_tog ao n c k f t C1 L D a b (q : Int) l W HT hbig R.ft ht hk ha M1
  obtain ⟨W1, hW1⟩ : ∃ x, (w.alloc (.cells #[.int .i64 (f : Int), .int .i64 (t : Int), .bool L, .bool D] 28)).alloc (.cells #[.slice none 0 0, .int .i64 0, .bool false, .bool false, .slice none 0 0, .int .i64 0, .bool false] 35) = x := ⟨_, rfl⟩
  have T1 : Hid (Dob w W1 (f : Int) (t : Int) L D) := by unfold Hid; rw [← hW1]; exact Dob.new w _ _ _ _
  have HT1 := Hid.mk' (HT.out.keep T1.out.bel)
  have HLN := Hid.mk' HT.out.len
  have CM := Hid.mk' (opr_any W1)
  obtain ⟨B, hB⟩ : ∃ b, w.heap.size = b := ⟨_, rfl⟩
  have HB := Hid.mk' hB
  have K1 : Hid (Blk W1 B 28 (rgC (f : Int) (t : Int) L D)) := by unfold Hid; rw [← hB]; exact T1.out.rg
  have J1 : Hid (Blk W1 (B + 1) 35 (ef7 (.slice none 0 0) 0 false false (.slice none 0 0) 0 false)) := by unfold Hid; rw [← hB]; exact T1.out.ef
  have L1 := Hid.mk' T1.out.bel
  have CL : Hid (∀ W, Below W1.heap.size W1 W → Calls Tryz.prog 38 #[.slice ao n c, .int .i64 (k : Int), .agg #[.int .i64 (f : Int), .int .i64 (t : Int), .bool L, .bool D]] W fun e w' => e = .returned (lnV (lnO l k (f : Int) (t : Int) L D)) ∧ Below W.heap.size W w') := fun W hW => linesOf_any' ao n c k (f : Int) (t : Int) L D l W (HT1.out.keep hW) hk
  rw [R.eX] at CL
  unfold lnV at CL
  dsimp only at CL
  have hp9 : decide (0 ≤ (k : Int) ∧ (k : Int) ≤ (n : Int)) = true := decide_eq_true (by omega)
  have hq9 : cntB (q : Int) = true := by unfold cntB; rw [decide_eq_true (by omega), decide_eq_true (by omega)]; rfl
  unfold tsk at CC
  generalize (leEf tgB l k f t L a) = x at *
  clear R
  go_enter Tryz.func10, Tryz.ntmps10
  go_upto_region 1 with fail
  clear hW1 hB T1 HT
  go_upto_region 2 with (first | (go_at_call 35; refine CM.out.mono ?_; rintro e w2 ⟨r, C1, C2, C3, rfl, hm, k1, k2, k3, hb2⟩; have hlk := look_any hm ⟨#[103, 126]⟩ (i := 5) (v := .func (.func 106) #[] #[.pointer (some ⟨C1, 0, none⟩)]) (by kernel_rfl); have K2 := Hid.mk' (K1.out.keep hb2); have J2 := Hid.mk' (J1.out.keep hb2); have B2 := Hid.mk' hb2; have M1 := Hid.mk' k1; have M2 := Hid.mk' k2; have M3 := Hid.mk' k3; clear hb2 K1 J1 k1 k2 k3 hm; obtain ⟨c0, c1, c2, c3⟩ := rgC_cells K2.out) | fail)
  clear hlk
  go_upto_region 4 with (first | (go_at_call 36; have CP := oplace_any ao n c (k : Int) w2; rw [hp9] at CP; refine CP.mono ?_; rintro e w' ⟨rfl, hw⟩; have hq := hw.symm; subst hq; clear hw CP) | (go_at_call 37; have CP := ocount_any (q : Int) w2; rw [hq9] at CP; refine CP.mono ?_; rintro e w' ⟨rfl, hw⟩; have hq := hw.symm; subst hq; clear hw CP) | fail)
  by_cases he : (f : Int) = (t : Int)
  · have hi : idl false false L = false := by
      cases e : idl false false L with
      | true => exact absurd ⟨he, e⟩ hni
      | false => rfl
    obtain rfl : f = t := by omega
    clear he
    go_upto_region 9 with (first | (go_at_call 38; refine (CL.out w2 B2.out).mono ?_; rintro e w3 ⟨rfl, hb3⟩; have K3 := Hid.mk' (K2.out.keep hb3); have J3 := Hid.mk' (J2.out.keep hb3); have B3 := Hid.mk' (bT B2.out hb3); have N1 := Hid.mk' (M1.out.keep hb3); have N2 := Hid.mk' (M2.out.keep hb3); have N3 := Hid.mk' (M3.out.keep hb3); clear hb3 K2 J2 B2 M1 M2 M3 CL c0 c1 c2 c3; obtain ⟨c0, c1, c2, c3⟩ := rgC_cells K3.out) | (go_at_call 39; have CI := idle_any ⟨#[103, 126]⟩ false false L w3 (by decide +kernel) (by decide +kernel); rw [hi] at CI; refine CI.mono ?_; rintro e w' ⟨rfl, hw⟩; have hq := hw.symm; subst hq; clear hw CI) | fail)
    have CX := Hid.mk' (CC.out w3 C1 C2 C3 (HT1.out.keep B3.out) N1.out N2.out N3.out)
    clear CC
    go_wp2_with fail
    refine CX.out.mono ?_
    rintro e w5 ⟨v, F, tv, rfl, hF, hM, hb5⟩
    obtain ⟨es, cur, sset, lin, txt, how, typ⟩ := x
    obtain ⟨eo, ec, rfl, -, -⟩ := hM.eds.edz
    obtain ⟨to', tc, rfl⟩ := hM.tx.shape
    have J5 := Hid.mk' (J3.out.keep hb5)
    obtain ⟨j0, j1, j2, j3, j4, j5, j6⟩ := ef_cells J5.out
    obtain ⟨f0, f1, f2, f3, f4, f5, f6⟩ := ef_frozen J5.out
    have hbk := ef_store J5.out (.slice eo F.length ec) (.int .i64 cur) (.bool sset) (.bool lin) (.slice to' txt.length tc) (.int .i64 how) (.bool typ)
    have hgr := ef_grown w5 (B + 1) (.slice eo F.length ec) (.int .i64 cur) (.bool sset) (.bool lin) (.slice to' txt.length tc) (.int .i64 how) (.bool typ)
    have HF := Hid.mk' hF
    have HM := Hid.mk' hM
    have B5 := Hid.mk' hb5
    clear hF hM hb5 CX K3 c0 c1 c2 c3
    unfold efV
    dsimp only
    go_wp2_with fail
    generalize (((((((w5.setCell ⟨B + 1, 0, none⟩ (.slice eo F.length ec)).setCell ⟨B + 1, 1, none⟩ (.int .i64 cur)).setCell ⟨B + 1, 2, none⟩ (.bool sset)).setCell ⟨B + 1, 3, none⟩ (.bool lin)).setCell ⟨B + 1, 4, none⟩ (.slice to' txt.length tc)).setCell ⟨B + 1, 5, none⟩ (.int .i64 how)).setCell ⟨B + 1, 6, none⟩ (.bool typ)) = w9 at *
    obtain ⟨g0, g1, g2, g3, g4, g5, g6⟩ := ef_cells hbk
    refine bodyPost_ret (v := .tuple #[.agg #[.slice eo F.length ec, .int .i64 cur, .bool sset, .bool lin, .slice to' txt.length tc, .int .i64 how, .bool typ], .int .i64 0]) (by simp [results, Tryz.results10, go_sem, g0, g1, g2, g3, g4, g5, g6]) rfl ?_
    exact EfQ.out HF.out HM.out (bT L1.out B3.out) (Below.refl _ _ |>.trans B5.out) hgr J3.out.lt (by have := HB.out; omega)
  · have hne : ¬ (f = t) := by omega
    go_upto_region 9 with (first | (go_at_call 38; refine (CL.out w2 B2.out).mono ?_; rintro e w3 ⟨rfl, hb3⟩; have K3 := Hid.mk' (K2.out.keep hb3); have J3 := Hid.mk' (J2.out.keep hb3); have B3 := Hid.mk' (bT B2.out hb3); have N1 := Hid.mk' (M1.out.keep hb3); have N2 := Hid.mk' (M2.out.keep hb3); have N3 := Hid.mk' (M3.out.keep hb3); clear hb3 K2 J2 B2 M1 M2 M3 CL c0 c1 c2 c3; obtain ⟨c0, c1, c2, c3⟩ := rgC_cells K3.out) | fail)
    have CX := Hid.mk' (CC.out w3 C1 C2 C3 (HT1.out.keep B3.out) N1.out N2.out N3.out)
    clear CC
    go_wp2_with fail
    refine CX.out.mono ?_
    rintro e w5 ⟨v, F, tv, rfl, hF, hM, hb5⟩
    obtain ⟨es, cur, sset, lin, txt, how, typ⟩ := x
    obtain ⟨eo, ec, rfl, -, -⟩ := hM.eds.edz
    obtain ⟨to', tc, rfl⟩ := hM.tx.shape
    have J5 := Hid.mk' (J3.out.keep hb5)
    obtain ⟨j0, j1, j2, j3, j4, j5, j6⟩ := ef_cells J5.out
    obtain ⟨f0, f1, f2, f3, f4, f5, f6⟩ := ef_frozen J5.out
    have hbk := ef_store J5.out (.slice eo F.length ec) (.int .i64 cur) (.bool sset) (.bool lin) (.slice to' txt.length tc) (.int .i64 how) (.bool typ)
    have hgr := ef_grown w5 (B + 1) (.slice eo F.length ec) (.int .i64 cur) (.bool sset) (.bool lin) (.slice to' txt.length tc) (.int .i64 how) (.bool typ)
    have HF := Hid.mk' hF
    have HM := Hid.mk' hM
    have B5 := Hid.mk' hb5
    clear hF hM hb5 CX K3 c0 c1 c2 c3
    unfold efV
    dsimp only
    go_wp2_with fail
    generalize (((((((w5.setCell ⟨B + 1, 0, none⟩ (.slice eo F.length ec)).setCell ⟨B + 1, 1, none⟩ (.int .i64 cur)).setCell ⟨B + 1, 2, none⟩ (.bool sset)).setCell ⟨B + 1, 3, none⟩ (.bool lin)).setCell ⟨B + 1, 4, none⟩ (.slice to' txt.length tc)).setCell ⟨B + 1, 5, none⟩ (.int .i64 how)).setCell ⟨B + 1, 6, none⟩ (.bool typ)) = w9 at *
    obtain ⟨g0, g1, g2, g3, g4, g5, g6⟩ := ef_cells hbk
    refine bodyPost_ret (v := .tuple #[.agg #[.slice eo F.length ec, .int .i64 cur, .bool sset, .bool lin, .slice to' txt.length tc, .int .i64 how, .bool typ], .int .i64 0]) (by simp [results, Tryz.results10, go_sem, g0, g1, g2, g3, g4, g5, g6]) rfl ?_
    exact EfQ.out HF.out HM.out (bT L1.out B3.out) (Below.refl _ _ |>.trans B5.out) hgr J3.out.lt (by have := HB.out; omega)
set_option maxHeartbeats 8000000 in
set_option linter.unusedSimpArgs false in
theorem do_op7 (ao : Option Addr) (n c : Nat) (l : List UInt8) (k f t a b q : Nat) (L D : Bool) (w : World) (HT : Hid (Tx w ao n c l)) (hbig : n ≤ 1048576) (hk : k ≤ n) (hq1 : 1 ≤ q) (hq : q ≤ 9999) (R : RgO l (f : Int) (t : Int) L D (lnO l k (f : Int) (t : Int) L D) f t a b) (hni : ¬ ((f : Int) = (t : Int) ∧ idl false false L = true)) :
    Calls Tryz.prog 10 #[.slice ao n c, .int .i64 (k : Int), .string ⟨#[103, 117]⟩, .agg #[.int .i64 (f : Int), .int .i64 (t : Int), .bool L, .bool D], .int .i64 (q : Int)] w fun e w' => EfQ (leEf loB l k f t L a) (0) w e w' := by
  have hln := HT.out.len
  have ht : t ≤ n := by have := R.tn; omega
  have ha : (a : Int) ≤ 9223372036854775807 := by have h1 := R.ab; have h2 := R.bn; have h3 := nl_le l; omega
  have CC : Hid (∀ W C1 C2 C3, Tx W ao n c l → Blk W C1 110 (tfv 74) → Blk W C2 110 (tfv 75) → Blk W C3 110 (tfv 76) → Calls Tryz.prog 106 #[tsk (.slice ao n c) (k : Int) (f : Int) (t : Int) L D (a : Int) (b : Int) (q : Int), .pointer (some ⟨C2, 0, none⟩)] W fun e w' => EfQ (leEf loB l k f t L a) (0) W e w') := fun W C1 C2 C3 HT M1 M2 M3 => let_low ao n c k f t C2 L D a b (q : Int) l W HT hbig R.ft ht hk ha M2
  obtain ⟨W1, hW1⟩ : ∃ x, (w.alloc (.cells #[.int .i64 (f : Int), .int .i64 (t : Int), .bool L, .bool D] 28)).alloc (.cells #[.slice none 0 0, .int .i64 0, .bool false, .bool false, .slice none 0 0, .int .i64 0, .bool false] 35) = x := ⟨_, rfl⟩
  have T1 : Hid (Dob w W1 (f : Int) (t : Int) L D) := by unfold Hid; rw [← hW1]; exact Dob.new w _ _ _ _
  have HT1 := Hid.mk' (HT.out.keep T1.out.bel)
  have HLN := Hid.mk' HT.out.len
  have CM := Hid.mk' (opr_any W1)
  obtain ⟨B, hB⟩ : ∃ b, w.heap.size = b := ⟨_, rfl⟩
  have HB := Hid.mk' hB
  have K1 : Hid (Blk W1 B 28 (rgC (f : Int) (t : Int) L D)) := by unfold Hid; rw [← hB]; exact T1.out.rg
  have J1 : Hid (Blk W1 (B + 1) 35 (ef7 (.slice none 0 0) 0 false false (.slice none 0 0) 0 false)) := by unfold Hid; rw [← hB]; exact T1.out.ef
  have L1 := Hid.mk' T1.out.bel
  have CL : Hid (∀ W, Below W1.heap.size W1 W → Calls Tryz.prog 38 #[.slice ao n c, .int .i64 (k : Int), .agg #[.int .i64 (f : Int), .int .i64 (t : Int), .bool L, .bool D]] W fun e w' => e = .returned (lnV (lnO l k (f : Int) (t : Int) L D)) ∧ Below W.heap.size W w') := fun W hW => linesOf_any' ao n c k (f : Int) (t : Int) L D l W (HT1.out.keep hW) hk
  rw [R.eX] at CL
  unfold lnV at CL
  dsimp only at CL
  have hp9 : decide (0 ≤ (k : Int) ∧ (k : Int) ≤ (n : Int)) = true := decide_eq_true (by omega)
  have hq9 : cntB (q : Int) = true := by unfold cntB; rw [decide_eq_true (by omega), decide_eq_true (by omega)]; rfl
  unfold tsk at CC
  generalize (leEf loB l k f t L a) = x at *
  clear R
  go_enter Tryz.func10, Tryz.ntmps10
  go_upto_region 1 with fail
  clear hW1 hB T1 HT
  go_upto_region 2 with (first | (go_at_call 35; refine CM.out.mono ?_; rintro e w2 ⟨r, C1, C2, C3, rfl, hm, k1, k2, k3, hb2⟩; have hlk := look_any hm ⟨#[103, 117]⟩ (i := 6) (v := .func (.func 106) #[] #[.pointer (some ⟨C2, 0, none⟩)]) (by kernel_rfl); have K2 := Hid.mk' (K1.out.keep hb2); have J2 := Hid.mk' (J1.out.keep hb2); have B2 := Hid.mk' hb2; have M1 := Hid.mk' k1; have M2 := Hid.mk' k2; have M3 := Hid.mk' k3; clear hb2 K1 J1 k1 k2 k3 hm; obtain ⟨c0, c1, c2, c3⟩ := rgC_cells K2.out) | fail)
  clear hlk
  go_upto_region 4 with (first | (go_at_call 36; have CP := oplace_any ao n c (k : Int) w2; rw [hp9] at CP; refine CP.mono ?_; rintro e w' ⟨rfl, hw⟩; have hq := hw.symm; subst hq; clear hw CP) | (go_at_call 37; have CP := ocount_any (q : Int) w2; rw [hq9] at CP; refine CP.mono ?_; rintro e w' ⟨rfl, hw⟩; have hq := hw.symm; subst hq; clear hw CP) | fail)
  by_cases he : (f : Int) = (t : Int)
  · have hi : idl false false L = false := by
      cases e : idl false false L with
      | true => exact absurd ⟨he, e⟩ hni
      | false => rfl
    obtain rfl : f = t := by omega
    clear he
    go_upto_region 9 with (first | (go_at_call 38; refine (CL.out w2 B2.out).mono ?_; rintro e w3 ⟨rfl, hb3⟩; have K3 := Hid.mk' (K2.out.keep hb3); have J3 := Hid.mk' (J2.out.keep hb3); have B3 := Hid.mk' (bT B2.out hb3); have N1 := Hid.mk' (M1.out.keep hb3); have N2 := Hid.mk' (M2.out.keep hb3); have N3 := Hid.mk' (M3.out.keep hb3); clear hb3 K2 J2 B2 M1 M2 M3 CL c0 c1 c2 c3; obtain ⟨c0, c1, c2, c3⟩ := rgC_cells K3.out) | (go_at_call 39; have CI := idle_any ⟨#[103, 117]⟩ false false L w3 (by decide +kernel) (by decide +kernel); rw [hi] at CI; refine CI.mono ?_; rintro e w' ⟨rfl, hw⟩; have hq := hw.symm; subst hq; clear hw CI) | fail)
    have CX := Hid.mk' (CC.out w3 C1 C2 C3 (HT1.out.keep B3.out) N1.out N2.out N3.out)
    clear CC
    go_wp2_with fail
    refine CX.out.mono ?_
    rintro e w5 ⟨v, F, tv, rfl, hF, hM, hb5⟩
    obtain ⟨es, cur, sset, lin, txt, how, typ⟩ := x
    obtain ⟨eo, ec, rfl, -, -⟩ := hM.eds.edz
    obtain ⟨to', tc, rfl⟩ := hM.tx.shape
    have J5 := Hid.mk' (J3.out.keep hb5)
    obtain ⟨j0, j1, j2, j3, j4, j5, j6⟩ := ef_cells J5.out
    obtain ⟨f0, f1, f2, f3, f4, f5, f6⟩ := ef_frozen J5.out
    have hbk := ef_store J5.out (.slice eo F.length ec) (.int .i64 cur) (.bool sset) (.bool lin) (.slice to' txt.length tc) (.int .i64 how) (.bool typ)
    have hgr := ef_grown w5 (B + 1) (.slice eo F.length ec) (.int .i64 cur) (.bool sset) (.bool lin) (.slice to' txt.length tc) (.int .i64 how) (.bool typ)
    have HF := Hid.mk' hF
    have HM := Hid.mk' hM
    have B5 := Hid.mk' hb5
    clear hF hM hb5 CX K3 c0 c1 c2 c3
    unfold efV
    dsimp only
    go_wp2_with fail
    generalize (((((((w5.setCell ⟨B + 1, 0, none⟩ (.slice eo F.length ec)).setCell ⟨B + 1, 1, none⟩ (.int .i64 cur)).setCell ⟨B + 1, 2, none⟩ (.bool sset)).setCell ⟨B + 1, 3, none⟩ (.bool lin)).setCell ⟨B + 1, 4, none⟩ (.slice to' txt.length tc)).setCell ⟨B + 1, 5, none⟩ (.int .i64 how)).setCell ⟨B + 1, 6, none⟩ (.bool typ)) = w9 at *
    obtain ⟨g0, g1, g2, g3, g4, g5, g6⟩ := ef_cells hbk
    refine bodyPost_ret (v := .tuple #[.agg #[.slice eo F.length ec, .int .i64 cur, .bool sset, .bool lin, .slice to' txt.length tc, .int .i64 how, .bool typ], .int .i64 0]) (by simp [results, Tryz.results10, go_sem, g0, g1, g2, g3, g4, g5, g6]) rfl ?_
    exact EfQ.out HF.out HM.out (bT L1.out B3.out) (Below.refl _ _ |>.trans B5.out) hgr J3.out.lt (by have := HB.out; omega)
  · have hne : ¬ (f = t) := by omega
    go_upto_region 9 with (first | (go_at_call 38; refine (CL.out w2 B2.out).mono ?_; rintro e w3 ⟨rfl, hb3⟩; have K3 := Hid.mk' (K2.out.keep hb3); have J3 := Hid.mk' (J2.out.keep hb3); have B3 := Hid.mk' (bT B2.out hb3); have N1 := Hid.mk' (M1.out.keep hb3); have N2 := Hid.mk' (M2.out.keep hb3); have N3 := Hid.mk' (M3.out.keep hb3); clear hb3 K2 J2 B2 M1 M2 M3 CL c0 c1 c2 c3; obtain ⟨c0, c1, c2, c3⟩ := rgC_cells K3.out) | fail)
    have CX := Hid.mk' (CC.out w3 C1 C2 C3 (HT1.out.keep B3.out) N1.out N2.out N3.out)
    clear CC
    go_wp2_with fail
    refine CX.out.mono ?_
    rintro e w5 ⟨v, F, tv, rfl, hF, hM, hb5⟩
    obtain ⟨es, cur, sset, lin, txt, how, typ⟩ := x
    obtain ⟨eo, ec, rfl, -, -⟩ := hM.eds.edz
    obtain ⟨to', tc, rfl⟩ := hM.tx.shape
    have J5 := Hid.mk' (J3.out.keep hb5)
    obtain ⟨j0, j1, j2, j3, j4, j5, j6⟩ := ef_cells J5.out
    obtain ⟨f0, f1, f2, f3, f4, f5, f6⟩ := ef_frozen J5.out
    have hbk := ef_store J5.out (.slice eo F.length ec) (.int .i64 cur) (.bool sset) (.bool lin) (.slice to' txt.length tc) (.int .i64 how) (.bool typ)
    have hgr := ef_grown w5 (B + 1) (.slice eo F.length ec) (.int .i64 cur) (.bool sset) (.bool lin) (.slice to' txt.length tc) (.int .i64 how) (.bool typ)
    have HF := Hid.mk' hF
    have HM := Hid.mk' hM
    have B5 := Hid.mk' hb5
    clear hF hM hb5 CX K3 c0 c1 c2 c3
    unfold efV
    dsimp only
    go_wp2_with fail
    generalize (((((((w5.setCell ⟨B + 1, 0, none⟩ (.slice eo F.length ec)).setCell ⟨B + 1, 1, none⟩ (.int .i64 cur)).setCell ⟨B + 1, 2, none⟩ (.bool sset)).setCell ⟨B + 1, 3, none⟩ (.bool lin)).setCell ⟨B + 1, 4, none⟩ (.slice to' txt.length tc)).setCell ⟨B + 1, 5, none⟩ (.int .i64 how)).setCell ⟨B + 1, 6, none⟩ (.bool typ)) = w9 at *
    obtain ⟨g0, g1, g2, g3, g4, g5, g6⟩ := ef_cells hbk
    refine bodyPost_ret (v := .tuple #[.agg #[.slice eo F.length ec, .int .i64 cur, .bool sset, .bool lin, .slice to' txt.length tc, .int .i64 how, .bool typ], .int .i64 0]) (by simp [results, Tryz.results10, go_sem, g0, g1, g2, g3, g4, g5, g6]) rfl ?_
    exact EfQ.out HF.out HM.out (bT L1.out B3.out) (Below.refl _ _ |>.trans B5.out) hgr J3.out.lt (by have := HB.out; omega)
set_option maxHeartbeats 8000000 in
set_option linter.unusedSimpArgs false in
theorem do_op8 (ao : Option Addr) (n c : Nat) (l : List UInt8) (k f t a b q : Nat) (L D : Bool) (w : World) (HT : Hid (Tx w ao n c l)) (hbig : n ≤ 1048576) (hk : k ≤ n) (hq1 : 1 ≤ q) (hq : q ≤ 9999) (R : RgO l (f : Int) (t : Int) L D (lnO l k (f : Int) (t : Int) L D) f t a b) (hni : ¬ ((f : Int) = (t : Int) ∧ idl false false L = true)) :
    Calls Tryz.prog 10 #[.slice ao n c, .int .i64 (k : Int), .string ⟨#[103, 85]⟩, .agg #[.int .i64 (f : Int), .int .i64 (t : Int), .bool L, .bool D], .int .i64 (q : Int)] w fun e w' => EfQ (leEf upB l k f t L a) (0) w e w' := by
  have hln := HT.out.len
  have ht : t ≤ n := by have := R.tn; omega
  have ha : (a : Int) ≤ 9223372036854775807 := by have h1 := R.ab; have h2 := R.bn; have h3 := nl_le l; omega
  have CC : Hid (∀ W C1 C2 C3, Tx W ao n c l → Blk W C1 110 (tfv 74) → Blk W C2 110 (tfv 75) → Blk W C3 110 (tfv 76) → Calls Tryz.prog 106 #[tsk (.slice ao n c) (k : Int) (f : Int) (t : Int) L D (a : Int) (b : Int) (q : Int), .pointer (some ⟨C3, 0, none⟩)] W fun e w' => EfQ (leEf upB l k f t L a) (0) W e w') := fun W C1 C2 C3 HT M1 M2 M3 => let_upp ao n c k f t C3 L D a b (q : Int) l W HT hbig R.ft ht hk ha M3
  obtain ⟨W1, hW1⟩ : ∃ x, (w.alloc (.cells #[.int .i64 (f : Int), .int .i64 (t : Int), .bool L, .bool D] 28)).alloc (.cells #[.slice none 0 0, .int .i64 0, .bool false, .bool false, .slice none 0 0, .int .i64 0, .bool false] 35) = x := ⟨_, rfl⟩
  have T1 : Hid (Dob w W1 (f : Int) (t : Int) L D) := by unfold Hid; rw [← hW1]; exact Dob.new w _ _ _ _
  have HT1 := Hid.mk' (HT.out.keep T1.out.bel)
  have HLN := Hid.mk' HT.out.len
  have CM := Hid.mk' (opr_any W1)
  obtain ⟨B, hB⟩ : ∃ b, w.heap.size = b := ⟨_, rfl⟩
  have HB := Hid.mk' hB
  have K1 : Hid (Blk W1 B 28 (rgC (f : Int) (t : Int) L D)) := by unfold Hid; rw [← hB]; exact T1.out.rg
  have J1 : Hid (Blk W1 (B + 1) 35 (ef7 (.slice none 0 0) 0 false false (.slice none 0 0) 0 false)) := by unfold Hid; rw [← hB]; exact T1.out.ef
  have L1 := Hid.mk' T1.out.bel
  have CL : Hid (∀ W, Below W1.heap.size W1 W → Calls Tryz.prog 38 #[.slice ao n c, .int .i64 (k : Int), .agg #[.int .i64 (f : Int), .int .i64 (t : Int), .bool L, .bool D]] W fun e w' => e = .returned (lnV (lnO l k (f : Int) (t : Int) L D)) ∧ Below W.heap.size W w') := fun W hW => linesOf_any' ao n c k (f : Int) (t : Int) L D l W (HT1.out.keep hW) hk
  rw [R.eX] at CL
  unfold lnV at CL
  dsimp only at CL
  have hp9 : decide (0 ≤ (k : Int) ∧ (k : Int) ≤ (n : Int)) = true := decide_eq_true (by omega)
  have hq9 : cntB (q : Int) = true := by unfold cntB; rw [decide_eq_true (by omega), decide_eq_true (by omega)]; rfl
  unfold tsk at CC
  generalize (leEf upB l k f t L a) = x at *
  clear R
  go_enter Tryz.func10, Tryz.ntmps10
  go_upto_region 1 with fail
  clear hW1 hB T1 HT
  go_upto_region 2 with (first | (go_at_call 35; refine CM.out.mono ?_; rintro e w2 ⟨r, C1, C2, C3, rfl, hm, k1, k2, k3, hb2⟩; have hlk := look_any hm ⟨#[103, 85]⟩ (i := 7) (v := .func (.func 106) #[] #[.pointer (some ⟨C3, 0, none⟩)]) (by kernel_rfl); have K2 := Hid.mk' (K1.out.keep hb2); have J2 := Hid.mk' (J1.out.keep hb2); have B2 := Hid.mk' hb2; have M1 := Hid.mk' k1; have M2 := Hid.mk' k2; have M3 := Hid.mk' k3; clear hb2 K1 J1 k1 k2 k3 hm; obtain ⟨c0, c1, c2, c3⟩ := rgC_cells K2.out) | fail)
  clear hlk
  go_upto_region 4 with (first | (go_at_call 36; have CP := oplace_any ao n c (k : Int) w2; rw [hp9] at CP; refine CP.mono ?_; rintro e w' ⟨rfl, hw⟩; have hq := hw.symm; subst hq; clear hw CP) | (go_at_call 37; have CP := ocount_any (q : Int) w2; rw [hq9] at CP; refine CP.mono ?_; rintro e w' ⟨rfl, hw⟩; have hq := hw.symm; subst hq; clear hw CP) | fail)
  by_cases he : (f : Int) = (t : Int)
  · have hi : idl false false L = false := by
      cases e : idl false false L with
      | true => exact absurd ⟨he, e⟩ hni
      | false => rfl
    obtain rfl : f = t := by omega
    clear he
    go_upto_region 9 with (first | (go_at_call 38; refine (CL.out w2 B2.out).mono ?_; rintro e w3 ⟨rfl, hb3⟩; have K3 := Hid.mk' (K2.out.keep hb3); have J3 := Hid.mk' (J2.out.keep hb3); have B3 := Hid.mk' (bT B2.out hb3); have N1 := Hid.mk' (M1.out.keep hb3); have N2 := Hid.mk' (M2.out.keep hb3); have N3 := Hid.mk' (M3.out.keep hb3); clear hb3 K2 J2 B2 M1 M2 M3 CL c0 c1 c2 c3; obtain ⟨c0, c1, c2, c3⟩ := rgC_cells K3.out) | (go_at_call 39; have CI := idle_any ⟨#[103, 85]⟩ false false L w3 (by decide +kernel) (by decide +kernel); rw [hi] at CI; refine CI.mono ?_; rintro e w' ⟨rfl, hw⟩; have hq := hw.symm; subst hq; clear hw CI) | fail)
    have CX := Hid.mk' (CC.out w3 C1 C2 C3 (HT1.out.keep B3.out) N1.out N2.out N3.out)
    clear CC
    go_wp2_with fail
    refine CX.out.mono ?_
    rintro e w5 ⟨v, F, tv, rfl, hF, hM, hb5⟩
    obtain ⟨es, cur, sset, lin, txt, how, typ⟩ := x
    obtain ⟨eo, ec, rfl, -, -⟩ := hM.eds.edz
    obtain ⟨to', tc, rfl⟩ := hM.tx.shape
    have J5 := Hid.mk' (J3.out.keep hb5)
    obtain ⟨j0, j1, j2, j3, j4, j5, j6⟩ := ef_cells J5.out
    obtain ⟨f0, f1, f2, f3, f4, f5, f6⟩ := ef_frozen J5.out
    have hbk := ef_store J5.out (.slice eo F.length ec) (.int .i64 cur) (.bool sset) (.bool lin) (.slice to' txt.length tc) (.int .i64 how) (.bool typ)
    have hgr := ef_grown w5 (B + 1) (.slice eo F.length ec) (.int .i64 cur) (.bool sset) (.bool lin) (.slice to' txt.length tc) (.int .i64 how) (.bool typ)
    have HF := Hid.mk' hF
    have HM := Hid.mk' hM
    have B5 := Hid.mk' hb5
    clear hF hM hb5 CX K3 c0 c1 c2 c3
    unfold efV
    dsimp only
    go_wp2_with fail
    generalize (((((((w5.setCell ⟨B + 1, 0, none⟩ (.slice eo F.length ec)).setCell ⟨B + 1, 1, none⟩ (.int .i64 cur)).setCell ⟨B + 1, 2, none⟩ (.bool sset)).setCell ⟨B + 1, 3, none⟩ (.bool lin)).setCell ⟨B + 1, 4, none⟩ (.slice to' txt.length tc)).setCell ⟨B + 1, 5, none⟩ (.int .i64 how)).setCell ⟨B + 1, 6, none⟩ (.bool typ)) = w9 at *
    obtain ⟨g0, g1, g2, g3, g4, g5, g6⟩ := ef_cells hbk
    refine bodyPost_ret (v := .tuple #[.agg #[.slice eo F.length ec, .int .i64 cur, .bool sset, .bool lin, .slice to' txt.length tc, .int .i64 how, .bool typ], .int .i64 0]) (by simp [results, Tryz.results10, go_sem, g0, g1, g2, g3, g4, g5, g6]) rfl ?_
    exact EfQ.out HF.out HM.out (bT L1.out B3.out) (Below.refl _ _ |>.trans B5.out) hgr J3.out.lt (by have := HB.out; omega)
  · have hne : ¬ (f = t) := by omega
    go_upto_region 9 with (first | (go_at_call 38; refine (CL.out w2 B2.out).mono ?_; rintro e w3 ⟨rfl, hb3⟩; have K3 := Hid.mk' (K2.out.keep hb3); have J3 := Hid.mk' (J2.out.keep hb3); have B3 := Hid.mk' (bT B2.out hb3); have N1 := Hid.mk' (M1.out.keep hb3); have N2 := Hid.mk' (M2.out.keep hb3); have N3 := Hid.mk' (M3.out.keep hb3); clear hb3 K2 J2 B2 M1 M2 M3 CL c0 c1 c2 c3; obtain ⟨c0, c1, c2, c3⟩ := rgC_cells K3.out) | fail)
    have CX := Hid.mk' (CC.out w3 C1 C2 C3 (HT1.out.keep B3.out) N1.out N2.out N3.out)
    clear CC
    go_wp2_with fail
    refine CX.out.mono ?_
    rintro e w5 ⟨v, F, tv, rfl, hF, hM, hb5⟩
    obtain ⟨es, cur, sset, lin, txt, how, typ⟩ := x
    obtain ⟨eo, ec, rfl, -, -⟩ := hM.eds.edz
    obtain ⟨to', tc, rfl⟩ := hM.tx.shape
    have J5 := Hid.mk' (J3.out.keep hb5)
    obtain ⟨j0, j1, j2, j3, j4, j5, j6⟩ := ef_cells J5.out
    obtain ⟨f0, f1, f2, f3, f4, f5, f6⟩ := ef_frozen J5.out
    have hbk := ef_store J5.out (.slice eo F.length ec) (.int .i64 cur) (.bool sset) (.bool lin) (.slice to' txt.length tc) (.int .i64 how) (.bool typ)
    have hgr := ef_grown w5 (B + 1) (.slice eo F.length ec) (.int .i64 cur) (.bool sset) (.bool lin) (.slice to' txt.length tc) (.int .i64 how) (.bool typ)
    have HF := Hid.mk' hF
    have HM := Hid.mk' hM
    have B5 := Hid.mk' hb5
    clear hF hM hb5 CX K3 c0 c1 c2 c3
    unfold efV
    dsimp only
    go_wp2_with fail
    generalize (((((((w5.setCell ⟨B + 1, 0, none⟩ (.slice eo F.length ec)).setCell ⟨B + 1, 1, none⟩ (.int .i64 cur)).setCell ⟨B + 1, 2, none⟩ (.bool sset)).setCell ⟨B + 1, 3, none⟩ (.bool lin)).setCell ⟨B + 1, 4, none⟩ (.slice to' txt.length tc)).setCell ⟨B + 1, 5, none⟩ (.int .i64 how)).setCell ⟨B + 1, 6, none⟩ (.bool typ)) = w9 at *
    obtain ⟨g0, g1, g2, g3, g4, g5, g6⟩ := ef_cells hbk
    refine bodyPost_ret (v := .tuple #[.agg #[.slice eo F.length ec, .int .i64 cur, .bool sset, .bool lin, .slice to' txt.length tc, .int .i64 how, .bool typ], .int .i64 0]) (by simp [results, Tryz.results10, go_sem, g0, g1, g2, g3, g4, g5, g6]) rfl ?_
    exact EfQ.out HF.out HM.out (bT L1.out B3.out) (Below.refl _ _ |>.trans B5.out) hgr J3.out.lt (by have := HB.out; omega)
theorem do_any (ao : Option Addr) (n c : Nat) (l : List UInt8) (at' : Int) (s : ByteArray) (fF tT : Int) (L D : Bool) (q : Int) (w : World) (HT : Hid (Tx w ao n c l)) (hbig : n ≤ 1048576) :
    Calls Tryz.prog 10 #[.slice ao n c, .int .i64 at', .string s, .agg #[.int .i64 fF, .int .i64 tT, .bool L, .bool D], .int .i64 q] w fun e w' => EfQ (doX l at' s fF tT L D q).1 (doX l at' s fF tT L D q).2 w e w' := by
  have hln := HT.out.len
  unfold doX
  rw [hln]
  rcases kn_cases s with ⟨rfl, hk⟩ | ⟨rfl, hk⟩ | ⟨rfl, hk⟩ | ⟨rfl, hk⟩ | ⟨rfl, hk⟩ | ⟨rfl, hk⟩ | ⟨rfl, hk⟩ | ⟨rfl, hk⟩ | ⟨_, hk⟩
  · rw [hk]
    have hf : ∀ C1 C2 C3, ∃ i v, Instr.findNow .string (.string ⟨#[100]⟩) (opes C1 C2 C3).toList 0 = some (some (i, v)) := fun C1 C2 C3 => ⟨0, .func (.func 68) #[] #[], by kernel_rfl⟩
    by_cases h1 : (0 ≤ at' ∧ at' ≤ (n : Int)) ∧ cntB q = true
    · have hq2 : 1 ≤ q ∧ q ≤ 9999 := by have := h1.2; unfold cntB at this; simp at this; exact this
      cases hl : (lnO l at'.toNat fF tT L D).2.2 with
      | false =>
        rw [if_pos (.inr (.inr (.inr rfl)))]
        exact do_lines ao n c l at' _ fF tT L D q w HT hf h1.1 h1.2 hl
      | true =>
        rw [if_neg (by simp [h1.1, hq2])]
        by_cases hi : fF = tT ∧ idl (1 == 1) (1 == 2) L = true
        · rw [if_pos hi]
          exact do_idle ao n c l at' _ fF tT L D q w HT true false (by decide +kernel) (by decide +kernel) hf h1.1 h1.2 hl hi.1 hi.2
        · rw [if_neg hi]
          obtain ⟨f, t, a, b, R⟩ := lnO_ok hl
          have e1 := R.eF
          have e2 := R.eT
          subst e1 e2
          rw [R.eX]
          obtain ⟨k, rfl⟩ := Int.eq_ofNat_of_zero_le h1.1.1
          obtain ⟨q, rfl⟩ := Int.eq_ofNat_of_zero_le (show 0 ≤ q by omega)
          exact do_op1 ao n c l k f t a b q L D w HT hbig (by omega) (by omega) (by omega) R hi
    · rw [if_pos (by
        by_cases h2 : 0 ≤ at' ∧ at' ≤ (n : Int)
        · refine .inr (.inr (.inl fun h3 => h1 ⟨h2, ?_⟩))
          unfold cntB; rw [decide_eq_true h3.1, decide_eq_true h3.2]; rfl
        · exact .inr (.inl h2))]
      exact do_args ao n c l at' _ fF tT L D q w HT hf h1
  · rw [hk]
    have hf : ∀ C1 C2 C3, ∃ i v, Instr.findNow .string (.string ⟨#[99]⟩) (opes C1 C2 C3).toList 0 = some (some (i, v)) := fun C1 C2 C3 => ⟨1, .func (.func 69) #[] #[], by kernel_rfl⟩
    by_cases h1 : (0 ≤ at' ∧ at' ≤ (n : Int)) ∧ cntB q = true
    · have hq2 : 1 ≤ q ∧ q ≤ 9999 := by have := h1.2; unfold cntB at this; simp at this; exact this
      cases hl : (lnO l at'.toNat fF tT L D).2.2 with
      | false =>
        rw [if_pos (.inr (.inr (.inr rfl)))]
        exact do_lines ao n c l at' _ fF tT L D q w HT hf h1.1 h1.2 hl
      | true =>
        rw [if_neg (by simp [h1.1, hq2])]
        by_cases hi : fF = tT ∧ idl (2 == 1) (2 == 2) L = true
        · rw [if_pos hi]
          exact do_idle ao n c l at' _ fF tT L D q w HT false true (by decide +kernel) (by decide +kernel) hf h1.1 h1.2 hl hi.1 hi.2
        · rw [if_neg hi]
          obtain ⟨f, t, a, b, R⟩ := lnO_ok hl
          have e1 := R.eF
          have e2 := R.eT
          subst e1 e2
          rw [R.eX]
          obtain ⟨k, rfl⟩ := Int.eq_ofNat_of_zero_le h1.1.1
          obtain ⟨q, rfl⟩ := Int.eq_ofNat_of_zero_le (show 0 ≤ q by omega)
          exact do_op2 ao n c l k f t a b q L D w HT hbig (by omega) (by omega) (by omega) R hi
    · rw [if_pos (by
        by_cases h2 : 0 ≤ at' ∧ at' ≤ (n : Int)
        · refine .inr (.inr (.inl fun h3 => h1 ⟨h2, ?_⟩))
          unfold cntB; rw [decide_eq_true h3.1, decide_eq_true h3.2]; rfl
        · exact .inr (.inl h2))]
      exact do_args ao n c l at' _ fF tT L D q w HT hf h1
  · rw [hk]
    have hf : ∀ C1 C2 C3, ∃ i v, Instr.findNow .string (.string ⟨#[121]⟩) (opes C1 C2 C3).toList 0 = some (some (i, v)) := fun C1 C2 C3 => ⟨2, .func (.func 70) #[] #[], by kernel_rfl⟩
    by_cases h1 : (0 ≤ at' ∧ at' ≤ (n : Int)) ∧ cntB q = true
    · have hq2 : 1 ≤ q ∧ q ≤ 9999 := by have := h1.2; unfold cntB at this; simp at this; exact this
      cases hl : (lnO l at'.toNat fF tT L D).2.2 with
      | false =>
        rw [if_pos (.inr (.inr (.inr rfl)))]
        exact do_lines ao n c l at' _ fF tT L D q w HT hf h1.1 h1.2 hl
      | true =>
        rw [if_neg (by simp [h1.1, hq2])]
        by_cases hi : fF = tT ∧ idl (3 == 1) (3 == 2) L = true
        · rw [if_pos hi]
          exact do_idle ao n c l at' _ fF tT L D q w HT false false (by decide +kernel) (by decide +kernel) hf h1.1 h1.2 hl hi.1 hi.2
        · rw [if_neg hi]
          obtain ⟨f, t, a, b, R⟩ := lnO_ok hl
          have e1 := R.eF
          have e2 := R.eT
          subst e1 e2
          rw [R.eX]
          obtain ⟨k, rfl⟩ := Int.eq_ofNat_of_zero_le h1.1.1
          obtain ⟨q, rfl⟩ := Int.eq_ofNat_of_zero_le (show 0 ≤ q by omega)
          exact do_op3 ao n c l k f t a b q L D w HT hbig (by omega) (by omega) (by omega) R hi
    · rw [if_pos (by
        by_cases h2 : 0 ≤ at' ∧ at' ≤ (n : Int)
        · refine .inr (.inr (.inl fun h3 => h1 ⟨h2, ?_⟩))
          unfold cntB; rw [decide_eq_true h3.1, decide_eq_true h3.2]; rfl
        · exact .inr (.inl h2))]
      exact do_args ao n c l at' _ fF tT L D q w HT hf h1
  · rw [hk]
    have hf : ∀ C1 C2 C3, ∃ i v, Instr.findNow .string (.string ⟨#[62]⟩) (opes C1 C2 C3).toList 0 = some (some (i, v)) := fun C1 C2 C3 => ⟨3, .func (.func 71) #[] #[], by kernel_rfl⟩
    by_cases h1 : (0 ≤ at' ∧ at' ≤ (n : Int)) ∧ cntB q = true
    · have hq2 : 1 ≤ q ∧ q ≤ 9999 := by have := h1.2; unfold cntB at this; simp at this; exact this
      cases hl : (lnO l at'.toNat fF tT L D).2.2 with
      | false =>
        rw [if_pos (.inr (.inr (.inr rfl)))]
        exact do_lines ao n c l at' _ fF tT L D q w HT hf h1.1 h1.2 hl
      | true =>
        rw [if_neg (by simp [h1.1, hq2])]
        by_cases hi : fF = tT ∧ idl (4 == 1) (4 == 2) L = true
        · rw [if_pos hi]
          exact do_idle ao n c l at' _ fF tT L D q w HT false false (by decide +kernel) (by decide +kernel) hf h1.1 h1.2 hl hi.1 hi.2
        · rw [if_neg hi]
          obtain ⟨f, t, a, b, R⟩ := lnO_ok hl
          have e1 := R.eF
          have e2 := R.eT
          subst e1 e2
          rw [R.eX]
          obtain ⟨k, rfl⟩ := Int.eq_ofNat_of_zero_le h1.1.1
          obtain ⟨q, rfl⟩ := Int.eq_ofNat_of_zero_le (show 0 ≤ q by omega)
          exact do_op4 ao n c l k f t a b q L D w HT hbig (by omega) (by omega) (by omega) R hi
    · rw [if_pos (by
        by_cases h2 : 0 ≤ at' ∧ at' ≤ (n : Int)
        · refine .inr (.inr (.inl fun h3 => h1 ⟨h2, ?_⟩))
          unfold cntB; rw [decide_eq_true h3.1, decide_eq_true h3.2]; rfl
        · exact .inr (.inl h2))]
      exact do_args ao n c l at' _ fF tT L D q w HT hf h1
  · rw [hk]
    have hf : ∀ C1 C2 C3, ∃ i v, Instr.findNow .string (.string ⟨#[60]⟩) (opes C1 C2 C3).toList 0 = some (some (i, v)) := fun C1 C2 C3 => ⟨4, .func (.func 72) #[] #[], by kernel_rfl⟩
    by_cases h1 : (0 ≤ at' ∧ at' ≤ (n : Int)) ∧ cntB q = true
    · have hq2 : 1 ≤ q ∧ q ≤ 9999 := by have := h1.2; unfold cntB at this; simp at this; exact this
      cases hl : (lnO l at'.toNat fF tT L D).2.2 with
      | false =>
        rw [if_pos (.inr (.inr (.inr rfl)))]
        exact do_lines ao n c l at' _ fF tT L D q w HT hf h1.1 h1.2 hl
      | true =>
        rw [if_neg (by simp [h1.1, hq2])]
        by_cases hi : fF = tT ∧ idl (5 == 1) (5 == 2) L = true
        · rw [if_pos hi]
          exact do_idle ao n c l at' _ fF tT L D q w HT false false (by decide +kernel) (by decide +kernel) hf h1.1 h1.2 hl hi.1 hi.2
        · rw [if_neg hi]
          obtain ⟨f, t, a, b, R⟩ := lnO_ok hl
          have e1 := R.eF
          have e2 := R.eT
          subst e1 e2
          rw [R.eX]
          obtain ⟨k, rfl⟩ := Int.eq_ofNat_of_zero_le h1.1.1
          obtain ⟨q, rfl⟩ := Int.eq_ofNat_of_zero_le (show 0 ≤ q by omega)
          exact do_op5 ao n c l k f t a b q L D w HT hbig (by omega) (by omega) (by omega) R hi
    · rw [if_pos (by
        by_cases h2 : 0 ≤ at' ∧ at' ≤ (n : Int)
        · refine .inr (.inr (.inl fun h3 => h1 ⟨h2, ?_⟩))
          unfold cntB; rw [decide_eq_true h3.1, decide_eq_true h3.2]; rfl
        · exact .inr (.inl h2))]
      exact do_args ao n c l at' _ fF tT L D q w HT hf h1
  · rw [hk]
    have hf : ∀ C1 C2 C3, ∃ i v, Instr.findNow .string (.string ⟨#[103, 126]⟩) (opes C1 C2 C3).toList 0 = some (some (i, v)) := fun C1 C2 C3 => ⟨5, .func (.func 106) #[] #[.pointer (some ⟨C1, 0, none⟩)], by kernel_rfl⟩
    by_cases h1 : (0 ≤ at' ∧ at' ≤ (n : Int)) ∧ cntB q = true
    · have hq2 : 1 ≤ q ∧ q ≤ 9999 := by have := h1.2; unfold cntB at this; simp at this; exact this
      cases hl : (lnO l at'.toNat fF tT L D).2.2 with
      | false =>
        rw [if_pos (.inr (.inr (.inr rfl)))]
        exact do_lines ao n c l at' _ fF tT L D q w HT hf h1.1 h1.2 hl
      | true =>
        rw [if_neg (by simp [h1.1, hq2])]
        by_cases hi : fF = tT ∧ idl (6 == 1) (6 == 2) L = true
        · rw [if_pos hi]
          exact do_idle ao n c l at' _ fF tT L D q w HT false false (by decide +kernel) (by decide +kernel) hf h1.1 h1.2 hl hi.1 hi.2
        · rw [if_neg hi]
          obtain ⟨f, t, a, b, R⟩ := lnO_ok hl
          have e1 := R.eF
          have e2 := R.eT
          subst e1 e2
          rw [R.eX]
          obtain ⟨k, rfl⟩ := Int.eq_ofNat_of_zero_le h1.1.1
          obtain ⟨q, rfl⟩ := Int.eq_ofNat_of_zero_le (show 0 ≤ q by omega)
          exact do_op6 ao n c l k f t a b q L D w HT hbig (by omega) (by omega) (by omega) R hi
    · rw [if_pos (by
        by_cases h2 : 0 ≤ at' ∧ at' ≤ (n : Int)
        · refine .inr (.inr (.inl fun h3 => h1 ⟨h2, ?_⟩))
          unfold cntB; rw [decide_eq_true h3.1, decide_eq_true h3.2]; rfl
        · exact .inr (.inl h2))]
      exact do_args ao n c l at' _ fF tT L D q w HT hf h1
  · rw [hk]
    have hf : ∀ C1 C2 C3, ∃ i v, Instr.findNow .string (.string ⟨#[103, 117]⟩) (opes C1 C2 C3).toList 0 = some (some (i, v)) := fun C1 C2 C3 => ⟨6, .func (.func 106) #[] #[.pointer (some ⟨C2, 0, none⟩)], by kernel_rfl⟩
    by_cases h1 : (0 ≤ at' ∧ at' ≤ (n : Int)) ∧ cntB q = true
    · have hq2 : 1 ≤ q ∧ q ≤ 9999 := by have := h1.2; unfold cntB at this; simp at this; exact this
      cases hl : (lnO l at'.toNat fF tT L D).2.2 with
      | false =>
        rw [if_pos (.inr (.inr (.inr rfl)))]
        exact do_lines ao n c l at' _ fF tT L D q w HT hf h1.1 h1.2 hl
      | true =>
        rw [if_neg (by simp [h1.1, hq2])]
        by_cases hi : fF = tT ∧ idl (7 == 1) (7 == 2) L = true
        · rw [if_pos hi]
          exact do_idle ao n c l at' _ fF tT L D q w HT false false (by decide +kernel) (by decide +kernel) hf h1.1 h1.2 hl hi.1 hi.2
        · rw [if_neg hi]
          obtain ⟨f, t, a, b, R⟩ := lnO_ok hl
          have e1 := R.eF
          have e2 := R.eT
          subst e1 e2
          rw [R.eX]
          obtain ⟨k, rfl⟩ := Int.eq_ofNat_of_zero_le h1.1.1
          obtain ⟨q, rfl⟩ := Int.eq_ofNat_of_zero_le (show 0 ≤ q by omega)
          exact do_op7 ao n c l k f t a b q L D w HT hbig (by omega) (by omega) (by omega) R hi
    · rw [if_pos (by
        by_cases h2 : 0 ≤ at' ∧ at' ≤ (n : Int)
        · refine .inr (.inr (.inl fun h3 => h1 ⟨h2, ?_⟩))
          unfold cntB; rw [decide_eq_true h3.1, decide_eq_true h3.2]; rfl
        · exact .inr (.inl h2))]
      exact do_args ao n c l at' _ fF tT L D q w HT hf h1
  · rw [hk]
    have hf : ∀ C1 C2 C3, ∃ i v, Instr.findNow .string (.string ⟨#[103, 85]⟩) (opes C1 C2 C3).toList 0 = some (some (i, v)) := fun C1 C2 C3 => ⟨7, .func (.func 106) #[] #[.pointer (some ⟨C3, 0, none⟩)], by kernel_rfl⟩
    by_cases h1 : (0 ≤ at' ∧ at' ≤ (n : Int)) ∧ cntB q = true
    · have hq2 : 1 ≤ q ∧ q ≤ 9999 := by have := h1.2; unfold cntB at this; simp at this; exact this
      cases hl : (lnO l at'.toNat fF tT L D).2.2 with
      | false =>
        rw [if_pos (.inr (.inr (.inr rfl)))]
        exact do_lines ao n c l at' _ fF tT L D q w HT hf h1.1 h1.2 hl
      | true =>
        rw [if_neg (by simp [h1.1, hq2])]
        by_cases hi : fF = tT ∧ idl (8 == 1) (8 == 2) L = true
        · rw [if_pos hi]
          exact do_idle ao n c l at' _ fF tT L D q w HT false false (by decide +kernel) (by decide +kernel) hf h1.1 h1.2 hl hi.1 hi.2
        · rw [if_neg hi]
          obtain ⟨f, t, a, b, R⟩ := lnO_ok hl
          have e1 := R.eF
          have e2 := R.eT
          subst e1 e2
          rw [R.eX]
          obtain ⟨k, rfl⟩ := Int.eq_ofNat_of_zero_le h1.1.1
          obtain ⟨q, rfl⟩ := Int.eq_ofNat_of_zero_le (show 0 ≤ q by omega)
          exact do_op8 ao n c l k f t a b q L D w HT hbig (by omega) (by omega) (by omega) R hi
    · rw [if_pos (by
        by_cases h2 : 0 ≤ at' ∧ at' ≤ (n : Int)
        · refine .inr (.inr (.inl fun h3 => h1 ⟨h2, ?_⟩))
          unfold cntB; rw [decide_eq_true h3.1, decide_eq_true h3.2]; rfl
        · exact .inr (.inl h2))]
      exact do_args ao n c l at' _ fF tT L D q w HT hf h1
  · rw [hk, if_pos (.inl rfl)]
    exact do_none ao n c l at' s fF tT L D q w HT hk
end Go.Proofs.YtppefcnopkmhbaaGreatDoor
