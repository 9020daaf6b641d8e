/- Rpu -/
import Derived.Test.YtppefcnopkmhbaaGreatDoorPq36
import Derived.Test.YtppefcnopkmhbaaGreatDoorPq21
import Derived.Test.YtppefcnopkmhbaaGreatDoorPq37
namespace Go.Proofs.YtppefcnopkmhbaaGreatDoor
open Go.RowKit

set_option maxRecDepth 8000
theorem put_long {y q : Nat} (hy : 0 < y) (hq : 0 < q) : 65536 / y < q ↔ 65536 / q < y := by rw [Nat.div_lt_iff_lt_mul hy, Nat.div_lt_iff_lt_mul hq, Nat.mul_comm]
theorem rp_nil9 (q : Nat) : rp [] q = [] := List.length_eq_zero_iff.1 (by rw [rp_len]; simp)
/-- the register's text, a line end put behind where it lacks -/
def RpY (Y : List UInt8) (W1 wx : World) (v : Value) : Prop := ∃ zp zc, v = .slice zp Y.length zc ∧ Tx wx zp Y.length zc Y ∧ Below W1.heap.size W1 wx
/-- what is put, its line and its place -/
def RpZ (Z : List UInt8) (i p : Nat) (W1 wx : World) (v vi vp : Value) : Prop := vi = .int .i64 (i : Int) ∧ vp = .int .i64 (p : Int) ∧ ∃ zp zc, v = .slice zp Z.length zc ∧ Tx wx zp Z.length zc Z ∧ Below W1.heap.size W1 wx
theorem pbX_at {l : List UInt8} {k p : Nat} {X : List UInt8} {ah : Bool} (h0 : ¬ X.length = 0) (hp : (if ah = true then k else bsd l k) = p) :
    pbX l k X ah = ⟨sw l p p X, if hasL X = true then (p : Int) else ((p + (X.length - 1) : Nat) : Int), false, false, [], 0, false⟩ := by
  unfold pbX
  rw [if_neg h0]
  dsimp only
  rw [hp]
set_option maxHeartbeats 8000000 in
set_option linter.unusedSimpArgs false in
theorem rput_args (ao : Option Addr) (n c : Nat) (l : List UInt8) (at' q : Int) (set lin : Bool) (xp : Option Addr) (xn xc : Nat) (X : List UInt8) (ah : Bool) (w : World) (HT : Hid (Tx w ao n c l)) (HX : Hid (Tx w xp xn xc X)) (h : ¬ ((0 ≤ at' ∧ at' ≤ (n : Int)) ∧ cntB q = true)) :
    Calls Tryz.prog 15 #[.slice ao n c, .int .i64 at', .int .i64 q, .agg #[.bool set, .bool lin, .slice xp xn xc], .bool ah] w fun e w' => RfQ ef0 2 w e w' := by
  have hfit : (decide (0 ≤ at' ∧ at' ≤ (n : Int)) && cntB q) = false := by
    cases e : cntB q with
    | false => rw [Bool.and_false]
    | true => rw [Bool.and_true]; exact decide_eq_false (fun h1 => h ⟨h1, e⟩)
  obtain ⟨W1, hW1⟩ : ∃ x, (w.alloc (.cells #[.bool set, .bool lin, .slice xp xn xc] 33)).alloc (.cells #[.slice none 0 0, .int .i64 0, .bool false, .bool false, .slice none 0 0, .int .i64 0, .bool false] 35) = x := ⟨_, rfl⟩
  have T1 : Hid (Pob w W1 set lin (.slice xp xn xc)) := by unfold Hid; rw [← hW1]; exact Pob.new w _ _ _
  have HT1 := Hid.mk' (HT.out.keep T1.out.bel)
  have HX1 := Hid.mk' (HX.out.keep T1.out.bel)
  obtain ⟨B, hB⟩ : ∃ b, w.heap.size = b := ⟨_, rfl⟩
  have HB := Hid.mk' hB
  have K1 : Hid (Blk W1 B 33 (rrC set lin (.slice xp xn xc))) := by unfold Hid; rw [← hB]; exact T1.out.rg
  have J1 : Hid (Blk W1 (B + 1) 35 (ef7 (.slice none 0 0) 0 false false (.slice none 0 0) 0 false)) := by unfold Hid; rw [← hB]; exact T1.out.ef
  have L1 := Hid.mk' T1.out.bel
  have B1 := Hid.mk' (Below.refl W1.heap.size W1)
  go_enter Tryz.func15, Tryz.ntmps15
  go_upto_region 1 with fail
  clear hW1 hB T1 HT HX
  go_upto_region 2 with (first | (go_at_call 40; have CP := rfit_any ao n c at' q W1; rw [hfit] at CP; refine CP.mono ?_; rintro e w' ⟨rfl, hw⟩; have hq := hw.symm; subst hq; clear hw CP) | fail)
  obtain ⟨j0, j1, j2, j3, j4, j5, j6⟩ := ef_cells J1.out
  obtain ⟨f0, f1, f2, f3, f4, f5, f6⟩ := ef_frozen J1.out
  have hbk := ef_store J1.out (.slice none 0 0) (.int .i64 0) (.bool false) (.bool false) (.slice none 0 0) (.int .i64 0) (.bool false)
  have hgr := ef_grown W1 (B + 1) (.slice none 0 0) (.int .i64 0) (.bool false) (.bool false) (.slice none 0 0) (.int .i64 0) (.bool false)
  go_wp2_with fail
  generalize (((((((W1.setCell ⟨B + 1, 0, none⟩ (.slice none 0 0)).setCell ⟨B + 1, 1, none⟩ (.int .i64 0)).setCell ⟨B + 1, 2, none⟩ (.bool false)).setCell ⟨B + 1, 3, none⟩ (.bool false)).setCell ⟨B + 1, 4, none⟩ (.slice none 0 0)).setCell ⟨B + 1, 5, none⟩ (.int .i64 0)).setCell ⟨B + 1, 6, none⟩ (.bool false)) = w9 at *
  obtain ⟨g0, g1, g2, g3, g4, g5, g6⟩ := ef_cells hbk
  refine bodyPost_ret (v := .tuple #[efz, .int .i64 2]) (by simp [results, efz, Tryz.results15, go_sem, g0, g1, g2, g3, g4, g5, g6]) rfl (RfQ.no ?_)
  exact (bT L1.out B1.out).grown hgr (bT L1.out B1.out).size (fun g hg => by injection hg with hg; rw [← hg, HB.out]; exact Nat.le_succ B)
set_option maxHeartbeats 8000000 in
set_option linter.unusedSimpArgs false in
theorem rput_unset (ao : Option Addr) (n c : Nat) (l : List UInt8) (at' q : Int) (set lin : Bool) (xp : Option Addr) (xn xc : Nat) (X : List UInt8) (ah : Bool) (w : World) (HT : Hid (Tx w ao n c l)) (HX : Hid (Tx w xp xn xc X)) (hp : 0 ≤ at' ∧ at' ≤ (n : Int)) (hq9 : cntB q = true) (hs : set = false) :
    Calls Tryz.prog 15 #[.slice ao n c, .int .i64 at', .int .i64 q, .agg #[.bool set, .bool lin, .slice xp xn xc], .bool ah] w fun e w' => RfQ ef0 151 w e w' := by
  subst hs
  have hfit : (decide (0 ≤ at' ∧ at' ≤ (n : Int)) && cntB q) = true := by rw [decide_eq_true hp, hq9]; rfl
  obtain ⟨W1, hW1⟩ : ∃ x, (w.alloc (.cells #[.bool false, .bool lin, .slice xp xn xc] 33)).alloc (.cells #[.slice none 0 0, .int .i64 0, .bool false, .bool false, .slice none 0 0, .int .i64 0, .bool false] 35) = x := ⟨_, rfl⟩
  have T1 : Hid (Pob w W1 false lin (.slice xp xn xc)) := by unfold Hid; rw [← hW1]; exact Pob.new w _ _ _
  have HT1 := Hid.mk' (HT.out.keep T1.out.bel)
  have HX1 := Hid.mk' (HX.out.keep T1.out.bel)
  obtain ⟨B, hB⟩ : ∃ b, w.heap.size = b := ⟨_, rfl⟩
  have HB := Hid.mk' hB
  have K1 : Hid (Blk W1 B 33 (rrC false lin (.slice xp xn xc))) := by unfold Hid; rw [← hB]; exact T1.out.rg
  have J1 : Hid (Blk W1 (B + 1) 35 (ef7 (.slice none 0 0) 0 false false (.slice none 0 0) 0 false)) := by unfold Hid; rw [← hB]; exact T1.out.ef
  have L1 := Hid.mk' T1.out.bel
  have B1 := Hid.mk' (Below.refl W1.heap.size W1)
  obtain ⟨c0, c1, c2⟩ := rrC_cells K1.out
  go_enter Tryz.func15, Tryz.ntmps15
  go_upto_region 1 with fail
  clear hW1 hB T1 HT HX
  go_upto_region 4 with (first | (go_at_call 40; have CP := rfit_any ao n c at' q W1; rw [hfit] at CP; refine CP.mono ?_; rintro e w' ⟨rfl, hw⟩; have hq := hw.symm; subst hq; clear hw CP) | fail)
  obtain ⟨j0, j1, j2, j3, j4, j5, j6⟩ := ef_cells J1.out
  obtain ⟨f0, f1, f2, f3, f4, f5, f6⟩ := ef_frozen J1.out
  have hbk := ef_store J1.out (.slice none 0 0) (.int .i64 0) (.bool false) (.bool false) (.slice none 0 0) (.int .i64 0) (.bool false)
  have hgr := ef_grown W1 (B + 1) (.slice none 0 0) (.int .i64 0) (.bool false) (.bool false) (.slice none 0 0) (.int .i64 0) (.bool false)
  go_wp2_with fail
  generalize (((((((W1.setCell ⟨B + 1, 0, none⟩ (.slice none 0 0)).setCell ⟨B + 1, 1, none⟩ (.int .i64 0)).setCell ⟨B + 1, 2, none⟩ (.bool false)).setCell ⟨B + 1, 3, none⟩ (.bool false)).setCell ⟨B + 1, 4, none⟩ (.slice none 0 0)).setCell ⟨B + 1, 5, none⟩ (.int .i64 0)).setCell ⟨B + 1, 6, none⟩ (.bool false)) = w9 at *
  obtain ⟨g0, g1, g2, g3, g4, g5, g6⟩ := ef_cells hbk
  refine bodyPost_ret (v := .tuple #[efz, .int .i64 151]) (by simp [results, efz, Tryz.results15, go_sem, g0, g1, g2, g3, g4, g5, g6]) rfl (RfQ.no ?_)
  exact (bT L1.out B1.out).grown hgr (bT L1.out B1.out).size (fun g hg => by injection hg with hg; rw [← hg, HB.out]; exact Nat.le_succ B)
set_option maxHeartbeats 8000000 in
set_option linter.unusedSimpArgs false in
theorem rput_b (ao : Option Addr) (n c k q : Nat) (l : List UInt8) (xp : Option Addr) (xn xc : Nat) (X : List UInt8) (ah : Bool) (w : World) (HT : Hid (Tx w ao n c l)) (HX : Hid (Tx w xp xn xc X)) (hk : k ≤ n) (hbig : n ≤ 1048576) (hxn : xn ≤ 1048576) (hq1 : 1 ≤ q) (hq : q ≤ 9999) :
    Calls Tryz.prog 15 #[.slice ao n c, .int .i64 (k : Int), .int .i64 (q : Int), .agg #[.bool true, .bool false, .slice xp xn xc], .bool ah] w fun e w' => RfQ (ptM l k q false (ptT false X) ah).1 (ptM l k q false (ptT false X) ah).2 w e w' := by
  obtain ⟨x, hx⟩ : ∃ x, ptM l k q false (ptT false X) ah = x := ⟨_, rfl⟩
  rw [hx]
  have HPX := Hid.mk' hx
  clear hx
  have hfit : (decide (0 ≤ (k : Int) ∧ (k : Int) ≤ (n : Int)) && cntB (q : Int)) = true := by
    unfold cntB; rw [decide_eq_true (by omega), decide_eq_true (by omega), decide_eq_true (by omega)]; rfl
  obtain ⟨W1, hW1⟩ : ∃ x, (w.alloc (.cells #[.bool true, .bool false, .slice xp xn xc] 33)).alloc (.cells #[.slice none 0 0, .int .i64 0, .bool false, .bool false, .slice none 0 0, .int .i64 0, .bool false] 35) = x := ⟨_, rfl⟩
  have T1 : Hid (Pob w W1 true false (.slice xp xn xc)) := by unfold Hid; rw [← hW1]; exact Pob.new w _ _ _
  have HT1 := Hid.mk' (HT.out.keep T1.out.bel)
  have HX1 := Hid.mk' (HX.out.keep T1.out.bel)
  obtain ⟨B, hB⟩ : ∃ b, w.heap.size = b := ⟨_, rfl⟩
  have HB := Hid.mk' hB
  have K1 : Hid (Blk W1 B 33 (rrC true false (.slice xp xn xc))) := by unfold Hid; rw [← hB]; exact T1.out.rg
  have J1 : Hid (Blk W1 (B + 1) 35 (ef7 (.slice none 0 0) 0 false false (.slice none 0 0) 0 false)) := by unfold Hid; rw [← hB]; exact T1.out.ef
  have L1 := Hid.mk' T1.out.bel
  have HLN := Hid.mk' HT.out.len
  have HXL := Hid.mk' HX.out.len
  have CC := Hid.mk' (rcop_any xp xn xc X W1 (by omega) HX1)
  have hnk := nl_take_le l k
  have he9 := en_bgk (l := l) (k := k) (by rw [HLN.out]; exact hk)
  have CO : Hid (∀ W, Below W1.heap.size W1 W → Calls Tryz.prog 43 #[.slice ao n c, .int .i64 (k : Int)] W fun e w' => e = .returned (.tuple #[.int .i64 (nl (l.take k) : Int), .int .i64 0]) ∧ w' = W) := fun W hW => rof_at (ao := ao) (c := c) hk (HT1.out.keep hW)
  have COE : Hid (∀ W, Below W1.heap.size W1 W → Calls Tryz.prog 44 #[.slice ao n c, .int .i64 (nl (l.take k) : Int)] W fun e w' => e = .returned (.tuple #[.int .i64 ((k + ow l k : Nat) : Int), .int .i64 0]) ∧ w' = W) := fun W hW => by
    have h := refEnd_any ao n c (nl (l.take k) : Int) l W (by have := HLN.out; have := nl_le l; omega) (HT1.out.keep hW)
    rw [pr_end hnk, he9] at h
    exact h
  clear he9
  obtain ⟨i0, hi0⟩ : ∃ i0, nl (l.take k) = i0 := ⟨_, rfl⟩
  rw [hi0] at CO COE hnk
  have HI0 := Hid.mk' hi0
  clear hi0
  have hol := ow_le (l := l) (i := k) (by rw [HLN.out]; exact hk)
  rw [HLN.out] at hol
  obtain ⟨m, hm⟩ : ∃ m, ow l k = m := ⟨_, rfl⟩
  rw [hm] at COE hol
  rw [Int.natCast_add] at COE
  have HOW := Hid.mk' hm
  clear hm
  obtain ⟨c0, c1, c2⟩ := rrC_cells K1.out
  go_enter Tryz.func15, Tryz.ntmps15
  go_upto_region 1 with fail
  clear hW1 hB T1 HT HX
  go_upto_region 5 with (first | (go_at_call 40; have CP := rfit_any ao n c (k : Int) (q : Int) W1; rw [hfit] at CP; refine CP.mono ?_; rintro e w' ⟨rfl, hw⟩; have hq := hw.symm; subst hq; clear hw CP) | fail)
  clear hfit
  go_wp2_with fail
  refine CC.out.mono ?_
  rintro e w2 ⟨v2, rfl, hO2, hb2⟩
  obtain ⟨yp, yc, rfl⟩ := own_shape hO2
  have O2 := Hid.mk' hO2
  have T2 := Hid.mk' (own_tx' hO2 (by omega))
  have J2 := Hid.mk' (J1.out.keep hb2)
  have K2 := Hid.mk' (K1.out.keep hb2)
  have B2 := Hid.mk' hb2
  clear hb2 hO2 CC c0 c1 c2 HX1
  obtain ⟨c0, c1, c2⟩ := rrC_cells K2.out
  dsimp only
  have HYE : Hid (ptT false X = X) := by unfold Hid ptT; rw [if_neg (by simp)]
  by_cases hx0 : xn = 0
  · subst hx0
    have HX0 : Hid (X = []) := List.length_eq_zero_iff.1 HXL.out
    have HYL := HXL
    go_upto_region 8 with fail
    have CR := Hid.mk' (rtimes_any yp 0 yc q X w2 T2 hq (by omega))
    have hz9 := Nat.zero_mul q
    obtain ⟨rn, hrn⟩ : ∃ r, 0 * q = r := ⟨_, rfl⟩
    have hrb : rn ≤ 65536 := by rw [← hrn]; omega
    rw [hrn] at CR
    have HRL : Hid ((rp X q).length = rn) := by unfold Hid; rw [rp_len, ← hrn, HYL.out]
    go_upto_region 10 with fail
    go_wp2_with fail
    refine CR.out.mono ?_
    rintro e w5 ⟨v5, rfl, hO5, hb5⟩
    obtain ⟨p5, d5, rfl⟩ := own_shape hO5
    have T5 := Hid.mk' (own_tx' hO5 (by omega))
    have J5 := Hid.mk' (J2.out.keep hb5)
    have K5 := Hid.mk' (K2.out.keep hb5)
    have B5 := Hid.mk' (bT B2.out hb5)
    clear CR c0 c1 c2 hO5 hb5
    obtain ⟨c0, c1, c2⟩ := rrC_cells K5.out
    dsimp only
    go_upto_region 11 with fail
    go_wp2_with fail
    refine (CO.out w5 B5.out).mono ?_
    rintro e w' ⟨rfl, hw⟩
    have hq9 := hw.symm
    subst hq9
    clear hw CO
    dsimp only
    go_upto_region 12 with fail
    go_wp2_with fail
    refine (COE.out w5 B5.out).mono ?_
    rintro e w' ⟨rfl, hw⟩
    have hq9 := hw.symm
    subst hq9
    clear hw COE
    dsimp only
    have hr0 : rn = 0 := by omega
    subst hr0
    clear hrn hz9 hrb
    
    go_upto_region 15 with fail
    obtain ⟨j0, j1, j2, j3, j4, j5, j6⟩ := ef_cells J5.out
    obtain ⟨f0, f1, f2, f3, f4, f5, f6⟩ := ef_frozen J5.out
    have hbk := ef_store J5.out (.slice none 0 0) (.int .i64 (k : Int)) (.bool false) (.bool false) (.slice none 0 0) (.int .i64 0) (.bool false)
    have hgr := ef_grown w5 (B + 1) (.slice none 0 0) (.int .i64 (k : Int)) (.bool false) (.bool false) (.slice none 0 0) (.int .i64 0) (.bool false)
    go_wp2_with fail
    generalize (((((((w5.setCell ⟨B + 1, 0, none⟩ (.slice none 0 0)).setCell ⟨B + 1, 1, none⟩ (.int .i64 (k : Int))).setCell ⟨B + 1, 2, none⟩ (.bool false)).setCell ⟨B + 1, 3, none⟩ (.bool false)).setCell ⟨B + 1, 4, none⟩ (.slice none 0 0)).setCell ⟨B + 1, 5, none⟩ (.int .i64 0)).setCell ⟨B + 1, 6, none⟩ (.bool false)) = w9 at *
    obtain ⟨g0, g1, g2, g3, g4, g5, g6⟩ := ef_cells hbk
    refine bodyPost_ret (v := .tuple #[.agg #[.slice none 0 0, .int .i64 (k : Int), .bool false, .bool false, .slice none 0 0, .int .i64 0, .bool false], .int .i64 0]) (by simp [results, Tryz.results15, go_sem, g0, g1, g2, g3, g4, g5, g6]) rfl ?_
    have hz : (⟨[], (k : Int), false, false, [], 0, false⟩, (0 : Int)) = x := by
      rw [← HPX.out, HYE.out, HX0.out]
      unfold ptM
      rw [if_neg (by simp), if_neg (by decide), rp_nil9]
      rfl
    rw [← hz]
    show RfQ ⟨[], (k : Int), false, false, [], 0, false⟩ 0 w _ w9
    exact RfQ.out (x := ⟨[], (k : Int), false, false, [], 0, false⟩) (F := []) (ao := none) (c := 0) rfl (edz_nil _) rfl J5.out (bT L1.out B5.out) hgr (by have := HB.out; omega)
  · have HYL := HXL
    have hyp := (show 1 ≤ xn by omega)
    have hgt : (0 : Int) < (xn : Int) := by omega
    have hqz : ((xn : Int) == 0) = false := beq_eq_false_iff_ne.2 (by omega)
    have hqz2 : ¬ (xn : Int) = 0 := by omega
    have hqz3 : ¬ xn = 0 := by omega
    have hqn : Int.tdiv 65536 (xn : Int) = ((65536 / xn : Nat) : Int) := quo_nat xn
    have hqb : 65536 / xn ≤ 65536 := Nat.div_le_self _ _
    have hpl := put_long (y := xn) (q := q) (by omega) (by omega)
    obtain ⟨qu, hqu⟩ : ∃ qu, 65536 / xn = qu := ⟨_, rfl⟩
    have HQM : Hid (qu * xn ≤ 65536) := by unfold Hid; rw [← hqu]; exact Nat.div_mul_le_self 65536 xn
    rw [hqu] at hqn hqb hpl
    clear hqu
    have hwq : IntKind.i64.wrap (qu : Int) = (qu : Int) := by rw [IntKind.wrap_i64]; omega
    by_cases hlo : qu < q
    · skip
      have hlo' : (qu : Int) < (q : Int) := by omega
      have hlo2 : ¬ (q : Int) ≤ (qu : Int) := by omega
      have HP2 : Hid ((ef0, (1 : Int)) = x) := by unfold Hid; rw [← HPX.out, HYE.out]; unfold ptM; rw [if_pos (by first | exact HYL.out ▸ hpl.1 hlo | (rw [HYL.out]; exact hpl.1 hlo))]
      go_upto_region 9 with fail
      obtain ⟨j0, j1, j2, j3, j4, j5, j6⟩ := ef_cells J2.out
      obtain ⟨f0, f1, f2, f3, f4, f5, f6⟩ := ef_frozen J2.out
      have hbk := ef_store J2.out (.slice none 0 0) (.int .i64 0) (.bool false) (.bool false) (.slice none 0 0) (.int .i64 0) (.bool false)
      have hgr := ef_grown w2 (B + 1) (.slice none 0 0) (.int .i64 0) (.bool false) (.bool false) (.slice none 0 0) (.int .i64 0) (.bool false)
      go_wp2_with fail
      generalize (((((((w2.setCell ⟨B + 1, 0, none⟩ (.slice none 0 0)).setCell ⟨B + 1, 1, none⟩ (.int .i64 0)).setCell ⟨B + 1, 2, none⟩ (.bool false)).setCell ⟨B + 1, 3, none⟩ (.bool false)).setCell ⟨B + 1, 4, none⟩ (.slice none 0 0)).setCell ⟨B + 1, 5, none⟩ (.int .i64 0)).setCell ⟨B + 1, 6, none⟩ (.bool false)) = w9 at *
      obtain ⟨g0, g1, g2, g3, g4, g5, g6⟩ := ef_cells hbk
      obtain rfl := HP2.out
      refine bodyPost_ret (v := .tuple #[efz, .int .i64 1]) (by simp [results, efz, Tryz.results15, go_sem, g0, g1, g2, g3, g4, g5, g6]) rfl (RfQ.no ?_)
      exact (bT L1.out B2.out).grown hgr (bT L1.out B2.out).size (fun g hg => by injection hg with hg; rw [← hg, HB.out]; exact Nat.le_succ B)
      
    · have hlo' : ¬ (qu : Int) < (q : Int) := by omega
      have HP2 : Hid ((pbX l k (rp X q) ah, (0 : Int)) = x) := by unfold Hid; rw [← HPX.out, HYE.out]; unfold ptM; rw [if_neg (by rw [HYL.out]; exact fun h => hlo (hpl.2 h)), if_neg (by decide)]
      clear hpl
      
      have CR := Hid.mk' (rtimes_any yp xn yc q X w2 T2 hq (by have h1 := HQM.out; have h2 := Nat.mul_le_mul_right xn (Nat.le_of_not_lt hlo); rw [Nat.mul_comm q xn] at h2; omega))
      obtain ⟨rn, hrn⟩ : ∃ r, xn * q = r := ⟨_, rfl⟩
      have hrb : rn ≤ 65536 := by rw [← hrn]; have h1 := HQM.out; have h2 := Nat.mul_le_mul_right xn (Nat.le_of_not_lt hlo); rw [Nat.mul_comm q xn] at h2; omega
      rw [hrn] at CR
      have HRL : Hid ((rp X q).length = rn) := by unfold Hid; rw [rp_len, ← hrn, HYL.out]
      go_upto_region 10 with fail
      go_wp2_with fail
      refine CR.out.mono ?_
      rintro e w5 ⟨v5, rfl, hO5, hb5⟩
      obtain ⟨p5, d5, rfl⟩ := own_shape hO5
      have T5 := Hid.mk' (own_tx' hO5 (by omega))
      have J5 := Hid.mk' (J2.out.keep hb5)
      have K5 := Hid.mk' (K2.out.keep hb5)
      have B5 := Hid.mk' (bT B2.out hb5)
      clear CR c0 c1 c2 hO5 hb5
      obtain ⟨c0, c1, c2⟩ := rrC_cells K5.out
      dsimp only
      go_upto_region 11 with fail
      go_wp2_with fail
      refine (CO.out w5 B5.out).mono ?_
      rintro e w' ⟨rfl, hw⟩
      have hq9 := hw.symm
      subst hq9
      clear hw CO
      dsimp only
      go_upto_region 12 with fail
      go_wp2_with fail
      refine (COE.out w5 B5.out).mono ?_
      rintro e w' ⟨rfl, hw⟩
      have hq9 := hw.symm
      subst hq9
      clear hw COE
      dsimp only
      
      have hr1 : 1 ≤ rn := by rw [← hrn]; exact Nat.mul_le_mul hyp hq1
      have hr0 : ¬ (rn : Int) = 0 := by omega
      have hr00 : ((rn : Int) == 0) = false := beq_eq_false_iff_ne.2 hr0
      have HRE : Hid (¬ (rp X q).length = 0) := by unfold Hid; rw [HRL.out]; omega
      clear hrn hqz hqz2 hqz3 hqn hqb hwq HQM hgt hlo hlo'
    
      cases ah with
      | true =>
        have CX := Hid.mk' (redit_any ao n c k k l p5 rn d5 (rp X q) w5 (Hid.mk' (HT1.out.keep B5.out)) (Nat.le_refl _) (by omega) (by omega) T5 (by omega))
        obtain ⟨D, hD⟩ : ∃ D, sw l k k (rp X q) = D := ⟨_, rfl⟩
        rw [hD] at CX
        have HD := Hid.mk' hD
        have HPB : Hid (pbX l k (rp X q) true = ⟨D, if hasL (rp X q) = true then ((k : Nat) : Int) else ((k + ((rp X q).length - 1) : Nat) : Int), false, false, [], 0, false⟩) := by unfold Hid; rw [← hD]; exact pbX_at HRE.out (by rfl)
        clear hD
        go_upto_region 18 with fail
        go_wp2_with fail
        refine CX.out.mono ?_
        rintro e w6 ⟨eo, ec, F, rfl, hF, hZ, hb6⟩
        have T6 := Hid.mk' (T5.out.keep hb6)
        have J6 := Hid.mk' (J5.out.keep hb6)
        have B6 := Hid.mk' (bT B5.out hb6)
        have E6 := Hid.mk' hZ
        have HF := Hid.mk' hF
        have CT0 := rtaken_any p5 rn d5 (rp X q) false w6 T6 (by omega)
        clear CX hb6 hZ hF J5 K5 T5 c0 c1 c2
        dsimp only
        rcases Bool.eq_false_or_eq_true (hasL (rp X q)) with hL | hL
        · skip
          have HH : Hid (hasL (rp X q) = true) := hL
          have hh9 : hwE false (rp X q) = 2 := by unfold hwE; rw [hL]; rfl
          rw [hh9] at CT0
          have CT := Hid.mk' CT0
          clear CT0 hh9 hL
          go_upto_region 19 with fail
          go_wp2_with fail
          refine CT.out.mono ?_
          rintro e w' ⟨rfl, hw⟩
          have hq9 := hw.symm
          subst hq9
          clear hw CT
          dsimp only
          go_upto_region 20 with fail
          obtain ⟨j0, j1, j2, j3, j4, j5, j6⟩ := ef_cells J6.out
          obtain ⟨f0, f1, f2, f3, f4, f5, f6⟩ := ef_frozen J6.out
          have hbk := ef_store J6.out (.slice eo F.length ec) (.int .i64 (k : Int)) (.bool false) (.bool false) (.slice none 0 0) (.int .i64 0) (.bool false)
          have hgr := ef_grown w6 (B + 1) (.slice eo F.length ec) (.int .i64 (k : Int)) (.bool false) (.bool false) (.slice none 0 0) (.int .i64 0) (.bool false)
          go_wp2_with fail
          generalize (((((((w6.setCell ⟨B + 1, 0, none⟩ (.slice eo F.length ec)).setCell ⟨B + 1, 1, none⟩ (.int .i64 (k : Int))).setCell ⟨B + 1, 2, none⟩ (.bool false)).setCell ⟨B + 1, 3, none⟩ (.bool false)).setCell ⟨B + 1, 4, none⟩ (.slice none 0 0)).setCell ⟨B + 1, 5, none⟩ (.int .i64 0)).setCell ⟨B + 1, 6, none⟩ (.bool false)) = w9 at *
          obtain ⟨g0, g1, g2, g3, g4, g5, g6⟩ := ef_cells hbk
          refine bodyPost_ret (v := .tuple #[.agg #[.slice eo F.length ec, .int .i64 (k : Int), .bool false, .bool false, .slice none 0 0, .int .i64 0, .bool false], .int .i64 0]) (by simp [results, Tryz.results15, go_sem, g0, g1, g2, g3, g4, g5, g6]) rfl ?_
          have hz : (⟨D, (k : Int), false, false, [], 0, false⟩, (0 : Int)) = x := by
            rw [← HP2.out]
            rw [HPB.out, HH.out]
            rfl
          rw [← hz]
          show RfQ ⟨D, (k : Int), false, false, [], 0, false⟩ 0 w _ w9
          exact RfQ.out (x := ⟨D, (k : Int), false, false, [], 0, false⟩) HF.out E6.out rfl J6.out (bT L1.out B6.out) hgr (by have := HB.out; omega)
          
        · skip
          have HH : Hid (hasL (rp X q) = false) := hL
          have hh9 : hwE false (rp X q) = 3 := by unfold hwE; rw [hL]; rfl
          rw [hh9] at CT0
          have CT := Hid.mk' CT0
          clear CT0 hh9 hL
          obtain ⟨cu, hcu⟩ : ∃ c : Int, (k : Int) + (rn : Int) - 1 = c := ⟨_, rfl⟩
          have hwa : IntKind.i64.wrap ((k : Int) + (rn : Int)) = (k : Int) + (rn : Int) := by rw [IntKind.wrap_i64]; omega
          have hwb : IntKind.i64.wrap ((k : Int) + (rn : Int) - 1) = cu := by rw [IntKind.wrap_i64]; omega
          have HCU : Hid (((k + (rn - 1) : Nat) : Int) = cu) := by unfold Hid; omega
          clear hcu
          go_upto_region 19 with fail
          go_wp2_with fail
          refine CT.out.mono ?_
          rintro e w' ⟨rfl, hw⟩
          have hq9 := hw.symm
          subst hq9
          clear hw CT
          dsimp only
          go_upto_region 21 with fail
          obtain ⟨j0, j1, j2, j3, j4, j5, j6⟩ := ef_cells J6.out
          obtain ⟨f0, f1, f2, f3, f4, f5, f6⟩ := ef_frozen J6.out
          have hbk := ef_store J6.out (.slice eo F.length ec) (.int .i64 cu) (.bool false) (.bool false) (.slice none 0 0) (.int .i64 0) (.bool false)
          have hgr := ef_grown w6 (B + 1) (.slice eo F.length ec) (.int .i64 cu) (.bool false) (.bool false) (.slice none 0 0) (.int .i64 0) (.bool false)
          go_wp2_with fail
          generalize (((((((w6.setCell ⟨B + 1, 0, none⟩ (.slice eo F.length ec)).setCell ⟨B + 1, 1, none⟩ (.int .i64 cu)).setCell ⟨B + 1, 2, none⟩ (.bool false)).setCell ⟨B + 1, 3, none⟩ (.bool false)).setCell ⟨B + 1, 4, none⟩ (.slice none 0 0)).setCell ⟨B + 1, 5, none⟩ (.int .i64 0)).setCell ⟨B + 1, 6, none⟩ (.bool false)) = w9 at *
          obtain ⟨g0, g1, g2, g3, g4, g5, g6⟩ := ef_cells hbk
          refine bodyPost_ret (v := .tuple #[.agg #[.slice eo F.length ec, .int .i64 cu, .bool false, .bool false, .slice none 0 0, .int .i64 0, .bool false], .int .i64 0]) (by simp [results, Tryz.results15, go_sem, g0, g1, g2, g3, g4, g5, g6]) rfl ?_
          have hz : (⟨D, cu, false, false, [], 0, false⟩, (0 : Int)) = x := by
            rw [← HP2.out]
            rw [HPB.out, HH.out, HRL.out, ← HCU.out]
            rfl
          rw [← hz]
          show RfQ ⟨D, cu, false, false, [], 0, false⟩ 0 w _ w9
          exact RfQ.out (x := ⟨D, cu, false, false, [], 0, false⟩) HF.out E6.out rfl J6.out (bT L1.out B6.out) hgr (by have := HB.out; omega)
          
        
      | false =>
        by_cases hm0 : 0 < m
        · have hkm : (k : Int) < (k : Int) + (m : Int) := by omega
          have hkm2 : (0 : Int) < (m : Int) := by omega
          have CX := Hid.mk' (redit_any ao n c (k + 1) (k + 1) l p5 rn d5 (rp X q) w5 (Hid.mk' (HT1.out.keep B5.out)) (Nat.le_refl _) (by omega) (by omega) T5 (by omega))
          obtain ⟨D, hD⟩ : ∃ D, sw l (k + 1) (k + 1) (rp X q) = D := ⟨_, rfl⟩
          rw [hD] at CX
          have HD := Hid.mk' hD
          have HPB : Hid (pbX l k (rp X q) false = ⟨D, if hasL (rp X q) = true then (((k + 1) : Nat) : Int) else (((k + 1) + ((rp X q).length - 1) : Nat) : Int), false, false, [], 0, false⟩) := by unfold Hid; rw [← hD]; exact pbX_at HRE.out (by rw [if_neg (by decide)]; unfold bsd; rw [HOW.out]; omega)
          clear hD
          rw [Int.natCast_add, show ((1 : Nat) : Int) = 1 from rfl] at CX
          have hwk : IntKind.i64.wrap ((k : Int) + 1) = (k : Int) + 1 := by rw [IntKind.wrap_i64]; omega
          go_upto_region 18 with fail
          go_wp2_with fail
          refine CX.out.mono ?_
          rintro e w6 ⟨eo, ec, F, rfl, hF, hZ, hb6⟩
          have T6 := Hid.mk' (T5.out.keep hb6)
          have J6 := Hid.mk' (J5.out.keep hb6)
          have B6 := Hid.mk' (bT B5.out hb6)
          have E6 := Hid.mk' hZ
          have HF := Hid.mk' hF
          have CT0 := rtaken_any p5 rn d5 (rp X q) false w6 T6 (by omega)
          clear CX hb6 hZ hF J5 K5 T5 c0 c1 c2
          dsimp only
          rcases Bool.eq_false_or_eq_true (hasL (rp X q)) with hL | hL
          · skip
            have HH : Hid (hasL (rp X q) = true) := hL
            have hh9 : hwE false (rp X q) = 2 := by unfold hwE; rw [hL]; rfl
            rw [hh9] at CT0
            have CT := Hid.mk' CT0
            clear CT0 hh9 hL
            go_upto_region 19 with fail
            go_wp2_with fail
            refine CT.out.mono ?_
            rintro e w' ⟨rfl, hw⟩
            have hq9 := hw.symm
            subst hq9
            clear hw CT
            dsimp only
            go_upto_region 20 with fail
            obtain ⟨j0, j1, j2, j3, j4, j5, j6⟩ := ef_cells J6.out
            obtain ⟨f0, f1, f2, f3, f4, f5, f6⟩ := ef_frozen J6.out
            have hbk := ef_store J6.out (.slice eo F.length ec) (.int .i64 ((k : Int) + 1)) (.bool false) (.bool false) (.slice none 0 0) (.int .i64 0) (.bool false)
            have hgr := ef_grown w6 (B + 1) (.slice eo F.length ec) (.int .i64 ((k : Int) + 1)) (.bool false) (.bool false) (.slice none 0 0) (.int .i64 0) (.bool false)
            go_wp2_with fail
            generalize (((((((w6.setCell ⟨B + 1, 0, none⟩ (.slice eo F.length ec)).setCell ⟨B + 1, 1, none⟩ (.int .i64 ((k : Int) + 1))).setCell ⟨B + 1, 2, none⟩ (.bool false)).setCell ⟨B + 1, 3, none⟩ (.bool false)).setCell ⟨B + 1, 4, none⟩ (.slice none 0 0)).setCell ⟨B + 1, 5, none⟩ (.int .i64 0)).setCell ⟨B + 1, 6, none⟩ (.bool false)) = w9 at *
            obtain ⟨g0, g1, g2, g3, g4, g5, g6⟩ := ef_cells hbk
            refine bodyPost_ret (v := .tuple #[.agg #[.slice eo F.length ec, .int .i64 ((k : Int) + 1), .bool false, .bool false, .slice none 0 0, .int .i64 0, .bool false], .int .i64 0]) (by simp [results, Tryz.results15, go_sem, g0, g1, g2, g3, g4, g5, g6]) rfl ?_
            have hz : (⟨D, ((k : Int) + 1), false, false, [], 0, false⟩, (0 : Int)) = x := by
              rw [← HP2.out]
              rw [HPB.out, HH.out]
              rfl
            rw [← hz]
            show RfQ ⟨D, ((k : Int) + 1), false, false, [], 0, false⟩ 0 w _ w9
            exact RfQ.out (x := ⟨D, ((k : Int) + 1), false, false, [], 0, false⟩) HF.out E6.out rfl J6.out (bT L1.out B6.out) hgr (by have := HB.out; omega)
            
          · skip
            have HH : Hid (hasL (rp X q) = false) := hL
            have hh9 : hwE false (rp X q) = 3 := by unfold hwE; rw [hL]; rfl
            rw [hh9] at CT0
            have CT := Hid.mk' CT0
            clear CT0 hh9 hL
            obtain ⟨cu, hcu⟩ : ∃ c : Int, ((k : Int) + 1) + (rn : Int) - 1 = c := ⟨_, rfl⟩
            have hwa : IntKind.i64.wrap (((k : Int) + 1) + (rn : Int)) = ((k : Int) + 1) + (rn : Int) := by rw [IntKind.wrap_i64]; omega
            have hwb : IntKind.i64.wrap (((k : Int) + 1) + (rn : Int) - 1) = cu := by rw [IntKind.wrap_i64]; omega
            have HCU : Hid ((((k + 1) + (rn - 1) : Nat) : Int) = cu) := by unfold Hid; omega
            clear hcu
            go_upto_region 19 with fail
            go_wp2_with fail
            refine CT.out.mono ?_
            rintro e w' ⟨rfl, hw⟩
            have hq9 := hw.symm
            subst hq9
            clear hw CT
            dsimp only
            go_upto_region 21 with fail
            obtain ⟨j0, j1, j2, j3, j4, j5, j6⟩ := ef_cells J6.out
            obtain ⟨f0, f1, f2, f3, f4, f5, f6⟩ := ef_frozen J6.out
            have hbk := ef_store J6.out (.slice eo F.length ec) (.int .i64 cu) (.bool false) (.bool false) (.slice none 0 0) (.int .i64 0) (.bool false)
            have hgr := ef_grown w6 (B + 1) (.slice eo F.length ec) (.int .i64 cu) (.bool false) (.bool false) (.slice none 0 0) (.int .i64 0) (.bool false)
            go_wp2_with fail
            generalize (((((((w6.setCell ⟨B + 1, 0, none⟩ (.slice eo F.length ec)).setCell ⟨B + 1, 1, none⟩ (.int .i64 cu)).setCell ⟨B + 1, 2, none⟩ (.bool false)).setCell ⟨B + 1, 3, none⟩ (.bool false)).setCell ⟨B + 1, 4, none⟩ (.slice none 0 0)).setCell ⟨B + 1, 5, none⟩ (.int .i64 0)).setCell ⟨B + 1, 6, none⟩ (.bool false)) = w9 at *
            obtain ⟨g0, g1, g2, g3, g4, g5, g6⟩ := ef_cells hbk
            refine bodyPost_ret (v := .tuple #[.agg #[.slice eo F.length ec, .int .i64 cu, .bool false, .bool false, .slice none 0 0, .int .i64 0, .bool false], .int .i64 0]) (by simp [results, Tryz.results15, go_sem, g0, g1, g2, g3, g4, g5, g6]) rfl ?_
            have hz : (⟨D, cu, false, false, [], 0, false⟩, (0 : Int)) = x := by
              rw [← HP2.out]
              rw [HPB.out, HH.out, HRL.out, ← HCU.out]
              rfl
            rw [← hz]
            show RfQ ⟨D, cu, false, false, [], 0, false⟩ 0 w _ w9
            exact RfQ.out (x := ⟨D, cu, false, false, [], 0, false⟩) HF.out E6.out rfl J6.out (bT L1.out B6.out) hgr (by have := HB.out; omega)
            
          
        · have hkm : ¬ (k : Int) < (k : Int) + (m : Int) := by omega
          have hkm2 : ¬ (0 : Int) < (m : Int) := by omega
          have CX := Hid.mk' (redit_any ao n c k k l p5 rn d5 (rp X q) w5 (Hid.mk' (HT1.out.keep B5.out)) (Nat.le_refl _) (by omega) (by omega) T5 (by omega))
          obtain ⟨D, hD⟩ : ∃ D, sw l k k (rp X q) = D := ⟨_, rfl⟩
          rw [hD] at CX
          have HD := Hid.mk' hD
          have HPB : Hid (pbX l k (rp X q) false = ⟨D, if hasL (rp X q) = true then ((k : Nat) : Int) else ((k + ((rp X q).length - 1) : Nat) : Int), false, false, [], 0, false⟩) := by unfold Hid; rw [← hD]; exact pbX_at HRE.out (by rw [if_neg (by decide)]; unfold bsd; rw [HOW.out]; omega)
          clear hD
          go_upto_region 18 with fail
          go_wp2_with fail
          refine CX.out.mono ?_
          rintro e w6 ⟨eo, ec, F, rfl, hF, hZ, hb6⟩
          have T6 := Hid.mk' (T5.out.keep hb6)
          have J6 := Hid.mk' (J5.out.keep hb6)
          have B6 := Hid.mk' (bT B5.out hb6)
          have E6 := Hid.mk' hZ
          have HF := Hid.mk' hF
          have CT0 := rtaken_any p5 rn d5 (rp X q) false w6 T6 (by omega)
          clear CX hb6 hZ hF J5 K5 T5 c0 c1 c2
          dsimp only
          rcases Bool.eq_false_or_eq_true (hasL (rp X q)) with hL | hL
          · skip
            have HH : Hid (hasL (rp X q) = true) := hL
            have hh9 : hwE false (rp X q) = 2 := by unfold hwE; rw [hL]; rfl
            rw [hh9] at CT0
            have CT := Hid.mk' CT0
            clear CT0 hh9 hL
            go_upto_region 19 with fail
            go_wp2_with fail
            refine CT.out.mono ?_
            rintro e w' ⟨rfl, hw⟩
            have hq9 := hw.symm
            subst hq9
            clear hw CT
            dsimp only
            go_upto_region 20 with fail
            obtain ⟨j0, j1, j2, j3, j4, j5, j6⟩ := ef_cells J6.out
            obtain ⟨f0, f1, f2, f3, f4, f5, f6⟩ := ef_frozen J6.out
            have hbk := ef_store J6.out (.slice eo F.length ec) (.int .i64 (k : Int)) (.bool false) (.bool false) (.slice none 0 0) (.int .i64 0) (.bool false)
            have hgr := ef_grown w6 (B + 1) (.slice eo F.length ec) (.int .i64 (k : Int)) (.bool false) (.bool false) (.slice none 0 0) (.int .i64 0) (.bool false)
            go_wp2_with fail
            generalize (((((((w6.setCell ⟨B + 1, 0, none⟩ (.slice eo F.length ec)).setCell ⟨B + 1, 1, none⟩ (.int .i64 (k : Int))).setCell ⟨B + 1, 2, none⟩ (.bool false)).setCell ⟨B + 1, 3, none⟩ (.bool false)).setCell ⟨B + 1, 4, none⟩ (.slice none 0 0)).setCell ⟨B + 1, 5, none⟩ (.int .i64 0)).setCell ⟨B + 1, 6, none⟩ (.bool false)) = w9 at *
            obtain ⟨g0, g1, g2, g3, g4, g5, g6⟩ := ef_cells hbk
            refine bodyPost_ret (v := .tuple #[.agg #[.slice eo F.length ec, .int .i64 (k : Int), .bool false, .bool false, .slice none 0 0, .int .i64 0, .bool false], .int .i64 0]) (by simp [results, Tryz.results15, go_sem, g0, g1, g2, g3, g4, g5, g6]) rfl ?_
            have hz : (⟨D, (k : Int), false, false, [], 0, false⟩, (0 : Int)) = x := by
              rw [← HP2.out]
              rw [HPB.out, HH.out]
              rfl
            rw [← hz]
            show RfQ ⟨D, (k : Int), false, false, [], 0, false⟩ 0 w _ w9
            exact RfQ.out (x := ⟨D, (k : Int), false, false, [], 0, false⟩) HF.out E6.out rfl J6.out (bT L1.out B6.out) hgr (by have := HB.out; omega)
            
          · skip
            have HH : Hid (hasL (rp X q) = false) := hL
            have hh9 : hwE false (rp X q) = 3 := by unfold hwE; rw [hL]; rfl
            rw [hh9] at CT0
            have CT := Hid.mk' CT0
            clear CT0 hh9 hL
            obtain ⟨cu, hcu⟩ : ∃ c : Int, (k : Int) + (rn : Int) - 1 = c := ⟨_, rfl⟩
            have hwa : IntKind.i64.wrap ((k : Int) + (rn : Int)) = (k : Int) + (rn : Int) := by rw [IntKind.wrap_i64]; omega
            have hwb : IntKind.i64.wrap ((k : Int) + (rn : Int) - 1) = cu := by rw [IntKind.wrap_i64]; omega
            have HCU : Hid (((k + (rn - 1) : Nat) : Int) = cu) := by unfold Hid; omega
            clear hcu
            go_upto_region 19 with fail
            go_wp2_with fail
            refine CT.out.mono ?_
            rintro e w' ⟨rfl, hw⟩
            have hq9 := hw.symm
            subst hq9
            clear hw CT
            dsimp only
            go_upto_region 21 with fail
            obtain ⟨j0, j1, j2, j3, j4, j5, j6⟩ := ef_cells J6.out
            obtain ⟨f0, f1, f2, f3, f4, f5, f6⟩ := ef_frozen J6.out
            have hbk := ef_store J6.out (.slice eo F.length ec) (.int .i64 cu) (.bool false) (.bool false) (.slice none 0 0) (.int .i64 0) (.bool false)
            have hgr := ef_grown w6 (B + 1) (.slice eo F.length ec) (.int .i64 cu) (.bool false) (.bool false) (.slice none 0 0) (.int .i64 0) (.bool false)
            go_wp2_with fail
            generalize (((((((w6.setCell ⟨B + 1, 0, none⟩ (.slice eo F.length ec)).setCell ⟨B + 1, 1, none⟩ (.int .i64 cu)).setCell ⟨B + 1, 2, none⟩ (.bool false)).setCell ⟨B + 1, 3, none⟩ (.bool false)).setCell ⟨B + 1, 4, none⟩ (.slice none 0 0)).setCell ⟨B + 1, 5, none⟩ (.int .i64 0)).setCell ⟨B + 1, 6, none⟩ (.bool false)) = w9 at *
            obtain ⟨g0, g1, g2, g3, g4, g5, g6⟩ := ef_cells hbk
            refine bodyPost_ret (v := .tuple #[.agg #[.slice eo F.length ec, .int .i64 cu, .bool false, .bool false, .slice none 0 0, .int .i64 0, .bool false], .int .i64 0]) (by simp [results, Tryz.results15, go_sem, g0, g1, g2, g3, g4, g5, g6]) rfl ?_
            have hz : (⟨D, cu, false, false, [], 0, false⟩, (0 : Int)) = x := by
              rw [← HP2.out]
              rw [HPB.out, HH.out, HRL.out, ← HCU.out]
              rfl
            rw [← hz]
            show RfQ ⟨D, cu, false, false, [], 0, false⟩ 0 w _ w9
            exact RfQ.out (x := ⟨D, cu, false, false, [], 0, false⟩) HF.out E6.out rfl J6.out (bT L1.out B6.out) hgr (by have := HB.out; omega)
            
          
      
  
set_option maxHeartbeats 8000000 in
set_option linter.unusedSimpArgs false in
theorem rput_l (ao : Option Addr) (n c k q : Nat) (l : List UInt8) (xp : Option Addr) (xn xc : Nat) (X : List UInt8) (ah : Bool) (w : World) (HT : Hid (Tx w ao n c l)) (HX : Hid (Tx w xp xn xc X)) (hk : k ≤ n) (hbig : n ≤ 1048576) (hxn : xn ≤ 1048576) (hq1 : 1 ≤ q) (hq : q ≤ 9999) :
    Calls Tryz.prog 15 #[.slice ao n c, .int .i64 (k : Int), .int .i64 (q : Int), .agg #[.bool true, .bool true, .slice xp xn xc], .bool ah] w fun e w' => RfQ (ptM l k q true (ptT true X) ah).1 (ptM l k q true (ptT true X) ah).2 w e w' := by
  obtain ⟨x, hx⟩ : ∃ x, ptM l k q true (ptT true X) ah = x := ⟨_, rfl⟩
  rw [hx]
  have HPX := Hid.mk' hx
  clear hx
  have hfit : (decide (0 ≤ (k : Int) ∧ (k : Int) ≤ (n : Int)) && cntB (q : Int)) = true := by
    unfold cntB; rw [decide_eq_true (by omega), decide_eq_true (by omega), decide_eq_true (by omega)]; rfl
  obtain ⟨W1, hW1⟩ : ∃ x, (w.alloc (.cells #[.bool true, .bool true, .slice xp xn xc] 33)).alloc (.cells #[.slice none 0 0, .int .i64 0, .bool false, .bool false, .slice none 0 0, .int .i64 0, .bool false] 35) = x := ⟨_, rfl⟩
  have T1 : Hid (Pob w W1 true true (.slice xp xn xc)) := by unfold Hid; rw [← hW1]; exact Pob.new w _ _ _
  have HT1 := Hid.mk' (HT.out.keep T1.out.bel)
  have HX1 := Hid.mk' (HX.out.keep T1.out.bel)
  obtain ⟨B, hB⟩ : ∃ b, w.heap.size = b := ⟨_, rfl⟩
  have HB := Hid.mk' hB
  have K1 : Hid (Blk W1 B 33 (rrC true true (.slice xp xn xc))) := by unfold Hid; rw [← hB]; exact T1.out.rg
  have J1 : Hid (Blk W1 (B + 1) 35 (ef7 (.slice none 0 0) 0 false false (.slice none 0 0) 0 false)) := by unfold Hid; rw [← hB]; exact T1.out.ef
  have L1 := Hid.mk' T1.out.bel
  have HLN := Hid.mk' HT.out.len
  have HXL := Hid.mk' HX.out.len
  have CC := Hid.mk' (rcop_any xp xn xc X W1 (by omega) HX1)
  have hnk := nl_take_le l k
  have he9 := en_bgk (l := l) (k := k) (by rw [HLN.out]; exact hk)
  have CO : Hid (∀ W, Below W1.heap.size W1 W → Calls Tryz.prog 43 #[.slice ao n c, .int .i64 (k : Int)] W fun e w' => e = .returned (.tuple #[.int .i64 (nl (l.take k) : Int), .int .i64 0]) ∧ w' = W) := fun W hW => rof_at (ao := ao) (c := c) hk (HT1.out.keep hW)
  have COE : Hid (∀ W, Below W1.heap.size W1 W → Calls Tryz.prog 44 #[.slice ao n c, .int .i64 (nl (l.take k) : Int)] W fun e w' => e = .returned (.tuple #[.int .i64 ((k + ow l k : Nat) : Int), .int .i64 0]) ∧ w' = W) := fun W hW => by
    have h := refEnd_any ao n c (nl (l.take k) : Int) l W (by have := HLN.out; have := nl_le l; omega) (HT1.out.keep hW)
    rw [pr_end hnk, he9] at h
    exact h
  clear he9
  obtain ⟨i0, hi0⟩ : ∃ i0, nl (l.take k) = i0 := ⟨_, rfl⟩
  rw [hi0] at CO COE hnk
  have HI0 := Hid.mk' hi0
  clear hi0
  have hol := ow_le (l := l) (i := k) (by rw [HLN.out]; exact hk)
  rw [HLN.out] at hol
  obtain ⟨m, hm⟩ : ∃ m, ow l k = m := ⟨_, rfl⟩
  rw [hm] at COE hol
  rw [Int.natCast_add] at COE
  have HOW := Hid.mk' hm
  clear hm
  obtain ⟨c0, c1, c2⟩ := rrC_cells K1.out
  go_enter Tryz.func15, Tryz.ntmps15
  go_upto_region 1 with fail
  clear hW1 hB T1 HT HX
  go_upto_region 5 with (first | (go_at_call 40; have CP := rfit_any ao n c (k : Int) (q : Int) W1; rw [hfit] at CP; refine CP.mono ?_; rintro e w' ⟨rfl, hw⟩; have hq := hw.symm; subst hq; clear hw CP) | fail)
  clear hfit
  go_wp2_with fail
  refine CC.out.mono ?_
  rintro e w2 ⟨v2, rfl, hO2, hb2⟩
  obtain ⟨yp, yc, rfl⟩ := own_shape hO2
  have O2 := Hid.mk' hO2
  have T2 := Hid.mk' (own_tx' hO2 (by omega))
  have J2 := Hid.mk' (J1.out.keep hb2)
  have K2 := Hid.mk' (K1.out.keep hb2)
  have B2 := Hid.mk' hb2
  clear hb2 hO2 CC c0 c1 c2 HX1
  obtain ⟨c0, c1, c2⟩ := rrC_cells K2.out
  dsimp only
  obtain ⟨Y, hY⟩ : ∃ Y, ptT true X = Y := ⟨_, rfl⟩
  have HYE := Hid.mk' hY
  have HZT : Hid (∀ z, lack X = z → Y = if z = true then X ++ [10] else X) := fun z hz => by rw [← hY]; unfold ptT; rw [hz]; cases z <;> rfl
  clear hY
  go_upto_region 6 with fail
  go_cut [53] from 38 to 159 (fun x53 wx => x53 = .bool (lack X) ∧ w2 = wx)
  case first =>
    by_cases hx0 : xn = 0
    · subst hx0
      have HL9 : Hid (lack X = true) := lack_yes (.inl HXL.out)
      go_wp2_with fail
      go_meet
      exact ⟨by rw [HL9.out], rfl⟩
    · have hx1 : ¬ (xn : Int) = 0 := by omega
      have hx2 : ((xn : Int) == 0) = false := beq_eq_false_iff_ne.2 hx1
      obtain ⟨g, o, rfl, hc⟩ := T2.out.at (by omega)
      obtain ⟨r, hr⟩ : ∃ r, xn - 1 = r := ⟨_, rfl⟩
      have hw5 : IntKind.i64.wrap ((xn : Int) - 1) = (r : Int) := by rw [IntKind.wrap_i64]; omega
      have hc0 := hc r (by omega)
      have hi0 : (0 : Int) ≤ (r : Int) := by omega
      have hin : (r : Int) < (xn : Int) := by omega
      have hxl := HXL.out
      clear hc
      cases h10 : (((at8 X r).toNat : Int) == 10) with
      | true =>
        have hne : (((at8 X r).toNat : Int) != 10) = false := by simp only [bne, h10]; rfl
        have HL9 : Hid (lack X = false) := by
          have h := lack_no (l := X) (a := 0) (b := xn) (by omega) (by omega) (by rw [hr]; exact le_of h10)
          rwa [show sl X 0 xn = X by unfold sl; simp [← hxl]] at h
        clear hxl
        go_wp2_with fail
        go_meet
        exact ⟨by rw [HL9.out], rfl⟩
      | false =>
        have hne : (((at8 X r).toNat : Int) != 10) = true := by simp only [bne, h10]; rfl
        have HL9 : Hid (lack X = true) := lack_yes (.inr (by rw [hxl, hr]; exact le_of h10))
        clear hxl
        go_wp2_with fail
        go_meet
        exact ⟨by rw [HL9.out], rfl⟩
  case rest =>
  obtain ⟨rfl, rfl⟩ := hcut
  obtain ⟨lk, hlk⟩ : ∃ z, lack X = z := ⟨_, rfl⟩
  rw [hlk]
  have HYT := Hid.mk' (HZT.out lk hlk)
  have HYL9 : Hid (lk = false → 1 ≤ xn) := fun e => by
    rw [e] at hlk
    cases X with
    | nil => rw [lack_nil] at hlk; cases hlk
    | cons a b => rw [← HXL.out]; simp
  clear hlk HZT
  go_upto_if 53 with fail
  go_cut [12] from 38 to 159 (fun x12 wx => RpY Y W1 wx x12)
  case first =>
    cases lk with
    | true =>
      go_wp2_with (at_builtin; refine append_big rfl (.tmp 54) (.tmp 55) rfl W1.heap.size (.slice yp xn yc) xn (bv X) rfl (own_keep O2.out (bAlloc (Below.refl w2.heap.size w2) (.cells #[.int .u8 10] 5))) (.slice (some ⟨w2.heap.size, 0, none⟩) 1 1) 1 (bv [10]) rfl (ten_tx (Blk.new w2 5 _)).srv rfl (bv_one _) (by omega) (by omega) (Nat.le_trans B2.out.size (by rw [World.size_alloc]; omega)) ?_)
      intro v4 w4 hown hgrow _
      obtain ⟨zp, zc, rfl⟩ := own_shape hown
      have hb34 : Below w2.heap.size w2 (w2.alloc (.cells #[.int .u8 10] 5)) := bAlloc (Below.refl _ _) _
      have hlow : Below W1.heap.size W1 w4 := (bT B2.out hb34).grown hgrow (Nat.le_trans B2.out.size hb34.size) (fun g hg => (O2.out.lt g hg).1)
      have HY2 : Hid (Y = X ++ [10]) := HYT.out
      have HYN : Hid (xn + 1 = Y.length) := by unfold Hid; rw [HY2.out, List.length_append, HXL.out]; rfl
      rw [← bv_append, ← HY2.out, HYN.out] at hown
      have HR : Hid (RpY Y W1 w4 (.slice zp (xn + 1) zc)) := by
        unfold Hid
        rw [HYN.out]
        exact ⟨zp, zc, rfl, own_tx' hown (by rw [← HYN.out]; omega), hlow⟩
      clear hown hgrow hb34 hlow
      go_wp2_with fail
      go_meet
      exact HR.out
    | false =>
      have HY2 : Hid (Y = X) := HYT.out
      have HR : Hid (RpY Y W1 w2 (.slice yp xn yc)) := by
        unfold Hid
        rw [HY2.out]
        have h := HXL.out
        subst h
        exact ⟨yp, yc, rfl, T2.out, B2.out⟩
      go_wp2_with fail
      go_meet
      exact HR.out
  case rest =>
  obtain ⟨zp, zc, rfl, hTY, hBY⟩ := hcut
  have hyl : 1 ≤ Y.length ∧ Y.length ≤ 1048577 := by
    have h := HYT.out
    have h2 := HXL.out
    cases lk with
    | true =>
      rw [if_pos rfl] at h
      rw [h, List.length_append]
      simp
      omega
    | false =>
      rw [if_neg (by decide)] at h
      have := HYL9.out rfl
      rw [h]
      omega
  obtain ⟨yn, hyn⟩ : ∃ yn, Y.length = yn := ⟨_, rfl⟩
  rw [hyn] at hTY hyl
  rw [hyn]
  have HYL := Hid.mk' hyn
  have TY := Hid.mk' hTY
  have BY := Hid.mk' hBY
  have JY : Hid (Blk wc (B + 1) 35 (ef7 (.slice none 0 0) 0 false false (.slice none 0 0) 0 false)) := J1.out.keep hBY
  have KY : Hid (Blk wc B 33 (rrC true true (.slice xp xn xc))) := K1.out.keep hBY
  obtain ⟨hyl1, hyl2⟩ := hyl
  clear hyn hTY hBY O2 T2 c0 c1 c2 HYT HYL9
  obtain ⟨c0, c1, c2⟩ := rrC_cells KY.out
  have hyp := hyl1
  have hgt : (0 : Int) < (yn : Int) := by omega
  have hqz : ((yn : Int) == 0) = false := beq_eq_false_iff_ne.2 (by omega)
  have hqz2 : ¬ (yn : Int) = 0 := by omega
  have hqz3 : ¬ yn = 0 := by omega
  have hqn : Int.tdiv 65536 (yn : Int) = ((65536 / yn : Nat) : Int) := quo_nat yn
  have hqb : 65536 / yn ≤ 65536 := Nat.div_le_self _ _
  have hpl := put_long (y := yn) (q := q) (by omega) (by omega)
  obtain ⟨qu, hqu⟩ : ∃ qu, 65536 / yn = qu := ⟨_, rfl⟩
  have HQM : Hid (qu * yn ≤ 65536) := by unfold Hid; rw [← hqu]; exact Nat.div_mul_le_self 65536 yn
  rw [hqu] at hqn hqb hpl
  clear hqu
  have hwq : IntKind.i64.wrap (qu : Int) = (qu : Int) := by rw [IntKind.wrap_i64]; omega
  by_cases hlo : qu < q
  · skip
    have hlo' : (qu : Int) < (q : Int) := by omega
    have hlo2 : ¬ (q : Int) ≤ (qu : Int) := by omega
    have HP2 : Hid ((ef0, (1 : Int)) = x) := by unfold Hid; rw [← HPX.out, HYE.out]; unfold ptM; rw [if_pos (by first | exact HYL.out ▸ hpl.1 hlo | (rw [HYL.out]; exact hpl.1 hlo))]
    go_upto_region 9 with fail
    obtain ⟨j0, j1, j2, j3, j4, j5, j6⟩ := ef_cells JY.out
    obtain ⟨f0, f1, f2, f3, f4, f5, f6⟩ := ef_frozen JY.out
    have hbk := ef_store JY.out (.slice none 0 0) (.int .i64 0) (.bool false) (.bool false) (.slice none 0 0) (.int .i64 0) (.bool false)
    have hgr := ef_grown wc (B + 1) (.slice none 0 0) (.int .i64 0) (.bool false) (.bool false) (.slice none 0 0) (.int .i64 0) (.bool false)
    go_wp2_with fail
    generalize (((((((wc.setCell ⟨B + 1, 0, none⟩ (.slice none 0 0)).setCell ⟨B + 1, 1, none⟩ (.int .i64 0)).setCell ⟨B + 1, 2, none⟩ (.bool false)).setCell ⟨B + 1, 3, none⟩ (.bool false)).setCell ⟨B + 1, 4, none⟩ (.slice none 0 0)).setCell ⟨B + 1, 5, none⟩ (.int .i64 0)).setCell ⟨B + 1, 6, none⟩ (.bool false)) = w9 at *
    obtain ⟨g0, g1, g2, g3, g4, g5, g6⟩ := ef_cells hbk
    obtain rfl := HP2.out
    refine bodyPost_ret (v := .tuple #[efz, .int .i64 1]) (by simp [results, efz, Tryz.results15, go_sem, g0, g1, g2, g3, g4, g5, g6]) rfl (RfQ.no ?_)
    exact (bT L1.out BY.out).grown hgr (bT L1.out BY.out).size (fun g hg => by injection hg with hg; rw [← hg, HB.out]; exact Nat.le_succ B)
    
  · have hlo' : ¬ (qu : Int) < (q : Int) := by omega
    have HP2 : Hid ((plX l (plI l k ah) (rp Y q), (0 : Int)) = x) := by unfold Hid; rw [← HPX.out, HYE.out]; unfold ptM; rw [if_neg (by rw [HYL.out]; exact fun h => hlo (hpl.2 h)), if_pos rfl]
    clear hpl
    have CR := Hid.mk' (rtimes_any zp yn zc q Y wc TY hq (by have h1 := HQM.out; have h2 := Nat.mul_le_mul_right yn (Nat.le_of_not_lt hlo); rw [Nat.mul_comm q yn] at h2; omega))
    obtain ⟨rn, hrn⟩ : ∃ r, yn * q = r := ⟨_, rfl⟩
    have hrb : rn ≤ 65536 := by rw [← hrn]; have h1 := HQM.out; have h2 := Nat.mul_le_mul_right yn (Nat.le_of_not_lt hlo); rw [Nat.mul_comm q yn] at h2; omega
    rw [hrn] at CR
    have HRL : Hid ((rp Y q).length = rn) := by unfold Hid; rw [rp_len, ← hrn, HYL.out]
    go_upto_region 10 with fail
    go_wp2_with fail
    refine CR.out.mono ?_
    rintro e w5 ⟨v5, rfl, hO5, hb5⟩
    obtain ⟨p5, d5, rfl⟩ := own_shape hO5
    have T5 := Hid.mk' (own_tx' hO5 (by omega))
    have J5 := Hid.mk' (JY.out.keep hb5)
    have K5 := Hid.mk' (KY.out.keep hb5)
    have B5 := Hid.mk' (bT BY.out hb5)
    clear CR c0 c1 c2 hO5 hb5
    obtain ⟨c0, c1, c2⟩ := rrC_cells K5.out
    dsimp only
    go_upto_region 11 with fail
    go_wp2_with fail
    refine (CO.out w5 B5.out).mono ?_
    rintro e w' ⟨rfl, hw⟩
    have hq9 := hw.symm
    subst hq9
    clear hw CO
    dsimp only
    go_upto_region 12 with fail
    go_wp2_with fail
    refine (COE.out w5 B5.out).mono ?_
    rintro e w' ⟨rfl, hw⟩
    have hq9 := hw.symm
    subst hq9
    clear hw COE
    dsimp only
    
    have hr1 : 1 ≤ rn := by rw [← hrn]; exact Nat.mul_le_mul hyp hq1
    clear hrn hqz hqz2 hqz3 hqn hqb hwq HQM hgt hlo hlo'
    have hnl := nl_le l
    rw [HLN.out] at hnl
    have CST : Hid (∀ (W : World) (i : Nat), i ≤ n + 1 → Below W1.heap.size W1 W → Calls Tryz.prog 45 #[.slice ao n c, .int .i64 (i : Int)] W fun e w' => e = .returned (.tuple #[.int .i64 (if i ≤ nl l then (sp l i : Int) else 0), .int .i64 (if i ≤ nl l then 0 else 2)]) ∧ w' = W) := fun W i hi hW => rstart_call (HT1.out.keep hW) hbig hi
    have CS0 := CST.out w5 i0 (by omega) B5.out
    rw [if_pos hnk, if_pos hnk] at CS0
    obtain ⟨s0, hs0⟩ : ∃ s, sp l i0 = s := ⟨_, rfl⟩
    have hs0n : s0 ≤ n := by rw [← hs0, ← HLN.out]; exact sp_le hnk
    rw [hs0] at CS0
    have HS0 := Hid.mk' hs0
    have CSA := Hid.mk' CS0
    clear CS0 hs0
    go_upto_region 23 with fail
    go_wp2_with fail
    refine CSA.out.mono ?_
    rintro e w' ⟨rfl, hw⟩
    have hq9 := hw.symm
    subst hq9
    clear hw CSA
    dsimp only
    have hwi : IntKind.i64.wrap ((i0 : Int) + 1) = (i0 : Int) + 1 := by rw [IntKind.wrap_i64]; omega
    obtain ⟨ii, hii⟩ : ∃ i, plI l k ah = i := ⟨_, rfl⟩
    rw [hii] at HP2
    have hi1 : ii = if ah = true then i0 else i0 + 1 := by rw [← hii]; unfold plI; rw [HI0.out]
    have hi2 : ii ≤ n + 1 := by rw [hi1]; split <;> omega
    obtain ⟨pp, hpp⟩ : ∃ p, plP l ii = p := ⟨_, rfl⟩
    obtain ⟨Z, hZ⟩ : ∃ Z, plY l ii (rp Y q) = Z := ⟨_, rfl⟩
    have hppn : pp ≤ n := by
      rw [← hpp]
      unfold plP
      split
      · rename_i h; have := sp_le (t := l) h; have := HLN.out; omega
      · have := HLN.out; omega
    have HI1 := Hid.mk' hi1
    have HPP := Hid.mk' hpp
    have HZZ := Hid.mk' hZ
    have HZL : Hid (Z.length ≤ 65536) := by
      unfold Hid
      rw [← hZ]
      unfold plY
      have := HRL.out
      split
      · omega
      · rw [List.length_cons, List.length_take]; omega
    clear hii hi1 hpp hZ
    go_upto_region 24 with fail
    go_upto_if 126 with fail
    go_cut [12, 18, 19] from 20 to 159 (fun x12 x18 x19 wx => RpZ Z ii pp W1 wx x12 x18 x19)
    case first =>
      cases ah with
      | true =>
        have HE : Hid (Z = rp Y q ∧ ii = i0 ∧ pp = s0) := by
          have h1 := HI1.out
          rw [if_pos rfl] at h1
          have h2 := HPP.out
          have h3 := HZZ.out
          rw [h1] at h2 h3
          unfold plP at h2
          unfold plY at h3
          rw [if_pos hnk] at h2 h3
          exact ⟨h3.symm, h1, by rw [← h2]; exact HS0.out⟩
        have HR : Hid (RpZ Z ii pp W1 w5 (.slice p5 rn d5) (.int .i64 (i0 : Int)) (.int .i64 (s0 : Int))) := by
          unfold Hid
          obtain ⟨h1, h2, h3⟩ := HE.out
          rw [h1, h2, h3]
          have h := HRL.out
          subst h
          exact ⟨rfl, rfl, p5, d5, rfl, T5.out, B5.out⟩
        go_wp2_with fail
        go_meet
        exact HR.out
      | false =>
        have HI9 : Hid (ii = i0 + 1) := by have h1 := HI1.out; rwa [if_neg (by decide)] at h1
        have CS1 := CST.out w5 (i0 + 1) (by omega) B5.out
        rw [Int.natCast_add, show ((1 : Nat) : Int) = 1 from rfl] at CS1
        by_cases hin : i0 + 1 ≤ nl l
        · rw [if_pos hin, if_pos hin] at CS1
          obtain ⟨s1, hs1⟩ : ∃ s, sp l (i0 + 1) = s := ⟨_, rfl⟩
          rw [hs1] at CS1
          have CSB := Hid.mk' CS1
          have HE : Hid (Z = rp Y q ∧ pp = s1) := by
            have h2 := HPP.out
            have h3 := HZZ.out
            rw [HI9.out] at h2 h3
            unfold plP at h2
            unfold plY at h3
            rw [if_pos hin] at h2 h3
            exact ⟨h3.symm, by rw [← h2]; exact hs1⟩
          have HR : Hid (RpZ Z ii pp W1 w5 (.slice p5 rn d5) (.int .i64 ((i0 : Int) + 1)) (.int .i64 (s1 : Int))) := by
            unfold Hid
            obtain ⟨h1, h3⟩ := HE.out
            rw [h1, HI9.out, h3]
            have h := HRL.out
            subst h
            exact ⟨by rw [Int.natCast_add]; rfl, rfl, p5, d5, rfl, T5.out, B5.out⟩
          clear CS1 hs1
          go_wp2_with fail
          refine CSB.out.mono ?_
          rintro e w' ⟨rfl, hw⟩
          have hq9 := hw.symm
          subst hq9
          clear hw CSB
          dsimp only
          go_wp2_with fail
          go_meet
          exact HR.out
        · rw [if_neg hin, if_neg hin] at CS1
          have CSB := Hid.mk' CS1
          clear CS1
          obtain ⟨m9, hm9⟩ : ∃ m9, rn - 1 = m9 := ⟨_, rfl⟩
          have hwm : IntKind.i64.wrap ((rn : Int) - 1) = (m9 : Int) := by rw [IntKind.wrap_i64]; omega
          have hmx : m9 ≤ rn := by omega
          obtain ⟨a7, c7, hs7, hT7⟩ := sl_h T5.out hmx
          have T7 := Hid.mk' (hT7.keep (bAlloc (Below.refl w5.heap.size w5) (.cells #[.int .u8 10] 5)))
          have HLm : Hid ((bv ((rp Y q).take m9)).length = m9) := by unfold Hid; rw [bv_length, List.length_take, HRL.out]; omega
          have HE : Hid (Z = 10 :: (rp Y q).take m9 ∧ pp = n) := by
            have h2 := HPP.out
            have h3 := HZZ.out
            rw [HI9.out] at h2 h3
            unfold plP at h2
            unfold plY at h3
            rw [if_neg hin] at h2 h3
            rw [HRL.out, hm9] at h3
            exact ⟨h3.symm, by rw [← h2]; exact HLN.out⟩
          clear hm9 hT7
          go_wp2_with fail
          refine CSB.out.mono ?_
          rintro e w' ⟨rfl, hw⟩
          have hq9 := hw.symm
          subst hq9
          clear hw CSB
          dsimp only
          go_wp2_with (at_builtin; refine append_big rfl (.tmp 142) (.tmp 147) rfl w5.heap.size (.slice (some ⟨w5.heap.size, 0, none⟩) 1 1) 1 (bv [10]) rfl (ten_own w5) (.slice a7 m9 c7) m9 (bv ((rp Y q).take m9)) rfl T7.out.srv HLm.out (bv_one _) (by omega) (by omega) (by rw [World.size_alloc]; omega) ?_)
          intro v1 w6 hown hgrow _
          obtain ⟨yp', yc', rfl⟩ := own_shape hown
          have hb3 : Below w5.heap.size w5 w6 := (bAlloc (Below.refl w5.heap.size w5) (.cells #[.int .u8 10] 5)).grown hgrow (by rw [World.size_alloc]; omega) (by intro k hk; simp [Value.ownBlock] at hk; omega)
          have HR : Hid (RpZ Z ii pp W1 w6 (.slice yp' (1 + m9) yc') (.int .i64 ((i0 : Int) + 1)) (.int .i64 (n : Int))) := by
            unfold Hid
            obtain ⟨h1, h3⟩ := HE.out
            have hz9 : Z.length = 1 + m9 := by
              have := HLm.out
              rw [bv_length] at this
              rw [h1, List.length_cons, this, Nat.add_comm]
            rw [← bv_append, show [10] ++ (rp Y q).take m9 = Z from h1.symm] at hown
            rw [HI9.out, h3, ← hz9]
            rw [← hz9] at hown
            exact ⟨by rw [Int.natCast_add]; rfl, rfl, yp', yc', rfl, own_tx' hown (by have := HZL.out; omega), bT B5.out hb3⟩
          clear hown hgrow hb3 hs7
          go_wp2_with fail
          go_meet
          exact HR.out
    case rest =>
    obtain ⟨rfl, rfl, zp', zc', rfl, hTZ, hBZ⟩ := hcut
    have TZ := Hid.mk' hTZ
    have BZ := Hid.mk' hBZ
    have JZ : Hid (Blk wc (B + 1) 35 (ef7 (.slice none 0 0) 0 false false (.slice none 0 0) 0 false)) := J1.out.keep hBZ
    have CX := Hid.mk' (redit_any ao n c pp pp l zp' Z.length zc' Z wc (Hid.mk' (HT1.out.keep hBZ)) (Nat.le_refl _) hppn (by omega) TZ (by have := HZL.out; omega))
    obtain ⟨D, hD⟩ : ∃ D, sw l pp pp Z = D := ⟨_, rfl⟩
    have hns := nsum_sw l pp pp Z
    have hsl := sw_len l pp pp Z
    rw [hD] at CX hns hsl
    have HD := Hid.mk' hD
    obtain ⟨zn, hzn⟩ : ∃ z, Z.length = z := ⟨_, rfl⟩
    rw [hzn] at CX
    rw [hzn]
    clear hTZ hBZ c0 c1 c2 J5 K5 T5 hD
    go_upto_region 32 with fail
    go_wp2_with fail
    refine CX.out.mono ?_
    rintro e w6 ⟨eo, ec, F, rfl, hF, hE6, hb6⟩
    obtain ⟨en, hen⟩ : ∃ en, F.length = en := ⟨_, rfl⟩
    have hen1 : en ≤ 1 := by rw [← hen, ← List.length_map (f := Er.d), hF]; exact hsl
    have J6 := Hid.mk' (JZ.out.keep hb6)
    have B6 := Hid.mk' (bT BZ.out hb6)
    have CY0 := rfst_call (a := ii) (ec := ec) (HT1.out.keep B6.out) hbig hi2 hen (by omega) hE6 hF (by have := HZL.out; omega)
    have E6 := Hid.mk' hE6
    have HF := Hid.mk' hF
    obtain ⟨cf, hcf⟩ : ∃ cf, fbh l D ii = cf := ⟨_, rfl⟩
    rw [hcf] at CY0
    have CY := Hid.mk' CY0
    have HCF := Hid.mk' hcf
    have HEN := Hid.mk' hen
    rw [hen]
    clear CX hb6 hE6 hF JZ hen CY0 hcf
    dsimp only
    go_upto_region 33 with fail
    go_wp2_with fail
    refine CY.out.mono ?_
    rintro e w7 ⟨rfl, hb7⟩
    have J7 := Hid.mk' (J6.out.keep hb7)
    have E7 := Hid.mk' (E6.out.keep hb7)
    have B7 := Hid.mk' (bT B6.out hb7)
    clear hb7 CY J6
    dsimp only
    obtain ⟨j0, j1, j2, j3, j4, j5, j6⟩ := ef_cells J7.out
    obtain ⟨f0, f1, f2, f3, f4, f5, f6⟩ := ef_frozen J7.out
    have hbk := ef_store J7.out (.slice eo en ec) (.int .i64 cf) (.bool false) (.bool false) (.slice none 0 0) (.int .i64 0) (.bool false)
    have hgr := ef_grown w7 (B + 1) (.slice eo en ec) (.int .i64 cf) (.bool false) (.bool false) (.slice none 0 0) (.int .i64 0) (.bool false)
    go_wp2_with fail
    generalize (((((((w7.setCell ⟨B + 1, 0, none⟩ (.slice eo en ec)).setCell ⟨B + 1, 1, none⟩ (.int .i64 cf)).setCell ⟨B + 1, 2, none⟩ (.bool false)).setCell ⟨B + 1, 3, none⟩ (.bool false)).setCell ⟨B + 1, 4, none⟩ (.slice none 0 0)).setCell ⟨B + 1, 5, none⟩ (.int .i64 0)).setCell ⟨B + 1, 6, none⟩ (.bool false)) = w9 at *
    obtain ⟨g0, g1, g2, g3, g4, g5, g6⟩ := ef_cells hbk
    refine bodyPost_ret (v := .tuple #[.agg #[.slice eo en ec, .int .i64 cf, .bool false, .bool false, .slice none 0 0, .int .i64 0, .bool false], .int .i64 0]) (by simp [results, Tryz.results15, go_sem, g0, g1, g2, g3, g4, g5, g6]) rfl ?_
    have hz : (⟨D, cf, false, false, [], 0, false⟩, (0 : Int)) = x := by
      rw [← HP2.out]
      unfold plX
      rw [HPP.out, HZZ.out, HD.out, HCF.out]
    rw [← hz, ← HEN.out]
    show RfQ ⟨D, cf, false, false, [], 0, false⟩ 0 w _ w9
    exact RfQ.out (x := ⟨D, cf, false, false, [], 0, false⟩) HF.out E7.out rfl J7.out (bT L1.out B7.out) hgr (by have := HB.out; omega)
    
  
theorem rput_any (ao : Option Addr) (n c : Nat) (l : List UInt8) (at' q : Int) (set lin : Bool) (xp : Option Addr) (xn xc : Nat) (X : List UInt8) (ah : Bool) (w : World) (HT : Hid (Tx w ao n c l)) (HX : Hid (Tx w xp xn xc X)) (hbig : n ≤ 1048576) (hxn : xn ≤ 1048576) :
    Calls Tryz.prog 15 #[.slice ao n c, .int .i64 at', .int .i64 q, .agg #[.bool set, .bool lin, .slice xp xn xc], .bool ah] w fun e w' => RfQ (ptX l at' q set lin X ah).1 (ptX l at' q set lin X ah).2 w e w' := by
  have hln := HT.out.len
  unfold ptX
  rw [hln]
  by_cases h : (0 ≤ at' ∧ at' ≤ (n : Int)) ∧ cntB q = true
  · rw [if_neg (by simp [h])]
    cases set with
    | false =>
      rw [if_pos rfl]
      exact rput_unset ao n c l at' q false lin xp xn xc X ah w HT HX h.1 h.2 rfl
    | true =>
      rw [if_neg (by simp)]
      have hq2 : 1 ≤ q ∧ q ≤ 9999 := by have := h.2; unfold cntB at this; simp at this; exact this
      obtain ⟨k, rfl⟩ := Int.eq_ofNat_of_zero_le h.1.1
      obtain ⟨q, rfl⟩ := Int.eq_ofNat_of_zero_le (show 0 ≤ q by omega)
      cases lin with
      | false => exact rput_b ao n c k q l xp xn xc X ah w HT HX (by omega) hbig hxn (by omega) (by omega)
      | true => exact rput_l ao n c k q l xp xn xc X ah w HT HX (by omega) hbig hxn (by omega) (by omega)
  · rw [if_pos h]
    exact rput_args ao n c l at' q set lin xp xn xc X ah w HT HX h
end Go.Proofs.YtppefcnopkmhbaaGreatDoor
