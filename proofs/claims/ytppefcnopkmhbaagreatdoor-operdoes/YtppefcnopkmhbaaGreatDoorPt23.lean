/- Put -/
import Derived.Test.YtppefcnopkmhbaaGreatDoorPt21
import Derived.Test.YtppefcnopkmhbaaGreatDoorPt22
namespace Go.Proofs.YtppefcnopkmhbaaGreatDoor
open Go.RowKit

set_option maxRecDepth 8000
def ptT (lin : Bool) (X : List UInt8) : List UInt8 := if lin = true ∧ lack X = true then X ++ [10] else X
/-- Put, its place, count and register known to be right -/
def ptM (l : List UInt8) (k q : Nat) (lin : Bool) (Y : List UInt8) (ah : Bool) : Ef × Int :=
  if 65536 / q < Y.length then (ef0, 1) else if lin = true then (plX l (plI l k ah) (rp Y q), 0) else (pbX l k (rp Y q) ah, 0)
def ptX (l : List UInt8) (at' q : Int) (set lin : Bool) (X : List UInt8) (ah : Bool) : Ef × Int :=
  if ¬ ((0 ≤ at' ∧ at' ≤ (l.length : Int)) ∧ cntB q = true) then (ef0, 2) else if set = false then (ef0, 151) else ptM l at'.toNat q.toNat lin (ptT lin X) ah
def rrC (set lin : Bool) (v : Value) : Array Value := #[.bool set, .bool lin, v]
structure Pob (w W : World) (set lin : Bool) (v : Value) : Prop where
  bel : Below w.heap.size w W
  rg : Blk W w.heap.size 33 (rrC set lin v)
  ef : Blk W (w.heap.size + 1) 35 (ef7 (.slice none 0 0) 0 false false (.slice none 0 0) 0 false)
theorem Pob.new (w : World) (set lin : Bool) (v : Value) : Pob w ((w.alloc (.cells (rrC set lin v) 33)).alloc (.cells (ef7 (.slice none 0 0) 0 false false (.slice none 0 0) 0 false) 35)) set lin v :=
  ⟨bAlloc (bAlloc (Below.refl _ _) _) _, (Blk.new w 33 _).keep (bAlloc (Below.refl _ _) _), by have := Blk.new (w.alloc (.cells (rrC set lin v) 33)) 35 (ef7 (.slice none 0 0) 0 false false (.slice none 0 0) 0 false); rwa [World.size_alloc] at this⟩
theorem rrC_cells {W : World} {B : Nat} {set lin : Bool} {v : Value} (h : Blk W B 33 (rrC set lin v)) :
    W.cell? ⟨B, 0, none⟩ = some (.bool set) ∧ W.cell? ⟨B, 1, none⟩ = some (.bool lin) ∧ W.cell? ⟨B, 2, none⟩ = some v := ⟨h.cell rfl, h.cell rfl, h.cell rfl⟩
theorem quo_nat (q : Nat) : Int.tdiv 65536 (q : Int) = ((65536 / q : Nat) : Int) := by
  show Int.tdiv ((65536 : Nat) : Int) (q : Int) = _
  rw [← Int.ofNat_tdiv]
set_option maxHeartbeats 8000000 in
set_option linter.unusedSimpArgs false in
theorem put_args (ao : Option Addr) (n c : Nat) (l : List UInt8) (at' q : Int) (set lin : Bool) (xp : Option Addr) (xn xc : Nat) (X : List UInt8) (ah : Bool) (w : World) (HT : Hid (Tx w ao n c l)) (HX : Hid (Tx w xp xn xc X)) (h : ¬ ((0 ≤ at' ∧ at' ≤ (n : Int)) ∧ cntB q = true)) :
    Calls Tryz.prog 16 #[.slice ao n c, .int .i64 at', .int .i64 q, .agg #[.bool set, .bool lin, .slice xp xn xc], .bool ah] w fun e w' => EfQ ef0 2 w e w' := by
  obtain ⟨W1, hW1⟩ : ∃ x, (w.alloc (.cells #[.bool set, .bool lin, .slice xp xn xc] 33)).alloc (.cells #[.slice none 0 0, .int .i64 0, .bool false, .bool false, .slice none 0 0, .int .i64 0, .bool false] 35) = x := ⟨_, rfl⟩
  have T1 : Hid (Pob w W1 set lin (.slice xp xn xc)) := by unfold Hid; rw [← hW1]; exact Pob.new w _ _ _
  have HT1 := Hid.mk' (HT.out.keep T1.out.bel)
  have HX1 := Hid.mk' (HX.out.keep T1.out.bel)
  obtain ⟨B, hB⟩ : ∃ b, w.heap.size = b := ⟨_, rfl⟩
  have HB := Hid.mk' hB
  have K1 : Hid (Blk W1 B 33 (rrC set lin (.slice xp xn xc))) := by unfold Hid; rw [← hB]; exact T1.out.rg
  have J1 : Hid (Blk W1 (B + 1) 35 (ef7 (.slice none 0 0) 0 false false (.slice none 0 0) 0 false)) := by unfold Hid; rw [← hB]; exact T1.out.ef
  have L1 := Hid.mk' T1.out.bel
  have B1 := Hid.mk' (Below.refl W1.heap.size W1)
  by_cases hp : (0 ≤ at' ∧ at' ≤ (n : Int))
  · have hq9 : cntB q = false := by
      cases e : cntB q with
      | true => exact absurd ⟨hp, e⟩ h
      | false => rfl
    have hp9 : decide (0 ≤ at' ∧ at' ≤ (n : Int)) = true := decide_eq_true hp
    go_enter Tryz.func16, Tryz.ntmps16
    go_upto_region 1 with fail
    clear hW1 hB T1 HT HX
    go_upto_region 2 with (first | (go_at_call 36; have CP := oplace_any ao n c at' W1; rw [hp9] at CP; refine CP.mono ?_; rintro e w' ⟨rfl, hw⟩; have hq := hw.symm; subst hq; clear hw CP) | (go_at_call 37; have CP := ocount_any q W1; rw [hq9] at CP; refine CP.mono ?_; rintro e w' ⟨rfl, hw⟩; have hq := hw.symm; subst hq; clear hw CP) | fail)
    obtain ⟨j0, j1, j2, j3, j4, j5, j6⟩ := ef_cells J1.out
    obtain ⟨f0, f1, f2, f3, f4, f5, f6⟩ := ef_frozen J1.out
    have hbk := ef_store J1.out (.slice none 0 0) (.int .i64 0) (.bool false) (.bool false) (.slice none 0 0) (.int .i64 0) (.bool false)
    have hgr := ef_grown W1 (B + 1) (.slice none 0 0) (.int .i64 0) (.bool false) (.bool false) (.slice none 0 0) (.int .i64 0) (.bool false)
    go_wp2_with fail
    generalize (((((((W1.setCell ⟨B + 1, 0, none⟩ (.slice none 0 0)).setCell ⟨B + 1, 1, none⟩ (.int .i64 0)).setCell ⟨B + 1, 2, none⟩ (.bool false)).setCell ⟨B + 1, 3, none⟩ (.bool false)).setCell ⟨B + 1, 4, none⟩ (.slice none 0 0)).setCell ⟨B + 1, 5, none⟩ (.int .i64 0)).setCell ⟨B + 1, 6, none⟩ (.bool false)) = w9 at *
    obtain ⟨g0, g1, g2, g3, g4, g5, g6⟩ := ef_cells hbk
    refine bodyPost_ret (v := .tuple #[efz, .int .i64 2]) (by simp [results, efz, Tryz.results16, go_sem, g0, g1, g2, g3, g4, g5, g6]) rfl (EfQ.no ?_)
    exact (bT L1.out B1.out).grown hgr (bT L1.out B1.out).size (fun g hg => by injection hg with hg; rw [← hg, HB.out]; exact Nat.le_succ B)
  · have hp9 : decide (0 ≤ at' ∧ at' ≤ (n : Int)) = false := decide_eq_false hp
    go_enter Tryz.func16, Tryz.ntmps16
    go_upto_region 1 with fail
    clear hW1 hB T1 HT HX
    go_upto_region 2 with (first | (go_at_call 36; have CP := oplace_any ao n c at' W1; rw [hp9] at CP; refine CP.mono ?_; rintro e w' ⟨rfl, hw⟩; have hq := hw.symm; subst hq; clear hw CP) | (go_at_call 37; have CP := ocount_any q W1; rw [hq9] at CP; refine CP.mono ?_; rintro e w' ⟨rfl, hw⟩; have hq := hw.symm; subst hq; clear hw CP) | fail)
    obtain ⟨j0, j1, j2, j3, j4, j5, j6⟩ := ef_cells J1.out
    obtain ⟨f0, f1, f2, f3, f4, f5, f6⟩ := ef_frozen J1.out
    have hbk := ef_store J1.out (.slice none 0 0) (.int .i64 0) (.bool false) (.bool false) (.slice none 0 0) (.int .i64 0) (.bool false)
    have hgr := ef_grown W1 (B + 1) (.slice none 0 0) (.int .i64 0) (.bool false) (.bool false) (.slice none 0 0) (.int .i64 0) (.bool false)
    go_wp2_with fail
    generalize (((((((W1.setCell ⟨B + 1, 0, none⟩ (.slice none 0 0)).setCell ⟨B + 1, 1, none⟩ (.int .i64 0)).setCell ⟨B + 1, 2, none⟩ (.bool false)).setCell ⟨B + 1, 3, none⟩ (.bool false)).setCell ⟨B + 1, 4, none⟩ (.slice none 0 0)).setCell ⟨B + 1, 5, none⟩ (.int .i64 0)).setCell ⟨B + 1, 6, none⟩ (.bool false)) = w9 at *
    obtain ⟨g0, g1, g2, g3, g4, g5, g6⟩ := ef_cells hbk
    refine bodyPost_ret (v := .tuple #[efz, .int .i64 2]) (by simp [results, efz, Tryz.results16, go_sem, g0, g1, g2, g3, g4, g5, g6]) rfl (EfQ.no ?_)
    exact (bT L1.out B1.out).grown hgr (bT L1.out B1.out).size (fun g hg => by injection hg with hg; rw [← hg, HB.out]; exact Nat.le_succ B)
set_option maxHeartbeats 8000000 in
set_option linter.unusedSimpArgs false in
theorem put_empty (ao : Option Addr) (n c : Nat) (l : List UInt8) (at' q : Int) (set lin : Bool) (xp : Option Addr) (xn xc : Nat) (X : List UInt8) (ah : Bool) (w : World) (HT : Hid (Tx w ao n c l)) (HX : Hid (Tx w xp xn xc X)) (hp : 0 ≤ at' ∧ at' ≤ (n : Int)) (hq9 : cntB q = true) (hs : set = false) :
    Calls Tryz.prog 16 #[.slice ao n c, .int .i64 at', .int .i64 q, .agg #[.bool set, .bool lin, .slice xp xn xc], .bool ah] w fun e w' => EfQ ef0 151 w e w' := by
  subst hs
  obtain ⟨W1, hW1⟩ : ∃ x, (w.alloc (.cells #[.bool false, .bool lin, .slice xp xn xc] 33)).alloc (.cells #[.slice none 0 0, .int .i64 0, .bool false, .bool false, .slice none 0 0, .int .i64 0, .bool false] 35) = x := ⟨_, rfl⟩
  have T1 : Hid (Pob w W1 false lin (.slice xp xn xc)) := by unfold Hid; rw [← hW1]; exact Pob.new w _ _ _
  have HT1 := Hid.mk' (HT.out.keep T1.out.bel)
  have HX1 := Hid.mk' (HX.out.keep T1.out.bel)
  obtain ⟨B, hB⟩ : ∃ b, w.heap.size = b := ⟨_, rfl⟩
  have HB := Hid.mk' hB
  have K1 : Hid (Blk W1 B 33 (rrC false lin (.slice xp xn xc))) := by unfold Hid; rw [← hB]; exact T1.out.rg
  have J1 : Hid (Blk W1 (B + 1) 35 (ef7 (.slice none 0 0) 0 false false (.slice none 0 0) 0 false)) := by unfold Hid; rw [← hB]; exact T1.out.ef
  have L1 := Hid.mk' T1.out.bel
  have B1 := Hid.mk' (Below.refl W1.heap.size W1)
  have hp9 : decide (0 ≤ at' ∧ at' ≤ (n : Int)) = true := decide_eq_true hp
  obtain ⟨c0, c1, c2⟩ := rrC_cells K1.out
  go_enter Tryz.func16, Tryz.ntmps16
  go_upto_region 1 with fail
  clear hW1 hB T1 HT HX
  go_upto_region 4 with (first | (go_at_call 36; have CP := oplace_any ao n c at' W1; rw [hp9] at CP; refine CP.mono ?_; rintro e w' ⟨rfl, hw⟩; have hq := hw.symm; subst hq; clear hw CP) | (go_at_call 37; have CP := ocount_any q W1; rw [hq9] at CP; refine CP.mono ?_; rintro e w' ⟨rfl, hw⟩; have hq := hw.symm; subst hq; clear hw CP) | fail)
  obtain ⟨j0, j1, j2, j3, j4, j5, j6⟩ := ef_cells J1.out
  obtain ⟨f0, f1, f2, f3, f4, f5, f6⟩ := ef_frozen J1.out
  have hbk := ef_store J1.out (.slice none 0 0) (.int .i64 0) (.bool false) (.bool false) (.slice none 0 0) (.int .i64 0) (.bool false)
  have hgr := ef_grown W1 (B + 1) (.slice none 0 0) (.int .i64 0) (.bool false) (.bool false) (.slice none 0 0) (.int .i64 0) (.bool false)
  go_wp2_with fail
  generalize (((((((W1.setCell ⟨B + 1, 0, none⟩ (.slice none 0 0)).setCell ⟨B + 1, 1, none⟩ (.int .i64 0)).setCell ⟨B + 1, 2, none⟩ (.bool false)).setCell ⟨B + 1, 3, none⟩ (.bool false)).setCell ⟨B + 1, 4, none⟩ (.slice none 0 0)).setCell ⟨B + 1, 5, none⟩ (.int .i64 0)).setCell ⟨B + 1, 6, none⟩ (.bool false)) = w9 at *
  obtain ⟨g0, g1, g2, g3, g4, g5, g6⟩ := ef_cells hbk
  refine bodyPost_ret (v := .tuple #[efz, .int .i64 151]) (by simp [results, efz, Tryz.results16, go_sem, g0, g1, g2, g3, g4, g5, g6]) rfl (EfQ.no ?_)
  exact (bT L1.out B1.out).grown hgr (bT L1.out B1.out).size (fun g hg => by injection hg with hg; rw [← hg, HB.out]; exact Nat.le_succ B)
theorem rp_pos {Y : List UInt8} {q : Nat} (h1 : 1 ≤ Y.length) (h2 : 1 ≤ q) : 1 ≤ (rp Y q).length := by rw [rp_len]; exact Nat.mul_le_mul h1 h2
set_option maxHeartbeats 8000000 in
set_option linter.unusedSimpArgs false in
theorem put_bn (ao : Option Addr) (n c k q : Nat) (l : List UInt8) (xp : Option Addr) (xn xc : Nat) (X : List UInt8) (ah : Bool) (w : World) (HT : Hid (Tx w ao n c l)) (HX : Hid (Tx w xp xn xc X)) (hk : k ≤ n) (hbig : n ≤ 1048576) (hxn : xn ≤ 140737488351232) (hq1 : 1 ≤ q) (hq : q ≤ 9999) :
    Calls Tryz.prog 16 #[.slice ao n c, .int .i64 (k : Int), .int .i64 (q : Int), .agg #[.bool true, .bool false, .slice xp xn xc], .bool ah] w fun e w' => EfQ (ptM l k q false (ptT false X) ah).1 (ptM l k q false (ptT false X) ah).2 w e w' := by
  obtain ⟨x, hx⟩ : ∃ x, ptM l k q false (ptT false X) ah = x := ⟨_, rfl⟩
  rw [hx]
  have HPX := Hid.mk' hx
  clear hx
  obtain ⟨W1, hW1⟩ : ∃ x, (w.alloc (.cells #[.bool true, .bool false, .slice xp xn xc] 33)).alloc (.cells #[.slice none 0 0, .int .i64 0, .bool false, .bool false, .slice none 0 0, .int .i64 0, .bool false] 35) = x := ⟨_, rfl⟩
  have T1 : Hid (Pob w W1 true false (.slice xp xn xc)) := by unfold Hid; rw [← hW1]; exact Pob.new w _ _ _
  have HT1 := Hid.mk' (HT.out.keep T1.out.bel)
  have HX1 := Hid.mk' (HX.out.keep T1.out.bel)
  obtain ⟨B, hB⟩ : ∃ b, w.heap.size = b := ⟨_, rfl⟩
  have HB := Hid.mk' hB
  have K1 : Hid (Blk W1 B 33 (rrC true false (.slice xp xn xc))) := by unfold Hid; rw [← hB]; exact T1.out.rg
  have J1 : Hid (Blk W1 (B + 1) 35 (ef7 (.slice none 0 0) 0 false false (.slice none 0 0) 0 false)) := by unfold Hid; rw [← hB]; exact T1.out.ef
  have L1 := Hid.mk' T1.out.bel
  have hp9 : decide (0 ≤ (k : Int) ∧ (k : Int) ≤ (n : Int)) = true := decide_eq_true (by omega)
  have hq9 : cntB (q : Int) = true := by unfold cntB; rw [decide_eq_true (by omega), decide_eq_true (by omega)]; rfl
  have CC := Hid.mk' (clone_any xp xn xc X W1 (by omega) HX1.out)
  have HXL := Hid.mk' HX.out.len
  have hqz : ((q : Int) == 0) = false := beq_eq_false_iff_ne.2 (by omega)
  have hqz2 : ¬ (q : Int) = 0 := by omega
  have hqz3 : ¬ q = 0 := by omega
  have hqn : Int.tdiv 65536 (q : Int) = ((65536 / q : Nat) : Int) := quo_nat q
  have hqb : 65536 / q ≤ 65536 := Nat.div_le_self _ _
  obtain ⟨qu, hqu⟩ : ∃ qu, 65536 / q = qu := ⟨_, rfl⟩
  have HQM : Hid (qu * q ≤ 65536) := by unfold Hid; rw [← hqu]; exact Nat.div_mul_le_self 65536 q
  rw [hqu] at hqn hqb
  have HQU := Hid.mk' hqu
  clear hqu
  have hwq : IntKind.i64.wrap (qu : Int) = (qu : Int) := by rw [IntKind.wrap_i64]; omega
  obtain ⟨c0, c1, c2⟩ := rrC_cells K1.out
  go_enter Tryz.func16, Tryz.ntmps16
  go_upto_region 1 with fail
  clear hW1 hB T1 HT HX
  go_upto_region 5 with (first | (go_at_call 36; have CP := oplace_any ao n c (k : Int) W1; rw [hp9] at CP; refine CP.mono ?_; rintro e w' ⟨rfl, hw⟩; have hq := hw.symm; subst hq; clear hw CP) | (go_at_call 37; have CP := ocount_any (q : Int) W1; rw [hq9] at CP; refine CP.mono ?_; rintro e w' ⟨rfl, hw⟩; have hq := hw.symm; subst hq; clear hw CP) | fail)
  go_wp2_with fail
  refine CC.out.mono ?_
  rintro e w2 ⟨v2, rfl, hO2, hb2⟩
  obtain ⟨yp, yc, rfl⟩ := own_shape hO2
  have O2 := Hid.mk' hO2
  have hW2 : Wb w2 W1.heap.size w2.heap.size (.slice yp xn yc) X := Wb.new hO2
  have J2 := Hid.mk' (J1.out.keep hb2)
  have K2 := Hid.mk' (K1.out.keep hb2)
  have B2 := Hid.mk' hb2
  have HW2 := Hid.mk' (hW2)
  clear hW2 hb2 hO2 CC c0 c1 c2
  obtain ⟨c0, c1, c2⟩ := rrC_cells K2.out
  dsimp only
  obtain ⟨Y, hY⟩ : ∃ Y, X = Y := ⟨_, rfl⟩
  obtain ⟨yn, hyn⟩ : ∃ yn, xn = yn := ⟨_, rfl⟩
  have HYE : Hid (ptT false X = Y) := by unfold Hid ptT; rw [if_neg (by simp)]; exact hY
  have HYN : Hid (yn = Y.length) := by unfold Hid; rw [← hY, ← hyn]; exact HXL.out.symm
  rw [hY] at HW2
  rw [hyn] at HW2 ⊢
  have HYW := HW2
  clear HX1
  go_upto_region 8 with fail
  by_cases hlo : qu < yn
  · have hlo' : (qu : Int) < (yn : Int) := by omega
    have HP2 : Hid ((ef0, (1 : Int)) = x) := by unfold Hid; rw [← HPX.out, HYE.out]; unfold ptM; rw [HQU.out, ← HYN.out, if_pos hlo]
    go_upto_region 9 with fail
    obtain ⟨j0, j1, j2, j3, j4, j5, j6⟩ := ef_cells J2.out
    obtain ⟨f0, f1, f2, f3, f4, f5, f6⟩ := ef_frozen J2.out
    have hbk := ef_store J2.out (.slice none 0 0) (.int .i64 0) (.bool false) (.bool false) (.slice none 0 0) (.int .i64 0) (.bool false)
    have hgr := ef_grown w2 (B + 1) (.slice none 0 0) (.int .i64 0) (.bool false) (.bool false) (.slice none 0 0) (.int .i64 0) (.bool false)
    go_wp2_with fail
    generalize (((((((w2.setCell ⟨B + 1, 0, none⟩ (.slice none 0 0)).setCell ⟨B + 1, 1, none⟩ (.int .i64 0)).setCell ⟨B + 1, 2, none⟩ (.bool false)).setCell ⟨B + 1, 3, none⟩ (.bool false)).setCell ⟨B + 1, 4, none⟩ (.slice none 0 0)).setCell ⟨B + 1, 5, none⟩ (.int .i64 0)).setCell ⟨B + 1, 6, none⟩ (.bool false)) = w9 at *
    obtain ⟨g0, g1, g2, g3, g4, g5, g6⟩ := ef_cells hbk
    obtain rfl := HP2.out
    refine bodyPost_ret (v := .tuple #[efz, .int .i64 1]) (by simp [results, efz, Tryz.results16, go_sem, g0, g1, g2, g3, g4, g5, g6]) rfl (EfQ.no ?_)
    exact (bT L1.out B2.out).grown hgr (bT L1.out B2.out).size (fun g hg => by injection hg with hg; rw [← hg, HB.out]; exact Nat.le_succ B)
  · have hlo' : ¬ (qu : Int) < (yn : Int) := by omega
    have hmul : yn * q ≤ 65536 := Nat.le_trans (Nat.mul_le_mul_right q (Nat.le_of_not_lt hlo)) HQM.out
    have hyn : yn ≤ 65536 := Nat.le_trans (Nat.le_of_not_lt hlo) hqb
    have HRL : Hid ((rp Y q).length = yn * q) := by unfold Hid; rw [rp_len, ← HYN.out]
    have CR := Hid.mk' (repeat_any yp yn yc q Y w2 (HYW.out.tx (by rw [← HYN.out]; omega)) hyn (by omega) hmul)
    have HP2 : Hid ((pbX l k (rp Y q) ah, (0 : Int)) = x) := by unfold Hid; rw [← HPX.out, HYE.out]; unfold ptM; rw [HQU.out, ← HYN.out, if_neg hlo, if_neg (by decide)]
    obtain rfl := HP2.out
    go_upto_region 10 with fail
    go_wp2_with fail
    refine CR.out.mono ?_
    rintro e w5 ⟨v5, rfl, hW5, hb5⟩
    obtain ⟨p5, d5, rfl⟩ := hW5.shape
    have J5 := Hid.mk' (J2.out.keep hb5)
    have K5 := Hid.mk' (K2.out.keep hb5)
    have B5 := Hid.mk' (bT B2.out hb5)
    have CX := Hid.mk' (putBytes_any W1 ao n c k l p5 (rp Y q).length d5 (rp Y q) ah w5 (HT1.out.keep B5.out) hk hbig B5.out (hW5.wide B2.out.size (Nat.le_refl _)) (by have := HRL.out; omega))
    obtain ⟨x5, hx5⟩ : ∃ y, pbX l k (rp Y q) ah = y := ⟨_, rfl⟩
    rw [hx5] at CX
    have HX5 := Hid.mk' hx5
    clear hx5 hW5 hb5 CR c0 c1 c2
    obtain ⟨c0, c1, c2⟩ := rrC_cells K5.out
    generalize (rp Y q).length = rn at *
    dsimp only
    go_wp2_with fail
    refine CX.out.mono ?_
    rintro e w6 ⟨v, F, tv, rfl, hF, hM, hb6⟩
    obtain ⟨es, cur, sset, slin, txt, how, typ⟩ := x5
    obtain ⟨eo, ec, rfl, -, -⟩ := hM.eds.edz
    obtain ⟨to', tc, rfl⟩ := hM.tx.shape
    have J6 := Hid.mk' (J1.out.keep hb6)
    have HF := Hid.mk' hF
    have HM := Hid.mk' hM
    have B6 := Hid.mk' hb6
    clear hF hM hb6 CX c0 c1 c2
    unfold efV
    dsimp only
    obtain ⟨j0, j1, j2, j3, j4, j5, j6⟩ := ef_cells J6.out
    obtain ⟨f0, f1, f2, f3, f4, f5, f6⟩ := ef_frozen J6.out
    have hbk := ef_store J6.out (.slice eo F.length ec) (.int .i64 cur) (.bool sset) (.bool slin) (.slice to' txt.length tc) (.int .i64 how) (.bool typ)
    have hgr := ef_grown w6 (B + 1) (.slice eo F.length ec) (.int .i64 cur) (.bool sset) (.bool slin) (.slice to' txt.length tc) (.int .i64 how) (.bool typ)
    go_wp2_with fail
    generalize (((((((w6.setCell ⟨B + 1, 0, none⟩ (.slice eo F.length ec)).setCell ⟨B + 1, 1, none⟩ (.int .i64 cur)).setCell ⟨B + 1, 2, none⟩ (.bool sset)).setCell ⟨B + 1, 3, none⟩ (.bool slin)).setCell ⟨B + 1, 4, none⟩ (.slice to' txt.length tc)).setCell ⟨B + 1, 5, none⟩ (.int .i64 how)).setCell ⟨B + 1, 6, none⟩ (.bool typ)) = w9 at *
    obtain ⟨g0, g1, g2, g3, g4, g5, g6⟩ := ef_cells hbk
    refine bodyPost_ret (v := .tuple #[.agg #[.slice eo F.length ec, .int .i64 cur, .bool sset, .bool slin, .slice to' txt.length tc, .int .i64 how, .bool typ], .int .i64 0]) (by simp [results, Tryz.results16, go_sem, g0, g1, g2, g3, g4, g5, g6]) rfl ?_
    show EfQ (pbX l k (rp Y q) ah) 0 w _ w9
    rw [HX5.out]
    exact EfQ.out (x := ⟨es, cur, sset, slin, txt, how, typ⟩) HF.out HM.out L1.out B6.out hgr J1.out.lt (by have := HB.out; omega)
  
set_option maxHeartbeats 8000000 in
set_option linter.unusedSimpArgs false in
theorem put_ln (ao : Option Addr) (n c k q : Nat) (l : List UInt8) (xp : Option Addr) (xn xc : Nat) (X : List UInt8) (ah : Bool) (w : World) (HT : Hid (Tx w ao n c l)) (HX : Hid (Tx w xp xn xc X)) (hk : k ≤ n) (hbig : n ≤ 1048576) (hxn : xn ≤ 140737488351232) (hq1 : 1 ≤ q) (hq : q ≤ 9999) (hlk : lack X = false) :
    Calls Tryz.prog 16 #[.slice ao n c, .int .i64 (k : Int), .int .i64 (q : Int), .agg #[.bool true, .bool true, .slice xp xn xc], .bool ah] w fun e w' => EfQ (ptM l k q true (ptT true X) ah).1 (ptM l k q true (ptT true X) ah).2 w e w' := by
  obtain ⟨x, hx⟩ : ∃ x, ptM l k q true (ptT true X) ah = x := ⟨_, rfl⟩
  rw [hx]
  have HPX := Hid.mk' hx
  clear hx
  obtain ⟨W1, hW1⟩ : ∃ x, (w.alloc (.cells #[.bool true, .bool true, .slice xp xn xc] 33)).alloc (.cells #[.slice none 0 0, .int .i64 0, .bool false, .bool false, .slice none 0 0, .int .i64 0, .bool false] 35) = x := ⟨_, rfl⟩
  have T1 : Hid (Pob w W1 true true (.slice xp xn xc)) := by unfold Hid; rw [← hW1]; exact Pob.new w _ _ _
  have HT1 := Hid.mk' (HT.out.keep T1.out.bel)
  have HX1 := Hid.mk' (HX.out.keep T1.out.bel)
  obtain ⟨B, hB⟩ : ∃ b, w.heap.size = b := ⟨_, rfl⟩
  have HB := Hid.mk' hB
  have K1 : Hid (Blk W1 B 33 (rrC true true (.slice xp xn xc))) := by unfold Hid; rw [← hB]; exact T1.out.rg
  have J1 : Hid (Blk W1 (B + 1) 35 (ef7 (.slice none 0 0) 0 false false (.slice none 0 0) 0 false)) := by unfold Hid; rw [← hB]; exact T1.out.ef
  have L1 := Hid.mk' T1.out.bel
  have hp9 : decide (0 ≤ (k : Int) ∧ (k : Int) ≤ (n : Int)) = true := decide_eq_true (by omega)
  have hq9 : cntB (q : Int) = true := by unfold cntB; rw [decide_eq_true (by omega), decide_eq_true (by omega)]; rfl
  have CC := Hid.mk' (clone_any xp xn xc X W1 (by omega) HX1.out)
  have HXL := Hid.mk' HX.out.len
  have hqz : ((q : Int) == 0) = false := beq_eq_false_iff_ne.2 (by omega)
  have hqz2 : ¬ (q : Int) = 0 := by omega
  have hqz3 : ¬ q = 0 := by omega
  have hqn : Int.tdiv 65536 (q : Int) = ((65536 / q : Nat) : Int) := quo_nat q
  have hqb : 65536 / q ≤ 65536 := Nat.div_le_self _ _
  obtain ⟨qu, hqu⟩ : ∃ qu, 65536 / q = qu := ⟨_, rfl⟩
  have HQM : Hid (qu * q ≤ 65536) := by unfold Hid; rw [← hqu]; exact Nat.div_mul_le_self 65536 q
  rw [hqu] at hqn hqb
  have HQU := Hid.mk' hqu
  clear hqu
  have hwq : IntKind.i64.wrap (qu : Int) = (qu : Int) := by rw [IntKind.wrap_i64]; omega
  obtain ⟨c0, c1, c2⟩ := rrC_cells K1.out
  go_enter Tryz.func16, Tryz.ntmps16
  go_upto_region 1 with fail
  clear hW1 hB T1 HT HX
  go_upto_region 5 with (first | (go_at_call 36; have CP := oplace_any ao n c (k : Int) W1; rw [hp9] at CP; refine CP.mono ?_; rintro e w' ⟨rfl, hw⟩; have hq := hw.symm; subst hq; clear hw CP) | (go_at_call 37; have CP := ocount_any (q : Int) W1; rw [hq9] at CP; refine CP.mono ?_; rintro e w' ⟨rfl, hw⟩; have hq := hw.symm; subst hq; clear hw CP) | fail)
  go_wp2_with fail
  refine CC.out.mono ?_
  rintro e w2 ⟨v2, rfl, hO2, hb2⟩
  obtain ⟨yp, yc, rfl⟩ := own_shape hO2
  have O2 := Hid.mk' hO2
  have hW2 : Wb w2 W1.heap.size w2.heap.size (.slice yp xn yc) X := Wb.new hO2
  have J2 := Hid.mk' (J1.out.keep hb2)
  have K2 := Hid.mk' (K1.out.keep hb2)
  have B2 := Hid.mk' hb2
  have HW2 := Hid.mk' (hW2)
  clear hW2 hb2 hO2 CC c0 c1 c2
  obtain ⟨c0, c1, c2⟩ := rrC_cells K2.out
  dsimp only
  obtain ⟨Y, hY⟩ : ∃ Y, X = Y := ⟨_, rfl⟩
  obtain ⟨yn, hyn⟩ : ∃ yn, xn = yn := ⟨_, rfl⟩
  have HYE : Hid (ptT true X = Y) := by unfold Hid ptT; rw [if_neg (by simp [hlk])]; exact hY
  have HYN : Hid (yn = Y.length) := by unfold Hid; rw [← hY, ← hyn]; exact HXL.out.symm
  have HTX := Hid.mk' (HW2.out.tx (by rw [HXL.out]; omega))
  have CSF := Hid.mk' (suffix_any yp xn yc w2.heap.size X (w2.alloc (.cells #[.int .u8 10] 5)) (HTX.out.keep (bAlloc (Below.refl _ _) _)) (Blk.new w2 5 _))
  rw [hlk] at CSF
  have HY1 : Hid (1 ≤ Y.length) := by
    unfold Hid
    rw [← hY]
    cases X with
    | nil => rw [lack_nil] at hlk; cases hlk
    | cons a b => simp
  rw [hY] at HW2
  rw [hyn] at HW2 CSF ⊢
  clear hlk HX1 HTX
  go_upto_region 8 with (first | (go_at_call 47; refine CSF.out.mono ?_; rintro e w' ⟨rfl, hw⟩; have hq := hw.symm; subst hq; clear hw) | fail)
  obtain ⟨w3, hw3⟩ : ∃ w3, w2.alloc (.cells #[.int .u8 10] 5) = w3 := ⟨_, rfl⟩
  have hb3 : Below w2.heap.size w2 w3 := by rw [← hw3]; exact bAlloc (Below.refl _ _) _
  rw [hw3]
  have HYW : Hid (Wb w3 W1.heap.size w3.heap.size (.slice yp yn yc) Y) := (HW2.out.keep hb3).wide (Nat.le_refl _) hb3.size
  have J3 := Hid.mk' (J2.out.keep hb3)
  have K3 := Hid.mk' (K2.out.keep hb3)
  have B3 := Hid.mk' (bT B2.out hb3)
  clear hw3 hb3 HW2 CSF c0 c1 c2
  obtain ⟨c0, c1, c2⟩ := rrC_cells K3.out
  by_cases hlo : qu < yn
  · have hlo' : (qu : Int) < (yn : Int) := by omega
    have HP2 : Hid ((ef0, (1 : Int)) = x) := by unfold Hid; rw [← HPX.out, HYE.out]; unfold ptM; rw [HQU.out, ← HYN.out, if_pos hlo]
    go_upto_region 9 with fail
    obtain ⟨j0, j1, j2, j3, j4, j5, j6⟩ := ef_cells J3.out
    obtain ⟨f0, f1, f2, f3, f4, f5, f6⟩ := ef_frozen J3.out
    have hbk := ef_store J3.out (.slice none 0 0) (.int .i64 0) (.bool false) (.bool false) (.slice none 0 0) (.int .i64 0) (.bool false)
    have hgr := ef_grown w3 (B + 1) (.slice none 0 0) (.int .i64 0) (.bool false) (.bool false) (.slice none 0 0) (.int .i64 0) (.bool false)
    go_wp2_with fail
    generalize (((((((w3.setCell ⟨B + 1, 0, none⟩ (.slice none 0 0)).setCell ⟨B + 1, 1, none⟩ (.int .i64 0)).setCell ⟨B + 1, 2, none⟩ (.bool false)).setCell ⟨B + 1, 3, none⟩ (.bool false)).setCell ⟨B + 1, 4, none⟩ (.slice none 0 0)).setCell ⟨B + 1, 5, none⟩ (.int .i64 0)).setCell ⟨B + 1, 6, none⟩ (.bool false)) = w9 at *
    obtain ⟨g0, g1, g2, g3, g4, g5, g6⟩ := ef_cells hbk
    obtain rfl := HP2.out
    refine bodyPost_ret (v := .tuple #[efz, .int .i64 1]) (by simp [results, efz, Tryz.results16, go_sem, g0, g1, g2, g3, g4, g5, g6]) rfl (EfQ.no ?_)
    exact (bT L1.out B3.out).grown hgr (bT L1.out B3.out).size (fun g hg => by injection hg with hg; rw [← hg, HB.out]; exact Nat.le_succ B)
  · have hlo' : ¬ (qu : Int) < (yn : Int) := by omega
    have hmul : yn * q ≤ 65536 := Nat.le_trans (Nat.mul_le_mul_right q (Nat.le_of_not_lt hlo)) HQM.out
    have hyn : yn ≤ 65536 := Nat.le_trans (Nat.le_of_not_lt hlo) hqb
    have HRL : Hid ((rp Y q).length = yn * q) := by unfold Hid; rw [rp_len, ← HYN.out]
    have CR := Hid.mk' (repeat_any yp yn yc q Y w3 (HYW.out.tx (by rw [← HYN.out]; omega)) hyn (by omega) hmul)
    have HP2 : Hid ((plX l (plI l k ah) (rp Y q), (0 : Int)) = x) := by unfold Hid; rw [← HPX.out, HYE.out]; unfold ptM; rw [HQU.out, ← HYN.out, if_neg hlo, if_pos rfl]
    obtain rfl := HP2.out
    go_upto_region 10 with fail
    go_wp2_with fail
    refine CR.out.mono ?_
    rintro e w5 ⟨v5, rfl, hW5, hb5⟩
    obtain ⟨p5, d5, rfl⟩ := hW5.shape
    have J5 := Hid.mk' (J3.out.keep hb5)
    have K5 := Hid.mk' (K3.out.keep hb5)
    have B5 := Hid.mk' (bT B3.out hb5)
    have CX := Hid.mk' (putLines_any W1 ao n c k l p5 (rp Y q).length d5 (rp Y q) ah w5 (HT1.out.keep B5.out) hk hbig B5.out (hW5.wide B3.out.size (Nat.le_refl _)) (by have := HRL.out; omega) (rp_pos HY1.out hq1))
    obtain ⟨x5, hx5⟩ : ∃ y, plX l (plI l k ah) (rp Y q) = y := ⟨_, rfl⟩
    rw [hx5] at CX
    have HX5 := Hid.mk' hx5
    clear hx5 hW5 hb5 CR c0 c1 c2
    obtain ⟨c0, c1, c2⟩ := rrC_cells K5.out
    generalize (rp Y q).length = rn at *
    dsimp only
    go_wp2_with fail
    refine CX.out.mono ?_
    rintro e w6 ⟨v, F, tv, rfl, hF, hM, hb6⟩
    obtain ⟨es, cur, sset, slin, txt, how, typ⟩ := x5
    obtain ⟨eo, ec, rfl, -, -⟩ := hM.eds.edz
    obtain ⟨to', tc, rfl⟩ := hM.tx.shape
    have J6 := Hid.mk' (J1.out.keep hb6)
    have HF := Hid.mk' hF
    have HM := Hid.mk' hM
    have B6 := Hid.mk' hb6
    clear hF hM hb6 CX c0 c1 c2
    unfold efV
    dsimp only
    obtain ⟨j0, j1, j2, j3, j4, j5, j6⟩ := ef_cells J6.out
    obtain ⟨f0, f1, f2, f3, f4, f5, f6⟩ := ef_frozen J6.out
    have hbk := ef_store J6.out (.slice eo F.length ec) (.int .i64 cur) (.bool sset) (.bool slin) (.slice to' txt.length tc) (.int .i64 how) (.bool typ)
    have hgr := ef_grown w6 (B + 1) (.slice eo F.length ec) (.int .i64 cur) (.bool sset) (.bool slin) (.slice to' txt.length tc) (.int .i64 how) (.bool typ)
    go_wp2_with fail
    generalize (((((((w6.setCell ⟨B + 1, 0, none⟩ (.slice eo F.length ec)).setCell ⟨B + 1, 1, none⟩ (.int .i64 cur)).setCell ⟨B + 1, 2, none⟩ (.bool sset)).setCell ⟨B + 1, 3, none⟩ (.bool slin)).setCell ⟨B + 1, 4, none⟩ (.slice to' txt.length tc)).setCell ⟨B + 1, 5, none⟩ (.int .i64 how)).setCell ⟨B + 1, 6, none⟩ (.bool typ)) = w9 at *
    obtain ⟨g0, g1, g2, g3, g4, g5, g6⟩ := ef_cells hbk
    refine bodyPost_ret (v := .tuple #[.agg #[.slice eo F.length ec, .int .i64 cur, .bool sset, .bool slin, .slice to' txt.length tc, .int .i64 how, .bool typ], .int .i64 0]) (by simp [results, Tryz.results16, go_sem, g0, g1, g2, g3, g4, g5, g6]) rfl ?_
    show EfQ (plX l (plI l k ah) (rp Y q)) 0 w _ w9
    rw [HX5.out]
    exact EfQ.out (x := ⟨es, cur, sset, slin, txt, how, typ⟩) HF.out HM.out L1.out B6.out hgr J1.out.lt (by have := HB.out; omega)
  
set_option maxHeartbeats 8000000 in
set_option linter.unusedSimpArgs false in
theorem put_lk (ao : Option Addr) (n c k q : Nat) (l : List UInt8) (xp : Option Addr) (xn xc : Nat) (X : List UInt8) (ah : Bool) (w : World) (HT : Hid (Tx w ao n c l)) (HX : Hid (Tx w xp xn xc X)) (hk : k ≤ n) (hbig : n ≤ 1048576) (hxn : xn ≤ 140737488351232) (hq1 : 1 ≤ q) (hq : q ≤ 9999) (hlk : lack X = true) :
    Calls Tryz.prog 16 #[.slice ao n c, .int .i64 (k : Int), .int .i64 (q : Int), .agg #[.bool true, .bool true, .slice xp xn xc], .bool ah] w fun e w' => EfQ (ptM l k q true (ptT true X) ah).1 (ptM l k q true (ptT true X) ah).2 w e w' := by
  obtain ⟨x, hx⟩ : ∃ x, ptM l k q true (ptT true X) ah = x := ⟨_, rfl⟩
  rw [hx]
  have HPX := Hid.mk' hx
  clear hx
  obtain ⟨W1, hW1⟩ : ∃ x, (w.alloc (.cells #[.bool true, .bool true, .slice xp xn xc] 33)).alloc (.cells #[.slice none 0 0, .int .i64 0, .bool false, .bool false, .slice none 0 0, .int .i64 0, .bool false] 35) = x := ⟨_, rfl⟩
  have T1 : Hid (Pob w W1 true true (.slice xp xn xc)) := by unfold Hid; rw [← hW1]; exact Pob.new w _ _ _
  have HT1 := Hid.mk' (HT.out.keep T1.out.bel)
  have HX1 := Hid.mk' (HX.out.keep T1.out.bel)
  obtain ⟨B, hB⟩ : ∃ b, w.heap.size = b := ⟨_, rfl⟩
  have HB := Hid.mk' hB
  have K1 : Hid (Blk W1 B 33 (rrC true true (.slice xp xn xc))) := by unfold Hid; rw [← hB]; exact T1.out.rg
  have J1 : Hid (Blk W1 (B + 1) 35 (ef7 (.slice none 0 0) 0 false false (.slice none 0 0) 0 false)) := by unfold Hid; rw [← hB]; exact T1.out.ef
  have L1 := Hid.mk' T1.out.bel
  have hp9 : decide (0 ≤ (k : Int) ∧ (k : Int) ≤ (n : Int)) = true := decide_eq_true (by omega)
  have hq9 : cntB (q : Int) = true := by unfold cntB; rw [decide_eq_true (by omega), decide_eq_true (by omega)]; rfl
  have CC := Hid.mk' (clone_any xp xn xc X W1 (by omega) HX1.out)
  have HXL := Hid.mk' HX.out.len
  have hqz : ((q : Int) == 0) = false := beq_eq_false_iff_ne.2 (by omega)
  have hqz2 : ¬ (q : Int) = 0 := by omega
  have hqz3 : ¬ q = 0 := by omega
  have hqn : Int.tdiv 65536 (q : Int) = ((65536 / q : Nat) : Int) := quo_nat q
  have hqb : 65536 / q ≤ 65536 := Nat.div_le_self _ _
  obtain ⟨qu, hqu⟩ : ∃ qu, 65536 / q = qu := ⟨_, rfl⟩
  have HQM : Hid (qu * q ≤ 65536) := by unfold Hid; rw [← hqu]; exact Nat.div_mul_le_self 65536 q
  rw [hqu] at hqn hqb
  have HQU := Hid.mk' hqu
  clear hqu
  have hwq : IntKind.i64.wrap (qu : Int) = (qu : Int) := by rw [IntKind.wrap_i64]; omega
  obtain ⟨c0, c1, c2⟩ := rrC_cells K1.out
  go_enter Tryz.func16, Tryz.ntmps16
  go_upto_region 1 with fail
  clear hW1 hB T1 HT HX
  go_upto_region 5 with (first | (go_at_call 36; have CP := oplace_any ao n c (k : Int) W1; rw [hp9] at CP; refine CP.mono ?_; rintro e w' ⟨rfl, hw⟩; have hq := hw.symm; subst hq; clear hw CP) | (go_at_call 37; have CP := ocount_any (q : Int) W1; rw [hq9] at CP; refine CP.mono ?_; rintro e w' ⟨rfl, hw⟩; have hq := hw.symm; subst hq; clear hw CP) | fail)
  go_wp2_with fail
  refine CC.out.mono ?_
  rintro e w2 ⟨v2, rfl, hO2, hb2⟩
  obtain ⟨yp, yc, rfl⟩ := own_shape hO2
  have O2 := Hid.mk' hO2
  have hW2 : Wb w2 W1.heap.size w2.heap.size (.slice yp xn yc) X := Wb.new hO2
  have J2 := Hid.mk' (J1.out.keep hb2)
  have K2 := Hid.mk' (K1.out.keep hb2)
  have B2 := Hid.mk' hb2
  have HW2 := Hid.mk' (hW2)
  clear hW2 hb2 hO2 CC c0 c1 c2
  obtain ⟨c0, c1, c2⟩ := rrC_cells K2.out
  dsimp only
  have HTX := Hid.mk' (HW2.out.tx (by rw [HXL.out]; omega))
  have CSF := Hid.mk' (suffix_any yp xn yc w2.heap.size X (w2.alloc (.cells #[.int .u8 10] 5)) (HTX.out.keep (bAlloc (Below.refl _ _) _)) (Blk.new w2 5 _))
  rw [hlk] at CSF
  go_upto_region 7 with (first | (go_at_call 47; refine CSF.out.mono ?_; rintro e w' ⟨rfl, hw⟩; have hq := hw.symm; subst hq; clear hw) | fail)
  obtain ⟨w3, hw3⟩ : ∃ w3, w2.alloc (.cells #[.int .u8 10] 5) = w3 := ⟨_, rfl⟩
  have hb3 : Below w2.heap.size w2 w3 := by rw [← hw3]; exact bAlloc (Below.refl _ _) _
  rw [hw3]
  have O3 := Hid.mk' (own_keep (own_keep O2.out hb3) (bAlloc (Below.refl w3.heap.size w3) (.cells #[.int .u8 10] 5)))
  have J3 := Hid.mk' (J2.out.keep hb3)
  have K3 := Hid.mk' (K2.out.keep hb3)
  have B3 := Hid.mk' (bT B2.out hb3)
  clear hw3 hb3 CSF HTX
  go_wp2_with (at_builtin; refine append_big rfl (.tmp 40) (.tmp 41) rfl W1.heap.size (.slice yp xn yc) xn (bv X) rfl O3.out (.slice (some ⟨w3.heap.size, 0, none⟩) 1 1) 1 (bv [10]) rfl (ten_tx (Blk.new w3 5 _)).srv rfl (bv_one _) (by omega) (by omega) (Nat.le_trans B3.out.size (by rw [World.size_alloc]; omega)) ?_)
  intro v4 w4 hown hgrow _
  obtain ⟨zp, zc, rfl⟩ := own_shape hown
  have hb34 : Below w3.heap.size w3 (w3.alloc (.cells #[.int .u8 10] 5)) := bAlloc (Below.refl _ _) _
  have hlow : ∀ (u : World) (m : Nat), m ≤ W1.heap.size → Below m u w3 → Below m u w4 := fun u m hm hu => (hu.trans (hb34.mono (Nat.le_trans hm B3.out.size))).grown hgrow (Nat.le_trans hm (Nat.le_trans B3.out.size hb34.size)) (fun g hg => by
    have := (O3.out.lt g hg).1
    omega)
  obtain ⟨Y, hY⟩ : ∃ Y, X ++ [10] = Y := ⟨_, rfl⟩
  obtain ⟨yn, hyn⟩ : ∃ yn, xn + 1 = yn := ⟨_, rfl⟩
  have HYE : Hid (ptT true X = Y) := by unfold Hid ptT; rw [if_pos ⟨rfl, hlk⟩]; exact hY
  have HYN : Hid (yn = Y.length) := by unfold Hid; rw [← hY, ← hyn, List.length_append, HXL.out]; rfl
  have HY1 : Hid (1 ≤ Y.length) := by unfold Hid; rw [← hY, List.length_append]; simp
  rw [← bv_append, hY, hyn] at hown
  rw [hyn]
  have HYW : Hid (Wb w4 W1.heap.size w4.heap.size (.slice zp yn zc) Y) := Wb.of_own hown (fun g hg => (hown.lt g hg).2)
  have hk1 := hlow w3 W1.heap.size (Nat.le_refl _) (Below.refl _ _)
  have J4 : Hid (Blk w4 (B + 1) 35 (ef7 (.slice none 0 0) 0 false false (.slice none 0 0) 0 false)) := J3.out.low hk1 J1.out.lt
  have K4 : Hid (Blk w4 B 33 (rrC true true (.slice xp xn xc))) := K3.out.low hk1 K1.out.lt
  have B4 := Hid.mk' (hlow W1 W1.heap.size (Nat.le_refl _) B3.out)
  clear hown hgrow hlow hb34 hk1 hyn hY O3 c0 c1 c2 HX1 hlk
  obtain ⟨c0, c1, c2⟩ := rrC_cells K4.out
  go_upto_region 8 with fail
  by_cases hlo : qu < yn
  · have hlo' : (qu : Int) < (yn : Int) := by omega
    have HP2 : Hid ((ef0, (1 : Int)) = x) := by unfold Hid; rw [← HPX.out, HYE.out]; unfold ptM; rw [HQU.out, ← HYN.out, if_pos hlo]
    go_upto_region 9 with fail
    obtain ⟨j0, j1, j2, j3, j4, j5, j6⟩ := ef_cells J4.out
    obtain ⟨f0, f1, f2, f3, f4, f5, f6⟩ := ef_frozen J4.out
    have hbk := ef_store J4.out (.slice none 0 0) (.int .i64 0) (.bool false) (.bool false) (.slice none 0 0) (.int .i64 0) (.bool false)
    have hgr := ef_grown w4 (B + 1) (.slice none 0 0) (.int .i64 0) (.bool false) (.bool false) (.slice none 0 0) (.int .i64 0) (.bool false)
    go_wp2_with fail
    generalize (((((((w4.setCell ⟨B + 1, 0, none⟩ (.slice none 0 0)).setCell ⟨B + 1, 1, none⟩ (.int .i64 0)).setCell ⟨B + 1, 2, none⟩ (.bool false)).setCell ⟨B + 1, 3, none⟩ (.bool false)).setCell ⟨B + 1, 4, none⟩ (.slice none 0 0)).setCell ⟨B + 1, 5, none⟩ (.int .i64 0)).setCell ⟨B + 1, 6, none⟩ (.bool false)) = w9 at *
    obtain ⟨g0, g1, g2, g3, g4, g5, g6⟩ := ef_cells hbk
    obtain rfl := HP2.out
    refine bodyPost_ret (v := .tuple #[efz, .int .i64 1]) (by simp [results, efz, Tryz.results16, go_sem, g0, g1, g2, g3, g4, g5, g6]) rfl (EfQ.no ?_)
    exact (bT L1.out B4.out).grown hgr (bT L1.out B4.out).size (fun g hg => by injection hg with hg; rw [← hg, HB.out]; exact Nat.le_succ B)
  · have hlo' : ¬ (qu : Int) < (yn : Int) := by omega
    have hmul : yn * q ≤ 65536 := Nat.le_trans (Nat.mul_le_mul_right q (Nat.le_of_not_lt hlo)) HQM.out
    have hyn : yn ≤ 65536 := Nat.le_trans (Nat.le_of_not_lt hlo) hqb
    have HRL : Hid ((rp Y q).length = yn * q) := by unfold Hid; rw [rp_len, ← HYN.out]
    have CR := Hid.mk' (repeat_any zp yn zc q Y w4 (HYW.out.tx (by rw [← HYN.out]; omega)) hyn (by omega) hmul)
    have HP2 : Hid ((plX l (plI l k ah) (rp Y q), (0 : Int)) = x) := by unfold Hid; rw [← HPX.out, HYE.out]; unfold ptM; rw [HQU.out, ← HYN.out, if_neg hlo, if_pos rfl]
    obtain rfl := HP2.out
    go_upto_region 10 with fail
    go_wp2_with fail
    refine CR.out.mono ?_
    rintro e w5 ⟨v5, rfl, hW5, hb5⟩
    obtain ⟨p5, d5, rfl⟩ := hW5.shape
    have J5 := Hid.mk' (J4.out.keep hb5)
    have K5 := Hid.mk' (K4.out.keep hb5)
    have B5 := Hid.mk' (bT B4.out hb5)
    have CX := Hid.mk' (putLines_any W1 ao n c k l p5 (rp Y q).length d5 (rp Y q) ah w5 (HT1.out.keep B5.out) hk hbig B5.out (hW5.wide B4.out.size (Nat.le_refl _)) (by have := HRL.out; omega) (rp_pos HY1.out hq1))
    obtain ⟨x5, hx5⟩ : ∃ y, plX l (plI l k ah) (rp Y q) = y := ⟨_, rfl⟩
    rw [hx5] at CX
    have HX5 := Hid.mk' hx5
    clear hx5 hW5 hb5 CR c0 c1 c2
    obtain ⟨c0, c1, c2⟩ := rrC_cells K5.out
    generalize (rp Y q).length = rn at *
    dsimp only
    go_wp2_with fail
    refine CX.out.mono ?_
    rintro e w6 ⟨v, F, tv, rfl, hF, hM, hb6⟩
    obtain ⟨es, cur, sset, slin, txt, how, typ⟩ := x5
    obtain ⟨eo, ec, rfl, -, -⟩ := hM.eds.edz
    obtain ⟨to', tc, rfl⟩ := hM.tx.shape
    have J6 := Hid.mk' (J1.out.keep hb6)
    have HF := Hid.mk' hF
    have HM := Hid.mk' hM
    have B6 := Hid.mk' hb6
    clear hF hM hb6 CX c0 c1 c2
    unfold efV
    dsimp only
    obtain ⟨j0, j1, j2, j3, j4, j5, j6⟩ := ef_cells J6.out
    obtain ⟨f0, f1, f2, f3, f4, f5, f6⟩ := ef_frozen J6.out
    have hbk := ef_store J6.out (.slice eo F.length ec) (.int .i64 cur) (.bool sset) (.bool slin) (.slice to' txt.length tc) (.int .i64 how) (.bool typ)
    have hgr := ef_grown w6 (B + 1) (.slice eo F.length ec) (.int .i64 cur) (.bool sset) (.bool slin) (.slice to' txt.length tc) (.int .i64 how) (.bool typ)
    go_wp2_with fail
    generalize (((((((w6.setCell ⟨B + 1, 0, none⟩ (.slice eo F.length ec)).setCell ⟨B + 1, 1, none⟩ (.int .i64 cur)).setCell ⟨B + 1, 2, none⟩ (.bool sset)).setCell ⟨B + 1, 3, none⟩ (.bool slin)).setCell ⟨B + 1, 4, none⟩ (.slice to' txt.length tc)).setCell ⟨B + 1, 5, none⟩ (.int .i64 how)).setCell ⟨B + 1, 6, none⟩ (.bool typ)) = w9 at *
    obtain ⟨g0, g1, g2, g3, g4, g5, g6⟩ := ef_cells hbk
    refine bodyPost_ret (v := .tuple #[.agg #[.slice eo F.length ec, .int .i64 cur, .bool sset, .bool slin, .slice to' txt.length tc, .int .i64 how, .bool typ], .int .i64 0]) (by simp [results, Tryz.results16, go_sem, g0, g1, g2, g3, g4, g5, g6]) rfl ?_
    show EfQ (plX l (plI l k ah) (rp Y q)) 0 w _ w9
    rw [HX5.out]
    exact EfQ.out (x := ⟨es, cur, sset, slin, txt, how, typ⟩) HF.out HM.out L1.out B6.out hgr J1.out.lt (by have := HB.out; omega)
  
theorem put_any (ao : Option Addr) (n c : Nat) (l : List UInt8) (at' q : Int) (set lin : Bool) (xp : Option Addr) (xn xc : Nat) (X : List UInt8) (ah : Bool) (w : World) (HT : Hid (Tx w ao n c l)) (HX : Hid (Tx w xp xn xc X)) (hbig : n ≤ 1048576) (hxn : xn ≤ 140737488351232) :
    Calls Tryz.prog 16 #[.slice ao n c, .int .i64 at', .int .i64 q, .agg #[.bool set, .bool lin, .slice xp xn xc], .bool ah] w fun e w' => EfQ (ptX l at' q set lin X ah).1 (ptX l at' q set lin X ah).2 w e w' := by
  have hln := HT.out.len
  unfold ptX
  rw [hln]
  by_cases h : (0 ≤ at' ∧ at' ≤ (n : Int)) ∧ cntB q = true
  · rw [if_neg (by simp [h])]
    cases set with
    | false =>
      rw [if_pos rfl]
      exact put_empty ao n c l at' q false lin xp xn xc X ah w HT HX h.1 h.2 rfl
    | true =>
      rw [if_neg (by simp)]
      have hq2 : 1 ≤ q ∧ q ≤ 9999 := by have := h.2; unfold cntB at this; simp at this; exact this
      obtain ⟨k, rfl⟩ := Int.eq_ofNat_of_zero_le h.1.1
      obtain ⟨q, rfl⟩ := Int.eq_ofNat_of_zero_le (show 0 ≤ q by omega)
      cases lin with
      | false => exact put_bn ao n c k q l xp xn xc X ah w HT HX (by omega) hbig hxn (by omega) (by omega)
      | true =>
        cases hlk : lack X with
        | false => exact put_ln ao n c k q l xp xn xc X ah w HT HX (by omega) hbig hxn (by omega) (by omega) hlk
        | true => exact put_lk ao n c k q l xp xn xc X ah w HT HX (by omega) hbig hxn (by omega) (by omega) hlk
  · rw [if_pos h]
    exact put_args ao n c l at' q set lin xp xn xc X ah w HT HX h
end Go.Proofs.YtppefcnopkmhbaaGreatDoor
