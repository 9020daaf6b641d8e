/- Ovr -/
import Derived.Test.YtppefcnopkmhbaaGreatDoorPs18
namespace Go.Proofs.YtppefcnopkmhbaaGreatDoor
open Go.RowKit

set_option maxRecDepth 8000
/-- Over, its place and count known to be right -/
def ovM (l : List UInt8) (k q : Nat) (b : UInt8) : Ef × Int :=
  if ow l k < q then (ef0, 190)
  else if b = 10 ∨ b = 13 then (⟨sw l k (k + q) [10], (k : Int) + 1, false, false, [], 0, false⟩, 0)
  else (⟨sw l k (k + q) (rp [b] q), (k : Int) + (q : Int) - 1, false, false, [], 0, false⟩, 0)
def ovX (l : List UInt8) (at' q : Int) (b : UInt8) : Ef × Int :=
  if ¬ ((0 ≤ at' ∧ at' ≤ (l.length : Int)) ∧ cntB q = true) then (ef0, 2) else ovM l at'.toNat q.toNat b
/-- Turn -/
def tuM (l : List UInt8) (k q : Nat) : Ef × Int :=
  if ow l k = 0 then (ef0, 190)
  else (⟨sw l k (k + min q (ow l k)) ((sl l k (k + min q (ow l k))).map (tw tgB)), ((k + min q (ow l k) : Nat) : Int), false, false, [], 0, false⟩, 0)
def tuX (l : List UInt8) (at' q : Int) : Ef × Int :=
  if ¬ ((0 ≤ at' ∧ at' ≤ (l.length : Int)) ∧ cntB q = true) then (ef0, 2) else tuM l at'.toNat q.toNat
theorem one_own (W : World) (b : UInt8) : (W.alloc (.cells #[.int .u8 (b.toNat : Int)] 5)).ownsRow W.heap.size 5 1 (.slice (some ⟨W.heap.size, 0, none⟩) 1 1) 1 (bv [b]) :=
  ⟨rfl, .inr ⟨W.heap.size, 1, _, rfl, Nat.le_refl _, Blk.new W 5 _, Nat.le_refl _, by unfold maxLen; omega, rfl, rfl⟩⟩
theorem u8_is (b : UInt8) (k : Nat) (h : k < 256) : ((b.toNat : Int) == (k : Int)) = decide (b = UInt8.ofNat k) := by
  rw [Bool.eq_iff_iff]
  simp only [beq_iff_eq, decide_eq_true_eq]
  constructor
  · intro h2
    apply UInt8.toNat_inj.1
    rw [UInt8.toNat_ofNat']
    omega
  · intro h2
    rw [h2, UInt8.toNat_ofNat']
    omega
set_option maxHeartbeats 8000000 in
set_option linter.unusedSimpArgs false in
theorem over_args (ao : Option Addr) (n c : Nat) (l : List UInt8) (at' q : Int) (b : UInt8) (w : World) (HT : Hid (Tx w ao n c l)) (h : ¬ ((0 ≤ at' ∧ at' ≤ (n : Int)) ∧ cntB q = true)) :
    Calls Tryz.prog 54 #[.slice ao n c, .int .i64 at', .int .i64 q, .int .u8 (b.toNat : Int)] w fun e w' => EfQ ef0 2 w e w' := by
  obtain ⟨W1, hW1⟩ : ∃ x, w.alloc (.cells #[.slice none 0 0, .int .i64 0, .bool false, .bool false, .slice none 0 0, .int .i64 0, .bool false] 35) = x := ⟨_, rfl⟩
  obtain ⟨B, hB⟩ : ∃ b, w.heap.size = b := ⟨_, rfl⟩
  have HB := Hid.mk' hB
  have J1 : Hid (Blk W1 B 35 (ef7 (.slice none 0 0) 0 false false (.slice none 0 0) 0 false)) := by unfold Hid; rw [← hW1, ← hB]; exact Blk.new w 35 _
  have L1 : Hid (Below w.heap.size w W1) := by unfold Hid; rw [← hW1]; exact bAlloc (Below.refl _ _) _
  have HT1 := Hid.mk' (HT.out.keep L1.out)
  have HLN := Hid.mk' HT.out.len
  by_cases hp : (0 ≤ at' ∧ at' ≤ (n : Int))
  · have hq9 : cntB q = false := by
      cases e : cntB q with
      | true => exact absurd ⟨hp, e⟩ h
      | false => rfl
    have hp9 : decide (0 ≤ at' ∧ at' ≤ (n : Int)) = true := decide_eq_true hp
    go_enter Tryz.func54, Tryz.ntmps54
    go_upto_region 1 with fail
    clear hW1 hB HT
    go_upto_region 2 with (first | (go_at_call 36; have CP := oplace_any ao n c at' W1; rw [hp9] at CP; refine CP.mono ?_; rintro e w' ⟨rfl, hw⟩; have hq := hw.symm; subst hq; clear hw CP) | (go_at_call 37; have CP := ocount_any q W1; rw [hq9] at CP; refine CP.mono ?_; rintro e w' ⟨rfl, hw⟩; have hq := hw.symm; subst hq; clear hw CP) | fail)
    obtain ⟨j0, j1, j2, j3, j4, j5, j6⟩ := ef_cells J1.out
    obtain ⟨f0, f1, f2, f3, f4, f5, f6⟩ := ef_frozen J1.out
    have hbk := ef_store J1.out (.slice none 0 0) (.int .i64 0) (.bool false) (.bool false) (.slice none 0 0) (.int .i64 0) (.bool false)
    have hgr := ef_grown W1 B (.slice none 0 0) (.int .i64 0) (.bool false) (.bool false) (.slice none 0 0) (.int .i64 0) (.bool false)
    go_wp2_with fail
    generalize (((((((W1.setCell ⟨B, 0, none⟩ (.slice none 0 0)).setCell ⟨B, 1, none⟩ (.int .i64 0)).setCell ⟨B, 2, none⟩ (.bool false)).setCell ⟨B, 3, none⟩ (.bool false)).setCell ⟨B, 4, none⟩ (.slice none 0 0)).setCell ⟨B, 5, none⟩ (.int .i64 0)).setCell ⟨B, 6, none⟩ (.bool false)) = w9 at *
    obtain ⟨g0, g1, g2, g3, g4, g5, g6⟩ := ef_cells hbk
    refine bodyPost_ret (v := .tuple #[efz, .int .i64 2]) (by simp [results, efz, Tryz.results54, go_sem, g0, g1, g2, g3, g4, g5, g6]) rfl (EfQ.no ?_)
    exact (L1.out).grown hgr (L1.out).size (fun g hg => by injection hg with hg; rw [← hg, HB.out]; exact Nat.le_refl B)
  · have hp9 : decide (0 ≤ at' ∧ at' ≤ (n : Int)) = false := decide_eq_false hp
    go_enter Tryz.func54, Tryz.ntmps54
    go_upto_region 1 with fail
    clear hW1 hB HT
    go_upto_region 2 with (first | (go_at_call 36; have CP := oplace_any ao n c at' W1; rw [hp9] at CP; refine CP.mono ?_; rintro e w' ⟨rfl, hw⟩; have hq := hw.symm; subst hq; clear hw CP) | (go_at_call 37; have CP := ocount_any q W1; rw [hq9] at CP; refine CP.mono ?_; rintro e w' ⟨rfl, hw⟩; have hq := hw.symm; subst hq; clear hw CP) | fail)
    obtain ⟨j0, j1, j2, j3, j4, j5, j6⟩ := ef_cells J1.out
    obtain ⟨f0, f1, f2, f3, f4, f5, f6⟩ := ef_frozen J1.out
    have hbk := ef_store J1.out (.slice none 0 0) (.int .i64 0) (.bool false) (.bool false) (.slice none 0 0) (.int .i64 0) (.bool false)
    have hgr := ef_grown W1 B (.slice none 0 0) (.int .i64 0) (.bool false) (.bool false) (.slice none 0 0) (.int .i64 0) (.bool false)
    go_wp2_with fail
    generalize (((((((W1.setCell ⟨B, 0, none⟩ (.slice none 0 0)).setCell ⟨B, 1, none⟩ (.int .i64 0)).setCell ⟨B, 2, none⟩ (.bool false)).setCell ⟨B, 3, none⟩ (.bool false)).setCell ⟨B, 4, none⟩ (.slice none 0 0)).setCell ⟨B, 5, none⟩ (.int .i64 0)).setCell ⟨B, 6, none⟩ (.bool false)) = w9 at *
    obtain ⟨g0, g1, g2, g3, g4, g5, g6⟩ := ef_cells hbk
    refine bodyPost_ret (v := .tuple #[efz, .int .i64 2]) (by simp [results, efz, Tryz.results54, go_sem, g0, g1, g2, g3, g4, g5, g6]) rfl (EfQ.no ?_)
    exact (L1.out).grown hgr (L1.out).size (fun g hg => by injection hg with hg; rw [← hg, HB.out]; exact Nat.le_refl B)
set_option maxHeartbeats 8000000 in
set_option linter.unusedSimpArgs false in
theorem over_none (ao : Option Addr) (n c k q : Nat) (l : List UInt8) (b : UInt8) (w : World) (HT : Hid (Tx w ao n c l)) (hk : k ≤ n) (_hbig : n ≤ 1048576) (hq1 : 1 ≤ q) (hq : q ≤ 9999) (hlt : ow l k < q) :
    Calls Tryz.prog 54 #[.slice ao n c, .int .i64 (k : Int), .int .i64 (q : Int), .int .u8 (b.toNat : Int)] w fun e w' => EfQ ef0 190 w e w' := by
  obtain ⟨W1, hW1⟩ : ∃ x, w.alloc (.cells #[.slice none 0 0, .int .i64 0, .bool false, .bool false, .slice none 0 0, .int .i64 0, .bool false] 35) = x := ⟨_, rfl⟩
  obtain ⟨B, hB⟩ : ∃ b, w.heap.size = b := ⟨_, rfl⟩
  have HB := Hid.mk' hB
  have J1 : Hid (Blk W1 B 35 (ef7 (.slice none 0 0) 0 false false (.slice none 0 0) 0 false)) := by unfold Hid; rw [← hW1, ← hB]; exact Blk.new w 35 _
  have L1 : Hid (Below w.heap.size w W1) := by unfold Hid; rw [← hW1]; exact bAlloc (Below.refl _ _) _
  have HT1 := Hid.mk' (HT.out.keep L1.out)
  have HLN := Hid.mk' HT.out.len
  have hp9 : decide (0 ≤ (k : Int) ∧ (k : Int) ≤ (n : Int)) = true := decide_eq_true (by omega)
  have hq9 : cntB (q : Int) = true := by unfold cntB; rw [decide_eq_true (by omega), decide_eq_true (by omega)]; rfl
  have CO := Hid.mk' (onward_any ao n c k l W1 hk HT1.out)
  have hlt' : (ow l k : Int) < (q : Int) := by omega
  generalize ow l k = m at *
  go_enter Tryz.func54, Tryz.ntmps54
  go_upto_region 1 with fail
  clear hW1 hB HT
  go_upto_region 4 with (first | (go_at_call 36; have CP := oplace_any ao n c (k : Int) W1; rw [hp9] at CP; refine CP.mono ?_; rintro e w' ⟨rfl, hw⟩; have hq := hw.symm; subst hq; clear hw CP) | (go_at_call 37; have CP := ocount_any (q : Int) W1; rw [hq9] at CP; refine CP.mono ?_; rintro e w' ⟨rfl, hw⟩; have hq := hw.symm; subst hq; clear hw CP) | (go_at_call 88; refine CO.out.mono ?_; rintro e w' ⟨rfl, hw⟩; have hq := hw.symm; subst hq; clear hw) | fail)
  obtain ⟨j0, j1, j2, j3, j4, j5, j6⟩ := ef_cells J1.out
  obtain ⟨f0, f1, f2, f3, f4, f5, f6⟩ := ef_frozen J1.out
  have hbk := ef_store J1.out (.slice none 0 0) (.int .i64 0) (.bool false) (.bool false) (.slice none 0 0) (.int .i64 0) (.bool false)
  have hgr := ef_grown W1 B (.slice none 0 0) (.int .i64 0) (.bool false) (.bool false) (.slice none 0 0) (.int .i64 0) (.bool false)
  go_wp2_with fail
  generalize (((((((W1.setCell ⟨B, 0, none⟩ (.slice none 0 0)).setCell ⟨B, 1, none⟩ (.int .i64 0)).setCell ⟨B, 2, none⟩ (.bool false)).setCell ⟨B, 3, none⟩ (.bool false)).setCell ⟨B, 4, none⟩ (.slice none 0 0)).setCell ⟨B, 5, none⟩ (.int .i64 0)).setCell ⟨B, 6, none⟩ (.bool false)) = w9 at *
  obtain ⟨g0, g1, g2, g3, g4, g5, g6⟩ := ef_cells hbk
  refine bodyPost_ret (v := .tuple #[efz, .int .i64 190]) (by simp [results, efz, Tryz.results54, go_sem, g0, g1, g2, g3, g4, g5, g6]) rfl (EfQ.no ?_)
  exact (L1.out).grown hgr (L1.out).size (fun g hg => by injection hg with hg; rw [← hg, HB.out]; exact Nat.le_refl B)
set_option maxHeartbeats 8000000 in
set_option linter.unusedSimpArgs false in
theorem over_ten (ao : Option Addr) (n c k q : Nat) (l : List UInt8) (b : UInt8) (w : World) (HT : Hid (Tx w ao n c l)) (hk : k ≤ n) (hbig : n ≤ 1048576) (hq1 : 1 ≤ q) (hq : q ≤ 9999) (hlt : ¬ ow l k < q) (e1 : ((b.toNat : Int) == 10) = true) :
    Calls Tryz.prog 54 #[.slice ao n c, .int .i64 (k : Int), .int .i64 (q : Int), .int .u8 (b.toNat : Int)] w fun e w' => EfQ ⟨sw l k (k + q) [10], (k : Int) + 1, false, false, [], 0, false⟩ 0 w e w' := by
  have hol := ow_le (l := l) (i := k) (by rw [HT.out.len]; exact hk)
  rw [HT.out.len] at hol
  obtain ⟨W1, hW1⟩ : ∃ x, w.alloc (.cells #[.slice none 0 0, .int .i64 0, .bool false, .bool false, .slice none 0 0, .int .i64 0, .bool false] 35) = x := ⟨_, rfl⟩
  obtain ⟨B, hB⟩ : ∃ b, w.heap.size = b := ⟨_, rfl⟩
  have HB := Hid.mk' hB
  have J1 : Hid (Blk W1 B 35 (ef7 (.slice none 0 0) 0 false false (.slice none 0 0) 0 false)) := by unfold Hid; rw [← hW1, ← hB]; exact Blk.new w 35 _
  have L1 : Hid (Below w.heap.size w W1) := by unfold Hid; rw [← hW1]; exact bAlloc (Below.refl _ _) _
  have HT1 := Hid.mk' (HT.out.keep L1.out)
  have HLN := Hid.mk' HT.out.len
  have hp9 : decide (0 ≤ (k : Int) ∧ (k : Int) ≤ (n : Int)) = true := decide_eq_true (by omega)
  have hq9 : cntB (q : Int) = true := by unfold cntB; rw [decide_eq_true (by omega), decide_eq_true (by omega)]; rfl
  have CO := Hid.mk' (onward_any ao n c k l W1 hk HT1.out)
  have hlt' : ¬ (ow l k : Int) < (q : Int) := by omega
  have hkq : k + q ≤ n := by omega
  have hw1 : IntKind.i64.wrap ((k : Int) + (q : Int)) = ((k + q : Nat) : Int) := by rw [IntKind.wrap_i64]; omega
  obtain ⟨t, ht⟩ : ∃ t, k + q = t := ⟨_, rfl⟩
  rw [ht] at hw1 hkq
  have hkt : k ≤ t := by omega
  have HKQ := Hid.mk' ht
  rw [ht]
  clear ht
  generalize ow l k = m at *
  have hw2 : IntKind.i64.wrap ((k : Int) + 1) = (k : Int) + 1 := by rw [IntKind.wrap_i64]; omega
  have CS : Hid (Calls Tryz.prog 83 #[.slice ao n c, .int .i64 (k : Int), .int .i64 (t : Int), .slice (some ⟨W1.heap.size, 0, none⟩) 1 1] (W1.alloc (.cells #[.int .u8 10] 5)) fun e w' => EsP (sw l k t [10]) w e w' ∧ Below (W1.alloc (.cells #[.int .u8 10] 5)).heap.size (W1.alloc (.cells #[.int .u8 10] 5)) w') :=
    swap_two w ao n c k t l (some ⟨W1.heap.size, 0, none⟩) 1 1 [10] (W1.alloc (.cells #[.int .u8 10] 5)) (HT1.out.keep (bAlloc (Below.refl _ _) _)) hkt hkq (by omega) (bT L1.out (bAlloc (Below.refl _ _) _)) ((Wb.new (ten_own W1)).wide L1.out.size (Nat.le_refl _)) (by simp)
  have JJ := Hid.mk' (J1.out.keep (bAlloc (Below.refl W1.heap.size W1) (.cells #[.int .u8 10] 5)))
  go_enter Tryz.func54, Tryz.ntmps54
  go_upto_region 1 with fail
  clear hW1 hB HT
  go_upto_region 6 with (first | (go_at_call 36; have CP := oplace_any ao n c (k : Int) W1; rw [hp9] at CP; refine CP.mono ?_; rintro e w' ⟨rfl, hw⟩; have hq := hw.symm; subst hq; clear hw CP) | (go_at_call 37; have CP := ocount_any (q : Int) W1; rw [hq9] at CP; refine CP.mono ?_; rintro e w' ⟨rfl, hw⟩; have hq := hw.symm; subst hq; clear hw CP) | (go_at_call 88; refine CO.out.mono ?_; rintro e w' ⟨rfl, hw⟩; have hq := hw.symm; subst hq; clear hw) | fail)
  clear CO hp9 hq9 hlt hlt'
  go_wp2_with (first | (go_at_call 83; refine CS.out.mono ?_; rintro e w5 ⟨⟨v, F, rfl, hF, hE, hb5⟩, hk5⟩; obtain ⟨eo, ec, rfl, -, -⟩ := hE.edz; have J5 := Hid.mk' (JJ.out.keep hk5); have HF := Hid.mk' hF; have E5 := Hid.mk' hE; have B5 := Hid.mk' hb5; clear hF hE hb5 hk5; obtain ⟨j0, j1, j2, j3, j4, j5, j6⟩ := ef_cells J5.out; obtain ⟨f0, f1, f2, f3, f4, f5, f6⟩ := ef_frozen J5.out; have hbk := ef_store J5.out (.slice eo F.length ec) (.int .i64 ((k : Int) + 1)) (.bool false) (.bool false) (.slice none 0 0) (.int .i64 0) (.bool false); have hgr := ef_grown w5 B (.slice eo F.length ec) (.int .i64 ((k : Int) + 1)) (.bool false) (.bool false) (.slice none 0 0) (.int .i64 0) (.bool false)) | fail)
  generalize (((((((w5.setCell ⟨B, 0, none⟩ (.slice eo F.length ec)).setCell ⟨B, 1, none⟩ (.int .i64 ((k : Int) + 1))).setCell ⟨B, 2, none⟩ (.bool false)).setCell ⟨B, 3, none⟩ (.bool false)).setCell ⟨B, 4, none⟩ (.slice none 0 0)).setCell ⟨B, 5, none⟩ (.int .i64 0)).setCell ⟨B, 6, none⟩ (.bool false)) = w9 at *
  obtain ⟨g0, g1, g2, g3, g4, g5, g6⟩ := ef_cells hbk
  refine bodyPost_ret (v := .tuple #[.agg #[.slice eo F.length ec, .int .i64 ((k : Int) + 1), .bool false, .bool false, .slice none 0 0, .int .i64 0, .bool false], .int .i64 0]) (by simp [results, Tryz.results54, go_sem, g0, g1, g2, g3, g4, g5, g6]) rfl ?_
  exact EfQ.out2 (x := ⟨sw l k t [10], (k : Int) + 1, false, false, [], 0, false⟩) HF.out (Efm.bare E5.out) B5.out J5.out (by have := HB.out; omega) hgr
set_option maxHeartbeats 8000000 in
set_option linter.unusedSimpArgs false in
theorem over_thirteen (ao : Option Addr) (n c k q : Nat) (l : List UInt8) (b : UInt8) (w : World) (HT : Hid (Tx w ao n c l)) (hk : k ≤ n) (hbig : n ≤ 1048576) (hq1 : 1 ≤ q) (hq : q ≤ 9999) (hlt : ¬ ow l k < q) (e1 : ((b.toNat : Int) == 10) = false) (e2 : ((b.toNat : Int) == 13) = true) :
    Calls Tryz.prog 54 #[.slice ao n c, .int .i64 (k : Int), .int .i64 (q : Int), .int .u8 (b.toNat : Int)] w fun e w' => EfQ ⟨sw l k (k + q) [10], (k : Int) + 1, false, false, [], 0, false⟩ 0 w e w' := by
  have hol := ow_le (l := l) (i := k) (by rw [HT.out.len]; exact hk)
  rw [HT.out.len] at hol
  obtain ⟨W1, hW1⟩ : ∃ x, w.alloc (.cells #[.slice none 0 0, .int .i64 0, .bool false, .bool false, .slice none 0 0, .int .i64 0, .bool false] 35) = x := ⟨_, rfl⟩
  obtain ⟨B, hB⟩ : ∃ b, w.heap.size = b := ⟨_, rfl⟩
  have HB := Hid.mk' hB
  have J1 : Hid (Blk W1 B 35 (ef7 (.slice none 0 0) 0 false false (.slice none 0 0) 0 false)) := by unfold Hid; rw [← hW1, ← hB]; exact Blk.new w 35 _
  have L1 : Hid (Below w.heap.size w W1) := by unfold Hid; rw [← hW1]; exact bAlloc (Below.refl _ _) _
  have HT1 := Hid.mk' (HT.out.keep L1.out)
  have HLN := Hid.mk' HT.out.len
  have hp9 : decide (0 ≤ (k : Int) ∧ (k : Int) ≤ (n : Int)) = true := decide_eq_true (by omega)
  have hq9 : cntB (q : Int) = true := by unfold cntB; rw [decide_eq_true (by omega), decide_eq_true (by omega)]; rfl
  have CO := Hid.mk' (onward_any ao n c k l W1 hk HT1.out)
  have hlt' : ¬ (ow l k : Int) < (q : Int) := by omega
  have hkq : k + q ≤ n := by omega
  have hw1 : IntKind.i64.wrap ((k : Int) + (q : Int)) = ((k + q : Nat) : Int) := by rw [IntKind.wrap_i64]; omega
  obtain ⟨t, ht⟩ : ∃ t, k + q = t := ⟨_, rfl⟩
  rw [ht] at hw1 hkq
  have hkt : k ≤ t := by omega
  have HKQ := Hid.mk' ht
  rw [ht]
  clear ht
  generalize ow l k = m at *
  have hw2 : IntKind.i64.wrap ((k : Int) + 1) = (k : Int) + 1 := by rw [IntKind.wrap_i64]; omega
  have CS : Hid (Calls Tryz.prog 83 #[.slice ao n c, .int .i64 (k : Int), .int .i64 (t : Int), .slice (some ⟨W1.heap.size, 0, none⟩) 1 1] (W1.alloc (.cells #[.int .u8 10] 5)) fun e w' => EsP (sw l k t [10]) w e w' ∧ Below (W1.alloc (.cells #[.int .u8 10] 5)).heap.size (W1.alloc (.cells #[.int .u8 10] 5)) w') :=
    swap_two w ao n c k t l (some ⟨W1.heap.size, 0, none⟩) 1 1 [10] (W1.alloc (.cells #[.int .u8 10] 5)) (HT1.out.keep (bAlloc (Below.refl _ _) _)) hkt hkq (by omega) (bT L1.out (bAlloc (Below.refl _ _) _)) ((Wb.new (ten_own W1)).wide L1.out.size (Nat.le_refl _)) (by simp)
  have JJ := Hid.mk' (J1.out.keep (bAlloc (Below.refl W1.heap.size W1) (.cells #[.int .u8 10] 5)))
  go_enter Tryz.func54, Tryz.ntmps54
  go_upto_region 1 with fail
  clear hW1 hB HT
  go_upto_region 6 with (first | (go_at_call 36; have CP := oplace_any ao n c (k : Int) W1; rw [hp9] at CP; refine CP.mono ?_; rintro e w' ⟨rfl, hw⟩; have hq := hw.symm; subst hq; clear hw CP) | (go_at_call 37; have CP := ocount_any (q : Int) W1; rw [hq9] at CP; refine CP.mono ?_; rintro e w' ⟨rfl, hw⟩; have hq := hw.symm; subst hq; clear hw CP) | (go_at_call 88; refine CO.out.mono ?_; rintro e w' ⟨rfl, hw⟩; have hq := hw.symm; subst hq; clear hw) | fail)
  clear CO hp9 hq9 hlt hlt'
  go_wp2_with (first | (go_at_call 83; refine CS.out.mono ?_; rintro e w5 ⟨⟨v, F, rfl, hF, hE, hb5⟩, hk5⟩; obtain ⟨eo, ec, rfl, -, -⟩ := hE.edz; have J5 := Hid.mk' (JJ.out.keep hk5); have HF := Hid.mk' hF; have E5 := Hid.mk' hE; have B5 := Hid.mk' hb5; clear hF hE hb5 hk5; obtain ⟨j0, j1, j2, j3, j4, j5, j6⟩ := ef_cells J5.out; obtain ⟨f0, f1, f2, f3, f4, f5, f6⟩ := ef_frozen J5.out; have hbk := ef_store J5.out (.slice eo F.length ec) (.int .i64 ((k : Int) + 1)) (.bool false) (.bool false) (.slice none 0 0) (.int .i64 0) (.bool false); have hgr := ef_grown w5 B (.slice eo F.length ec) (.int .i64 ((k : Int) + 1)) (.bool false) (.bool false) (.slice none 0 0) (.int .i64 0) (.bool false)) | fail)
  generalize (((((((w5.setCell ⟨B, 0, none⟩ (.slice eo F.length ec)).setCell ⟨B, 1, none⟩ (.int .i64 ((k : Int) + 1))).setCell ⟨B, 2, none⟩ (.bool false)).setCell ⟨B, 3, none⟩ (.bool false)).setCell ⟨B, 4, none⟩ (.slice none 0 0)).setCell ⟨B, 5, none⟩ (.int .i64 0)).setCell ⟨B, 6, none⟩ (.bool false)) = w9 at *
  obtain ⟨g0, g1, g2, g3, g4, g5, g6⟩ := ef_cells hbk
  refine bodyPost_ret (v := .tuple #[.agg #[.slice eo F.length ec, .int .i64 ((k : Int) + 1), .bool false, .bool false, .slice none 0 0, .int .i64 0, .bool false], .int .i64 0]) (by simp [results, Tryz.results54, go_sem, g0, g1, g2, g3, g4, g5, g6]) rfl ?_
  exact EfQ.out2 (x := ⟨sw l k t [10], (k : Int) + 1, false, false, [], 0, false⟩) HF.out (Efm.bare E5.out) B5.out J5.out (by have := HB.out; omega) hgr
set_option maxHeartbeats 8000000 in
set_option linter.unusedSimpArgs false in
theorem over_byte (ao : Option Addr) (n c k q : Nat) (l : List UInt8) (b : UInt8) (w : World) (HT : Hid (Tx w ao n c l)) (hk : k ≤ n) (hbig : n ≤ 1048576) (hq1 : 1 ≤ q) (hq : q ≤ 9999) (hlt : ¬ ow l k < q) (e1 : ((b.toNat : Int) == 10) = false) (e2 : ((b.toNat : Int) == 13) = false) :
    Calls Tryz.prog 54 #[.slice ao n c, .int .i64 (k : Int), .int .i64 (q : Int), .int .u8 (b.toNat : Int)] w fun e w' => EfQ ⟨sw l k (k + q) (rp [b] q), (k : Int) + (q : Int) - 1, false, false, [], 0, false⟩ 0 w e w' := by
  have hol := ow_le (l := l) (i := k) (by rw [HT.out.len]; exact hk)
  rw [HT.out.len] at hol
  obtain ⟨W1, hW1⟩ : ∃ x, w.alloc (.cells #[.slice none 0 0, .int .i64 0, .bool false, .bool false, .slice none 0 0, .int .i64 0, .bool false] 35) = x := ⟨_, rfl⟩
  obtain ⟨B, hB⟩ : ∃ b, w.heap.size = b := ⟨_, rfl⟩
  have HB := Hid.mk' hB
  have J1 : Hid (Blk W1 B 35 (ef7 (.slice none 0 0) 0 false false (.slice none 0 0) 0 false)) := by unfold Hid; rw [← hW1, ← hB]; exact Blk.new w 35 _
  have L1 : Hid (Below w.heap.size w W1) := by unfold Hid; rw [← hW1]; exact bAlloc (Below.refl _ _) _
  have HT1 := Hid.mk' (HT.out.keep L1.out)
  have HLN := Hid.mk' HT.out.len
  have hp9 : decide (0 ≤ (k : Int) ∧ (k : Int) ≤ (n : Int)) = true := decide_eq_true (by omega)
  have hq9 : cntB (q : Int) = true := by unfold cntB; rw [decide_eq_true (by omega), decide_eq_true (by omega)]; rfl
  have CO := Hid.mk' (onward_any ao n c k l W1 hk HT1.out)
  have hlt' : ¬ (ow l k : Int) < (q : Int) := by omega
  have hkq : k + q ≤ n := by omega
  have hw1 : IntKind.i64.wrap ((k : Int) + (q : Int)) = ((k + q : Nat) : Int) := by rw [IntKind.wrap_i64]; omega
  obtain ⟨t, ht⟩ : ∃ t, k + q = t := ⟨_, rfl⟩
  rw [ht] at hw1 hkq
  have hkt : k ≤ t := by omega
  have HKQ := Hid.mk' ht
  rw [ht]
  clear ht
  generalize ow l k = m at *
  have hw2 : IntKind.i64.wrap ((k : Int) + (q : Int) - 1) = (k : Int) + (q : Int) - 1 := by rw [IntKind.wrap_i64]; omega
  have hw3 : IntKind.i64.wrap ((t : Int) - 1) = (t : Int) - 1 := by rw [IntKind.wrap_i64]; omega
  have hkt2 : (k : Int) + (q : Int) - 1 = (t : Int) - 1 := by have := HKQ.out; omega
  rw [hkt2]
  clear hkt2 hw2
  have CR := Hid.mk' (repeat_any (some ⟨W1.heap.size, 0, none⟩) 1 1 q [b] (W1.alloc (.cells #[.int .u8 (b.toNat : Int)] 5)) ((Wb.new (one_own W1 b)).tx (by simp)) (by omega) hq (by omega))
  have HRL : Hid ((rp [b] q).length = q) := by unfold Hid; rw [rp_len]; simp
  have J2 := Hid.mk' (J1.out.keep (bAlloc (Below.refl W1.heap.size W1) (.cells #[.int .u8 (b.toNat : Int)] 5)))
  have B2 := Hid.mk' (bT L1.out (bAlloc (Below.refl W1.heap.size W1) (.cells #[.int .u8 (b.toNat : Int)] 5)))
  have HT2 := Hid.mk' (HT1.out.keep (bAlloc (Below.refl W1.heap.size W1) (.cells #[.int .u8 (b.toNat : Int)] 5)))
  go_enter Tryz.func54, Tryz.ntmps54
  go_upto_region 1 with fail
  clear hW1 hB HT
  go_upto_region 7 with (first | (go_at_call 36; have CP := oplace_any ao n c (k : Int) W1; rw [hp9] at CP; refine CP.mono ?_; rintro e w' ⟨rfl, hw⟩; have hq := hw.symm; subst hq; clear hw CP) | (go_at_call 37; have CP := ocount_any (q : Int) W1; rw [hq9] at CP; refine CP.mono ?_; rintro e w' ⟨rfl, hw⟩; have hq := hw.symm; subst hq; clear hw CP) | (go_at_call 88; refine CO.out.mono ?_; rintro e w' ⟨rfl, hw⟩; have hq := hw.symm; subst hq; clear hw) | fail)
  clear CO hp9 hq9 hlt hlt'
  go_wp2_with (first | (go_at_call 48; refine CR.out.mono ?_; rintro e w3 ⟨v3, rfl, hW3, hb3⟩; obtain ⟨p3, d3, rfl⟩ := hW3.shape; have JJ := Hid.mk' (J2.out.keep hb3); have CS := Hid.mk' (swap_two w ao n c k t l p3 (rp [b] q).length d3 (rp [b] q) w3 (HT2.out.keep hb3) hkt hkq (by omega) (bT B2.out hb3) (hW3.wide B2.out.size (Nat.le_refl _)) (by have := HRL.out; omega)); clear hW3 hb3 CR) | fail)
  refine CS.out.mono ?_
  rintro e w5 ⟨⟨v, F, rfl, hF, hE, hb5⟩, hk5⟩
  obtain ⟨eo, ec, rfl, -, -⟩ := hE.edz
  have J5 := Hid.mk' (JJ.out.keep hk5)
  have HF := Hid.mk' hF
  have E5 := Hid.mk' hE
  have B5 := Hid.mk' hb5
  clear hF hE hb5 hk5
  clear CS
  obtain ⟨j0, j1, j2, j3, j4, j5, j6⟩ := ef_cells J5.out
  obtain ⟨f0, f1, f2, f3, f4, f5, f6⟩ := ef_frozen J5.out
  have hbk := ef_store J5.out (.slice eo F.length ec) (.int .i64 ((t : Int) - 1)) (.bool false) (.bool false) (.slice none 0 0) (.int .i64 0) (.bool false)
  have hgr := ef_grown w5 B (.slice eo F.length ec) (.int .i64 ((t : Int) - 1)) (.bool false) (.bool false) (.slice none 0 0) (.int .i64 0) (.bool false)
  go_wp2_with fail
  generalize (((((((w5.setCell ⟨B, 0, none⟩ (.slice eo F.length ec)).setCell ⟨B, 1, none⟩ (.int .i64 ((t : Int) - 1))).setCell ⟨B, 2, none⟩ (.bool false)).setCell ⟨B, 3, none⟩ (.bool false)).setCell ⟨B, 4, none⟩ (.slice none 0 0)).setCell ⟨B, 5, none⟩ (.int .i64 0)).setCell ⟨B, 6, none⟩ (.bool false)) = w9 at *
  obtain ⟨g0, g1, g2, g3, g4, g5, g6⟩ := ef_cells hbk
  refine bodyPost_ret (v := .tuple #[.agg #[.slice eo F.length ec, .int .i64 ((t : Int) - 1), .bool false, .bool false, .slice none 0 0, .int .i64 0, .bool false], .int .i64 0]) (by simp [results, Tryz.results54, go_sem, g0, g1, g2, g3, g4, g5, g6]) rfl ?_
  exact EfQ.out2 (x := ⟨sw l k t (rp [b] q), (t : Int) - 1, false, false, [], 0, false⟩) HF.out (Efm.bare E5.out) B5.out J5.out (by have := HB.out; omega) hgr
set_option maxHeartbeats 8000000 in
set_option linter.unusedSimpArgs false in
theorem over_any (ao : Option Addr) (n c : Nat) (l : List UInt8) (at' q : Int) (b : UInt8) (w : World) (HT : Hid (Tx w ao n c l)) (hbig : n ≤ 1048576) :
    Calls Tryz.prog 54 #[.slice ao n c, .int .i64 at', .int .i64 q, .int .u8 (b.toNat : Int)] w fun e w' => EfQ (ovX l at' q b).1 (ovX l at' q b).2 w e w' := by
  have hln := HT.out.len
  unfold ovX
  rw [hln]
  by_cases h : (0 ≤ at' ∧ at' ≤ (n : Int)) ∧ cntB q = true
  · rw [if_neg (by simp [h])]
    have hq2 : 1 ≤ q ∧ q ≤ 9999 := by have := h.2; unfold cntB at this; simp at this; exact this
    obtain ⟨k, rfl⟩ := Int.eq_ofNat_of_zero_le h.1.1
    obtain ⟨q, rfl⟩ := Int.eq_ofNat_of_zero_le (show 0 ≤ q by omega)
    rw [show ((k : Int)).toNat = k from rfl, show ((q : Int)).toNat = q from rfl]
    unfold ovM
    by_cases hlt : ow l k < q
    · rw [if_pos hlt]
      exact over_none ao n c k q l b w HT (by omega) hbig (by omega) (by omega) hlt
    · rw [if_neg hlt]
      have u1 := u8_is b 10 (by omega)
      have u2 := u8_is b 13 (by omega)
      by_cases e1 : b = 10
      · rw [if_pos (.inl e1)]
        exact over_ten ao n c k q l b w HT (by omega) hbig (by omega) (by omega) hlt (by rw [show ((10 : Nat) : Int) = 10 from rfl] at u1; rw [u1]; exact decide_eq_true e1)
      · have e1' : ((b.toNat : Int) == 10) = false := by rw [show ((10 : Nat) : Int) = 10 from rfl] at u1; rw [u1]; exact decide_eq_false e1
        by_cases e2 : b = 13
        · rw [if_pos (.inr e2)]
          exact over_thirteen ao n c k q l b w HT (by omega) hbig (by omega) (by omega) hlt e1' (by rw [show ((13 : Nat) : Int) = 13 from rfl] at u2; rw [u2]; exact decide_eq_true e2)
        · rw [if_neg (by intro h; rcases h with h | h; exact e1 h; exact e2 h)]
          exact over_byte ao n c k q l b w HT (by omega) hbig (by omega) (by omega) hlt e1' (by rw [show ((13 : Nat) : Int) = 13 from rfl] at u2; rw [u2]; exact decide_eq_false e2)
  · rw [if_pos h]
    exact over_args ao n c l at' q b w HT h
end Go.Proofs.YtppefcnopkmhbaaGreatDoor
