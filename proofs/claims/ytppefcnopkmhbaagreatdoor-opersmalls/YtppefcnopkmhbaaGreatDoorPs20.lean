/- Trn, Glu, Tlb -/
import Derived.Test.YtppefcnopkmhbaaGreatDoorPs19
import Derived.Laws.EntriesVeiled
import Derived.Test.YtppefcnopkmhbaaGreatDoorPs05
import Derived.Shelf.Strings.SlTrimAscii
import Derived.Shelf.Bytes.SlTrim
namespace Go.Proofs.YtppefcnopkmhbaaGreatDoor
open Go.RowKit

set_option maxRecDepth 8000
set_option maxHeartbeats 8000000 in
set_option linter.unusedSimpArgs false in
theorem turn_args (ao : Option Addr) (n c : Nat) (l : List UInt8) (at' q : Int) (w : World) (HT : Hid (Tx w ao n c l)) (h : ¬ ((0 ≤ at' ∧ at' ≤ (n : Int)) ∧ cntB q = true)) :
    Calls Tryz.prog 55 #[.slice ao n c, .int .i64 at', .int .i64 q] w fun e w' => EfQ ef0 2 w e w' := by
  obtain ⟨W1, hW1⟩ : ∃ x, w.alloc (.cells #[.slice none 0 0, .int .i64 0, .bool false, .bool false, .slice none 0 0, .int .i64 0, .bool false] 35) = x := ⟨_, rfl⟩
  obtain ⟨B, hB⟩ : ∃ b, w.heap.size = b := ⟨_, rfl⟩
  have HB := Hid.mk' hB
  have J1 : Hid (Blk W1 B 35 (ef7 (.slice none 0 0) 0 false false (.slice none 0 0) 0 false)) := by unfold Hid; rw [← hW1, ← hB]; exact Blk.new w 35 _
  have L1 : Hid (Below w.heap.size w W1) := by unfold Hid; rw [← hW1]; exact bAlloc (Below.refl _ _) _
  have HT1 := Hid.mk' (HT.out.keep L1.out)
  have HLN := Hid.mk' HT.out.len
  by_cases hp : (0 ≤ at' ∧ at' ≤ (n : Int))
  · have hq9 : cntB q = false := by
      cases e : cntB q with
      | true => exact absurd ⟨hp, e⟩ h
      | false => rfl
    have hp9 : decide (0 ≤ at' ∧ at' ≤ (n : Int)) = true := decide_eq_true hp
    go_enter Tryz.func55, Tryz.ntmps55
    go_upto_region 1 with fail
    clear hW1 hB HT
    go_upto_region 2 with (first | (go_at_call 36; have CP := oplace_any ao n c at' W1; rw [hp9] at CP; refine CP.mono ?_; rintro e w' ⟨rfl, hw⟩; have hq := hw.symm; subst hq; clear hw CP) | (go_at_call 37; have CP := ocount_any q W1; rw [hq9] at CP; refine CP.mono ?_; rintro e w' ⟨rfl, hw⟩; have hq := hw.symm; subst hq; clear hw CP) | fail)
    obtain ⟨j0, j1, j2, j3, j4, j5, j6⟩ := ef_cells J1.out
    obtain ⟨f0, f1, f2, f3, f4, f5, f6⟩ := ef_frozen J1.out
    have hbk := ef_store J1.out (.slice none 0 0) (.int .i64 0) (.bool false) (.bool false) (.slice none 0 0) (.int .i64 0) (.bool false)
    have hgr := ef_grown W1 B (.slice none 0 0) (.int .i64 0) (.bool false) (.bool false) (.slice none 0 0) (.int .i64 0) (.bool false)
    go_wp2_with fail
    generalize (((((((W1.setCell ⟨B, 0, none⟩ (.slice none 0 0)).setCell ⟨B, 1, none⟩ (.int .i64 0)).setCell ⟨B, 2, none⟩ (.bool false)).setCell ⟨B, 3, none⟩ (.bool false)).setCell ⟨B, 4, none⟩ (.slice none 0 0)).setCell ⟨B, 5, none⟩ (.int .i64 0)).setCell ⟨B, 6, none⟩ (.bool false)) = w9 at *
    obtain ⟨g0, g1, g2, g3, g4, g5, g6⟩ := ef_cells hbk
    refine bodyPost_ret (v := .tuple #[efz, .int .i64 2]) (by simp [results, efz, Tryz.results55, go_sem, g0, g1, g2, g3, g4, g5, g6]) rfl (EfQ.no ?_)
    exact (L1.out).grown hgr (L1.out).size (fun g hg => by injection hg with hg; rw [← hg, HB.out]; exact Nat.le_refl B)
  · have hp9 : decide (0 ≤ at' ∧ at' ≤ (n : Int)) = false := decide_eq_false hp
    go_enter Tryz.func55, Tryz.ntmps55
    go_upto_region 1 with fail
    clear hW1 hB HT
    go_upto_region 2 with (first | (go_at_call 36; have CP := oplace_any ao n c at' W1; rw [hp9] at CP; refine CP.mono ?_; rintro e w' ⟨rfl, hw⟩; have hq := hw.symm; subst hq; clear hw CP) | (go_at_call 37; have CP := ocount_any q W1; rw [hq9] at CP; refine CP.mono ?_; rintro e w' ⟨rfl, hw⟩; have hq := hw.symm; subst hq; clear hw CP) | fail)
    obtain ⟨j0, j1, j2, j3, j4, j5, j6⟩ := ef_cells J1.out
    obtain ⟨f0, f1, f2, f3, f4, f5, f6⟩ := ef_frozen J1.out
    have hbk := ef_store J1.out (.slice none 0 0) (.int .i64 0) (.bool false) (.bool false) (.slice none 0 0) (.int .i64 0) (.bool false)
    have hgr := ef_grown W1 B (.slice none 0 0) (.int .i64 0) (.bool false) (.bool false) (.slice none 0 0) (.int .i64 0) (.bool false)
    go_wp2_with fail
    generalize (((((((W1.setCell ⟨B, 0, none⟩ (.slice none 0 0)).setCell ⟨B, 1, none⟩ (.int .i64 0)).setCell ⟨B, 2, none⟩ (.bool false)).setCell ⟨B, 3, none⟩ (.bool false)).setCell ⟨B, 4, none⟩ (.slice none 0 0)).setCell ⟨B, 5, none⟩ (.int .i64 0)).setCell ⟨B, 6, none⟩ (.bool false)) = w9 at *
    obtain ⟨g0, g1, g2, g3, g4, g5, g6⟩ := ef_cells hbk
    refine bodyPost_ret (v := .tuple #[efz, .int .i64 2]) (by simp [results, efz, Tryz.results55, go_sem, g0, g1, g2, g3, g4, g5, g6]) rfl (EfQ.no ?_)
    exact (L1.out).grown hgr (L1.out).size (fun g hg => by injection hg with hg; rw [← hg, HB.out]; exact Nat.le_refl B)
set_option maxHeartbeats 8000000 in
set_option linter.unusedSimpArgs false in
theorem turn_none (ao : Option Addr) (n c k q : Nat) (l : List UInt8) (w : World) (HT : Hid (Tx w ao n c l)) (hk : k ≤ n) (_hbig : n ≤ 1048576) (hq1 : 1 ≤ q) (hq : q ≤ 9999) (h0 : ow l k = 0) :
    Calls Tryz.prog 55 #[.slice ao n c, .int .i64 (k : Int), .int .i64 (q : Int)] w fun e w' => EfQ ef0 190 w e w' := by
  obtain ⟨W1, hW1⟩ : ∃ x, w.alloc (.cells #[.slice none 0 0, .int .i64 0, .bool false, .bool false, .slice none 0 0, .int .i64 0, .bool false] 35) = x := ⟨_, rfl⟩
  obtain ⟨B, hB⟩ : ∃ b, w.heap.size = b := ⟨_, rfl⟩
  have HB := Hid.mk' hB
  have J1 : Hid (Blk W1 B 35 (ef7 (.slice none 0 0) 0 false false (.slice none 0 0) 0 false)) := by unfold Hid; rw [← hW1, ← hB]; exact Blk.new w 35 _
  have L1 : Hid (Below w.heap.size w W1) := by unfold Hid; rw [← hW1]; exact bAlloc (Below.refl _ _) _
  have HT1 := Hid.mk' (HT.out.keep L1.out)
  have HLN := Hid.mk' HT.out.len
  have hp9 : decide (0 ≤ (k : Int) ∧ (k : Int) ≤ (n : Int)) = true := decide_eq_true (by omega)
  have hq9 : cntB (q : Int) = true := by unfold cntB; rw [decide_eq_true (by omega), decide_eq_true (by omega)]; rfl
  have CO := Hid.mk' (onward_any ao n c k l W1 hk HT1.out)
  rw [h0] at CO
  clear h0
  go_enter Tryz.func55, Tryz.ntmps55
  go_upto_region 1 with fail
  clear hW1 hB HT
  go_upto_region 4 with (first | (go_at_call 36; have CP := oplace_any ao n c (k : Int) W1; rw [hp9] at CP; refine CP.mono ?_; rintro e w' ⟨rfl, hw⟩; have hq := hw.symm; subst hq; clear hw CP) | (go_at_call 37; have CP := ocount_any (q : Int) W1; rw [hq9] at CP; refine CP.mono ?_; rintro e w' ⟨rfl, hw⟩; have hq := hw.symm; subst hq; clear hw CP) | (go_at_call 88; refine CO.out.mono ?_; rintro e w' ⟨rfl, hw⟩; have hq := hw.symm; subst hq; clear hw) | fail)
  obtain ⟨j0, j1, j2, j3, j4, j5, j6⟩ := ef_cells J1.out
  obtain ⟨f0, f1, f2, f3, f4, f5, f6⟩ := ef_frozen J1.out
  have hbk := ef_store J1.out (.slice none 0 0) (.int .i64 0) (.bool false) (.bool false) (.slice none 0 0) (.int .i64 0) (.bool false)
  have hgr := ef_grown W1 B (.slice none 0 0) (.int .i64 0) (.bool false) (.bool false) (.slice none 0 0) (.int .i64 0) (.bool false)
  go_wp2_with fail
  generalize (((((((W1.setCell ⟨B, 0, none⟩ (.slice none 0 0)).setCell ⟨B, 1, none⟩ (.int .i64 0)).setCell ⟨B, 2, none⟩ (.bool false)).setCell ⟨B, 3, none⟩ (.bool false)).setCell ⟨B, 4, none⟩ (.slice none 0 0)).setCell ⟨B, 5, none⟩ (.int .i64 0)).setCell ⟨B, 6, none⟩ (.bool false)) = w9 at *
  obtain ⟨g0, g1, g2, g3, g4, g5, g6⟩ := ef_cells hbk
  refine bodyPost_ret (v := .tuple #[efz, .int .i64 190]) (by simp [results, efz, Tryz.results55, go_sem, g0, g1, g2, g3, g4, g5, g6]) rfl (EfQ.no ?_)
  exact (L1.out).grown hgr (L1.out).size (fun g hg => by injection hg with hg; rw [← hg, HB.out]; exact Nat.le_refl B)
set_option maxHeartbeats 8000000 in
set_option linter.unusedSimpArgs false in
theorem turn_some (ao : Option Addr) (n c k q : Nat) (l : List UInt8) (w : World) (HT : Hid (Tx w ao n c l)) (hk : k ≤ n) (hbig : n ≤ 1048576) (hq1 : 1 ≤ q) (hq : q ≤ 9999) (m s t : Nat) (hm : ow l k = m) (h0 : ¬ m = 0) (hs : min q m = s) (ht : k + s = t) :
    Calls Tryz.prog 55 #[.slice ao n c, .int .i64 (k : Int), .int .i64 (q : Int)] w fun e w' => EfQ ⟨sw l k t ((sl l k t).map (tw tgB)), (t : Int), false, false, [], 0, false⟩ 0 w e w' := by
  have hol := ow_le (l := l) (i := k) (by rw [HT.out.len]; exact hk)
  rw [HT.out.len] at hol
  obtain ⟨W1, hW1⟩ : ∃ x, w.alloc (.cells #[.slice none 0 0, .int .i64 0, .bool false, .bool false, .slice none 0 0, .int .i64 0, .bool false] 35) = x := ⟨_, rfl⟩
  obtain ⟨B, hB⟩ : ∃ b, w.heap.size = b := ⟨_, rfl⟩
  have HB := Hid.mk' hB
  have J1 : Hid (Blk W1 B 35 (ef7 (.slice none 0 0) 0 false false (.slice none 0 0) 0 false)) := by unfold Hid; rw [← hW1, ← hB]; exact Blk.new w 35 _
  have L1 : Hid (Below w.heap.size w W1) := by unfold Hid; rw [← hW1]; exact bAlloc (Below.refl _ _) _
  have HT1 := Hid.mk' (HT.out.keep L1.out)
  have HLN := Hid.mk' HT.out.len
  have hp9 : decide (0 ≤ (k : Int) ∧ (k : Int) ≤ (n : Int)) = true := decide_eq_true (by omega)
  have hq9 : cntB (q : Int) = true := by unfold cntB; rw [decide_eq_true (by omega), decide_eq_true (by omega)]; rfl
  have CO := Hid.mk' (onward_any ao n c k l W1 hk HT1.out)
  rw [hm] at CO hol
  have h0' : ((m : Int) == 0) = false := beq_eq_false_iff_ne.2 (by omega)
  have hmin : min (q : Int) (m : Int) = (s : Int) := by omega
  have hkt : k ≤ t := by omega
  have htn : t ≤ n := by omega
  have hw1 : IntKind.i64.wrap ((k : Int) + (s : Int)) = (t : Int) := by rw [IntKind.wrap_i64]; omega
  have hz1 : (k : Int) ≤ (t : Int) := by omega
  have hz2 : (t : Int) ≤ (n : Int) := by omega
  have hz0 : (0 : Int) ≤ (k : Int) := by omega
  have hz3 : (t : Int) ≤ (c : Int) := by have := HT1.out.cap; omega
  obtain ⟨a3, c3, hs3, hT3⟩ := sl_lh' HT1.out hkt htn
  have HXL : Hid (((sl l k t).map (tw tgB)).length ≤ 1048576) := by unfold Hid; rw [List.length_map, sl_len (by have := HLN.out; omega)]; omega
  have CE := Hid.mk' (each_tog a3 (t - k) c3 (sl l k t) W1 hT3 (by omega))
  generalize (sl l k t).map (tw tgB) = X at *
  clear hT3 hs ht hm hol h0
  go_enter Tryz.func55, Tryz.ntmps55
  go_upto_region 1 with fail
  clear hW1 hB HT
  go_upto_region 5 with (first | (go_at_call 36; have CP := oplace_any ao n c (k : Int) W1; rw [hp9] at CP; refine CP.mono ?_; rintro e w' ⟨rfl, hw⟩; have hq := hw.symm; subst hq; clear hw CP) | (go_at_call 37; have CP := ocount_any (q : Int) W1; rw [hq9] at CP; refine CP.mono ?_; rintro e w' ⟨rfl, hw⟩; have hq := hw.symm; subst hq; clear hw CP) | (go_at_call 88; refine CO.out.mono ?_; rintro e w' ⟨rfl, hw⟩; have hq := hw.symm; subst hq; clear hw) | fail)
  go_upto_region 6 with (first | (go_at_call 88; refine CO.out.mono ?_; rintro e w' ⟨rfl, hw⟩; have hq := hw.symm; subst hq; clear hw) | fail)
  clear CO hp9 hq9 h0' hmin hw1
  go_wp2_with fail
  refine CE.out.mono ?_
  rintro e w3 ⟨v3, rfl, hW3, hb3⟩
  obtain ⟨p3, d3, rfl⟩ := hW3.shape
  have JJ := Hid.mk' (J1.out.keep hb3)
  have CS := Hid.mk' (swap_two w ao n c k t l p3 X.length d3 X w3 (HT1.out.keep hb3) hkt htn (by omega) (bT L1.out hb3) (hW3.wide L1.out.size (Nat.le_refl _)) (by have := HXL.out; omega))
  clear hW3 hb3 CE
  go_wp2_with fail
  refine CS.out.mono ?_
  rintro e w5 ⟨⟨v, F, rfl, hF, hE, hb5⟩, hk5⟩
  obtain ⟨eo, ec, rfl, -, -⟩ := hE.edz
  have J5 := Hid.mk' (JJ.out.keep hk5)
  have HF := Hid.mk' hF
  have E5 := Hid.mk' hE
  have B5 := Hid.mk' hb5
  clear hF hE hb5 hk5
  clear CS
  obtain ⟨j0, j1, j2, j3, j4, j5, j6⟩ := ef_cells J5.out
  obtain ⟨f0, f1, f2, f3, f4, f5, f6⟩ := ef_frozen J5.out
  have hbk := ef_store J5.out (.slice eo F.length ec) (.int .i64 (t : Int)) (.bool false) (.bool false) (.slice none 0 0) (.int .i64 0) (.bool false)
  have hgr := ef_grown w5 B (.slice eo F.length ec) (.int .i64 (t : Int)) (.bool false) (.bool false) (.slice none 0 0) (.int .i64 0) (.bool false)
  go_wp2_with fail
  generalize (((((((w5.setCell ⟨B, 0, none⟩ (.slice eo F.length ec)).setCell ⟨B, 1, none⟩ (.int .i64 (t : Int))).setCell ⟨B, 2, none⟩ (.bool false)).setCell ⟨B, 3, none⟩ (.bool false)).setCell ⟨B, 4, none⟩ (.slice none 0 0)).setCell ⟨B, 5, none⟩ (.int .i64 0)).setCell ⟨B, 6, none⟩ (.bool false)) = w9 at *
  obtain ⟨g0, g1, g2, g3, g4, g5, g6⟩ := ef_cells hbk
  refine bodyPost_ret (v := .tuple #[.agg #[.slice eo F.length ec, .int .i64 (t : Int), .bool false, .bool false, .slice none 0 0, .int .i64 0, .bool false], .int .i64 0]) (by simp [results, Tryz.results55, go_sem, g0, g1, g2, g3, g4, g5, g6]) rfl ?_
  exact EfQ.out2 (x := ⟨sw l k t X, (t : Int), false, false, [], 0, false⟩) HF.out (Efm.bare E5.out) B5.out J5.out (by have := HB.out; omega) hgr
set_option maxHeartbeats 8000000 in
set_option linter.unusedSimpArgs false in
theorem turn_any (ao : Option Addr) (n c : Nat) (l : List UInt8) (at' q : Int) (w : World) (HT : Hid (Tx w ao n c l)) (hbig : n ≤ 1048576) :
    Calls Tryz.prog 55 #[.slice ao n c, .int .i64 at', .int .i64 q] w fun e w' => EfQ (tuX l at' q).1 (tuX l at' q).2 w e w' := by
  have hln := HT.out.len
  unfold tuX
  rw [hln]
  by_cases h : (0 ≤ at' ∧ at' ≤ (n : Int)) ∧ cntB q = true
  · rw [if_neg (by simp [h])]
    have hq2 : 1 ≤ q ∧ q ≤ 9999 := by have := h.2; unfold cntB at this; simp at this; exact this
    obtain ⟨k, rfl⟩ := Int.eq_ofNat_of_zero_le h.1.1
    obtain ⟨q, rfl⟩ := Int.eq_ofNat_of_zero_le (show 0 ≤ q by omega)
    rw [show ((k : Int)).toNat = k from rfl, show ((q : Int)).toNat = q from rfl]
    unfold tuM
    by_cases h0 : ow l k = 0
    · rw [if_pos h0]
      exact turn_none ao n c k q l w HT (by omega) hbig (by omega) (by omega) h0
    · rw [if_neg h0]
      exact turn_some ao n c k q l w HT (by omega) hbig (by omega) (by omega) _ _ _ rfl h0 rfl rfl
  · rw [if_pos h]
    exact turn_args ao n c l at' q w HT h
end Go.Proofs.YtppefcnopkmhbaaGreatDoor

namespace Go.Proofs.YtppefcnopkmhbaaGreatDoor
open Go.RowKit

set_option maxRecDepth 8000
theorem kd_bl (b : UInt8) : (kd (b.toNat : Int) false == 0) = bl b := by
  unfold kd bl
  rw [Bool.eq_iff_iff]
  simp only [beq_iff_eq, Bool.or_eq_true]
  split
  · rename_i h; simp; exact h
  · rename_i h
    constructor
    · intro h2
      split at h2
      · cases h2
      · split at h2 <;> cases h2
    · intro h2; exact absurd h2 h
theorem oblank_any (b : UInt8) (w : World) : Calls Tryz.prog 120 #[.int .u8 (b.toNat : Int)] w fun e w' => e = .returned (.bool (bl b)) ∧ w' = w := by
  have C1 := Hid.mk' (kdOf_any (b.toNat : Int) false w)
  have hk := kd_bl b
  generalize kd (b.toNat : Int) false = z at *
  generalize bl b = y at *
  go_enter Tryz.func120, Tryz.ntmps120
  go_wp2_with (first | (go_at_call 141; refine C1.out.mono ?_; rintro e w' ⟨rfl, hw⟩; have hq := hw.symm; subst hq; clear hw) | fail)
  go_ret
  exact ⟨rfl, rfl⟩
/-- does nothing come between a line and the rest of the next? -/
def glB (a r : List UInt8) : Bool := decide (a.length = 0) || bl (at8 a (a.length - 1)) || decide (r.length = 0) || decide (at8 r 0 = 41)
def glu (a r : List UInt8) : List UInt8 := if glB a r = true then [] else [32]
theorem blank_own (W : World) : (W.alloc (.cells #[.int .u8 32] 5)).ownsRow W.heap.size 5 1 (.slice (some ⟨W.heap.size, 0, none⟩) 1 1) 1 (bv [32]) := one_own W 32
set_option maxHeartbeats 8000000 in
set_option linter.unusedSimpArgs false in
theorem glue_any (ao : Option Addr) (n c : Nat) (l : List UInt8) (bo : Option Addr) (m d : Nat) (r : List UInt8) (w : World) (HT : Hid (Tx w ao n c l)) (HR : Hid (Tx w bo m d r)) :
    Calls Tryz.prog 92 #[.slice ao n c, .slice bo m d] w fun e w' => WbP (glu l r) w e w' := by
  have hln := HT.out.len
  have hrn := HR.out.len
  have hbg : (n : Int) ≤ 150000000000000 := by have := HT.out.big; omega
  have hw1 : IntKind.i64.wrap ((n : Int) - 1) = (n : Int) - 1 := by rw [IntKind.wrap_i64]; omega
  have NO : ∀ b : Bool, glB l r = b → b = true → Hid (glu l r = []) := fun b h1 h2 => by unfold Hid glu; rw [h1, if_pos h2]
  by_cases h0 : n = 0
  · have hg := NO _ (by unfold glB; rw [hln, decide_eq_true h0, Bool.true_or, Bool.true_or, Bool.true_or]) (by simp)
    subst h0
    clear hln hrn hw1 hbg NO HT HR
    go_enter Tryz.func92, Tryz.ntmps92
    go_wp2
    go_ret
    exact ⟨_, rfl, by rw [hg.out]; exact Wb.nil _ _ _, Below.refl _ _⟩
  · obtain ⟨g, o, rfl, hc⟩ := HT.out.at (by omega)
    have hc1 := hc (n - 1) (by omega)
    have h00 : ((n : Int) == 0) = false := beq_eq_false_iff_ne.2 (by omega)
    have h01 : (0 : Int) ≤ (n : Int) - 1 := by omega
    have h02 : (n : Int) - 1 < (n : Int) := by omega
    have CB := Hid.mk' (oblank_any (at8 l (n - 1)) w)
    cases hbl : bl (at8 l (n - 1)) with
    | true =>
      have hg := NO _ (by unfold glB; rw [hln, hbl, Bool.or_true, Bool.true_or, Bool.true_or]) (by simp)
      rw [hbl] at CB
      generalize at8 l (n - 1) = z at *
      clear hln hrn NO HT HR hc
      go_enter Tryz.func92, Tryz.ntmps92
      go_wp2_with (first | (go_at_call 120; refine CB.out.mono ?_; rintro e w' ⟨rfl, hw⟩; have hq := hw.symm; subst hq; clear hw) | fail)
      go_ret
      exact ⟨_, rfl, by rw [hg.out]; exact Wb.nil _ _ _, Below.refl _ _⟩
    | false =>
      rw [hbl] at CB
      by_cases m0 : m = 0
      · have hg := NO _ (by unfold glB; rw [hrn, decide_eq_true m0, Bool.or_true, Bool.true_or]) (by simp)
        subst m0
        generalize at8 l (n - 1) = z at *
        clear hln hrn NO HT HR hc
        go_enter Tryz.func92, Tryz.ntmps92
        go_wp2_with (first | (go_at_call 120; refine CB.out.mono ?_; rintro e w' ⟨rfl, hw⟩; have hq := hw.symm; subst hq; clear hw) | fail)
        go_ret
        exact ⟨_, rfl, by rw [hg.out]; exact Wb.nil _ _ _, Below.refl _ _⟩
      · obtain ⟨g2, o2, rfl, hd⟩ := HR.out.at (by omega)
        have hd1 : w.cell? ⟨g2, o2, none⟩ = some (.int .u8 ((at8 r 0).toNat : Int)) := hd 0 (by omega)
        have m00 : ((m : Int) == 0) = false := beq_eq_false_iff_ne.2 (by omega)
        have m01 : (0 : Int) < (m : Int) := by omega
        have u1 := u8_is (at8 r 0) 41 (by omega)
        rw [show ((41 : Nat) : Int) = 41 from rfl] at u1
        have hmb : (m : Int) ≤ 150000000000000 := by have := HR.out.big; omega
        by_cases hp : at8 r 0 = 41
        · have hg := NO _ (by unfold glB; rw [show decide (at8 r 0 = 41) = true from decide_eq_true hp, Bool.or_true]) rfl
          rw [show decide (at8 r 0 = UInt8.ofNat 41) = true from decide_eq_true hp] at u1
          generalize at8 l (n - 1) = z at *
          generalize at8 r 0 = y at *
          clear hln hrn NO HT HR hc hd hp
          go_enter Tryz.func92, Tryz.ntmps92
          go_wp2_with (first | (go_at_call 120; refine CB.out.mono ?_; rintro e w' ⟨rfl, hw⟩; have hq := hw.symm; subst hq; clear hw) | fail)
          go_ret
          exact ⟨_, rfl, by rw [hg.out]; exact Wb.nil _ _ _, Below.refl _ _⟩
        · have hg : Hid (glu l r = [32]) := by
            unfold Hid glu glB
            rw [hln, hrn, hbl, decide_eq_false h0, decide_eq_false m0, decide_eq_false hp]
            rfl
          rw [show decide (at8 r 0 = UInt8.ofNat 41) = false from decide_eq_false hp] at u1
          generalize at8 l (n - 1) = z at *
          generalize at8 r 0 = y at *
          clear hln hrn NO HT HR hc hd hp
          go_enter Tryz.func92, Tryz.ntmps92
          go_wp2_with (first | (go_at_call 120; refine CB.out.mono ?_; rintro e w' ⟨rfl, hw⟩; have hq := hw.symm; subst hq; clear hw) | fail)
          go_ret
          exact ⟨_, rfl, by rw [hg.out]; exact Wb.new (blank_own w), bAlloc (Below.refl _ _) _⟩
end Go.Proofs.YtppefcnopkmhbaaGreatDoor

namespace Go.Proofs.YtppefcnopkmhbaaGreatDoor
open Go.RowKit

def tlRen : Go.Shelf.Ren := ⟨fun | 8 => 91 | 9 => 116 | 11 => 117 | 12 => 118 | 14 => 119 | 16 => 138 | 17 => 139 | 18 => 140 | 20 => 148 | n => n, fun | 22 => 22 | 9 => 9 | 3 => 3 | 4 => 4 | 5 => 5 | 28 => 144 | 27 => 143 | 0 => 0 | 31 => 147 | 33 => 154 | 21 => 21 | 36 => 162 | 37 => 115 | 40 => 165 | 39 => 164 | n => n, fun | 0 => 1 | 1 => 2 | n => n⟩
theorem tlLays : Go.Proofs.SlLaysV.n8 Tryz.prog tlRen where
  mixed := by kernel_rfl
  f8 := Tryz.func91.trans (congrArg some (by kernel_rfl))
  f9 := Tryz.func116.trans (congrArg some (by kernel_rfl))
  f11 := Tryz.func117.trans (congrArg some (by kernel_rfl))
  f12 := Tryz.func118.trans (congrArg some (by kernel_rfl))
  f14 := Tryz.func119.trans (congrArg some (by kernel_rfl))
  f16 := Tryz.func138.trans (congrArg some (by kernel_rfl))
  f17 := Tryz.func139.trans (congrArg some (by kernel_rfl))
  f18 := Tryz.func140.trans (congrArg some (by kernel_rfl))
  f20 := Tryz.func148.trans (congrArg some (by kernel_rfl))
  t0 := Tryz.underlying0
  a0 := Tryz.isAgg0
  z0 := Tryz.sizeOf0
  v0 := Tryz.zeroValue0
  t3 := Tryz.underlying3
  a3 := Tryz.isAgg3
  z3 := Tryz.sizeOf3
  v3 := Tryz.zeroValue3
  t4 := Tryz.underlying4
  a4 := Tryz.isAgg4
  z4 := Tryz.sizeOf4
  v4 := Tryz.zeroValue4
  t5 := Tryz.underlying5
  a5 := Tryz.isAgg5
  z5 := Tryz.sizeOf5
  v5 := Tryz.zeroValue5
  t9 := Tryz.underlying9
  a9 := Tryz.isAgg9
  z9 := Tryz.sizeOf9
  v9 := Tryz.zeroValue9
  t21 := Tryz.underlying21
  a21 := Tryz.isAgg21
  z21 := Tryz.sizeOf21
  v21 := Tryz.zeroValue21
  t22 := Tryz.underlying22
  a22 := Tryz.isAgg22
  z22 := Tryz.sizeOf22
  v22 := Tryz.zeroValue22
  t27 := Tryz.underlying143
  a27 := Tryz.isAgg143
  z27 := Tryz.sizeOf143
  t28 := Tryz.underlying144
  a28 := Tryz.isAgg144
  z28 := Tryz.sizeOf144
  v28 := Tryz.zeroValue144
  t31 := Tryz.underlying147
  a31 := Tryz.isAgg147
  z31 := Tryz.sizeOf147
  v31 := Tryz.zeroValue147
  t33 := Tryz.underlying154
  a33 := Tryz.isAgg154
  z33 := Tryz.sizeOf154
  v33 := Tryz.zeroValue154
  t36 := Tryz.underlying162
  a36 := Tryz.isAgg162
  z36 := Tryz.sizeOf162
  t37 := Tryz.underlying115
  a37 := Tryz.isAgg115
  z37 := Tryz.sizeOf115
  v37 := Tryz.zeroValue115
  t39 := Tryz.underlying164
  a39 := Tryz.isAgg164
  z39 := Tryz.sizeOf164
  v39 := Tryz.zeroValue164
  t40 := Tryz.underlying165
  a40 := Tryz.isAgg165
  z40 := Tryz.sizeOf165
  v40 := Tryz.zeroValue165
set_option maxRecDepth 8000
/-- how many blanks stand ahead -/
def lb2 : List UInt8 → Nat
  | [] => 0
  | x :: t => if bl x = true then lb2 t + 1 else 0
theorem lb2_le : ∀ l : List UInt8, lb2 l ≤ l.length
  | [] => Nat.le_refl _
  | x :: t => by
    unfold lb2
    have := lb2_le t
    split
    · simp; exact this
    · exact Nat.zero_le _
theorem lb2_all : ∀ {l : List UInt8} {j : Nat}, j < lb2 l → bl (at8 l j) = true
  | [], _, h => absurd h (Nat.not_lt_zero _)
  | x :: t, j, h => by
    unfold lb2 at h
    split at h
    · rename_i hx
      cases j with
      | zero => exact hx
      | succ j => exact lb2_all (l := t) (j := j) (by omega)
    · omega
theorem lb2_stop : ∀ {l : List UInt8}, lb2 l < l.length → bl (at8 l (lb2 l)) = false
  | [], h => absurd h (Nat.not_lt_zero _)
  | x :: t, h => by
    cases hx : bl x with
    | true =>
      have e : lb2 (x :: t) = lb2 t + 1 := by show (if bl x = true then lb2 t + 1 else 0) = _; rw [hx]; rfl
      rw [e] at h ⊢
      exact lb2_stop (l := t) (by simpa using h)
    | false =>
      have e : lb2 (x :: t) = 0 := by show (if bl x = true then lb2 t + 1 else 0) = _; rw [hx]; rfl
      rw [e]
      exact hx
theorem bl_has (x : UInt8) : ([32, 9] : List UInt8).contains x = bl x := by
  unfold bl
  rw [Bool.eq_iff_iff]
  simp only [List.contains_cons, List.contains_nil, Bool.or_false, Bool.or_eq_true, beq_iff_eq]
  have e : ∀ k : Nat, k < 256 → (x = UInt8.ofNat k ↔ (x.toNat : Int) = (k : Int)) := fun k hk => by
    constructor
    · intro h; rw [h, UInt8.toNat_ofNat']; omega
    · intro h; apply UInt8.toNat_inj.1; rw [UInt8.toNat_ofNat']; omega
  exact or_congr (e 32 (by omega)) (e 9 (by omega))
/-- a slice's end, in every world that holds the whole -/
theorem sl_all {w : World} {ao : Option Addr} {n c lo : Nat} {l : List UInt8} {z : Int} (h : Tx w ao n c l) (hlo : lo ≤ n) (hz : z = (lo : Int)) : ∃ a' c', (∀ W, (Instr.sliceAt 22 (.slice ao n c) (some (.int .i64 z)) none none).run Tryz.prog W = .ok (.slice a' (n - lo) c') W) ∧ ∀ V, Tx V ao n c l → Tx V a' (n - lo) c' (l.drop lo) := by
  obtain ⟨a', c', h1, h2⟩ := sl_l h hlo hz
  refine ⟨a', c', h1, fun V hV => ?_⟩
  obtain ⟨a2, c2, h3, h4⟩ := sl_l hV hlo hz
  have e := (h1 V).symm.trans (h3 V)
  simp at e
  obtain ⟨rfl, rfl⟩ := e
  exact h4
theorem contains_set (B : Nat) (x : UInt8) (v : Bool) (w : World) (hc : w.cell? ⟨B, x.toNat, none⟩ = some (.bool v)) :
    Calls Tryz.prog 138 #[.pointer (some ⟨B, 0, none⟩), .int .u8 (x.toNat : Int)] w fun e w' => e = .returned (.bool v) ∧ w' = w := Any.bytes_asciiSet_contains { tlLays with } B x v w hc
set_option maxHeartbeats 4000000 in
theorem trimAscii_any (ao : Option Addr) (n c B : Nat) (l : List UInt8) (w : World) (HT : Hid (Tx w ao n c l)) (HB : Hid (∀ x : UInt8, w.cell? ⟨B, x.toNat, none⟩ = some (.bool (bl x)))) :
    Calls Tryz.prog 118 #[.slice ao n c, .pointer (some ⟨B, 0, none⟩)] w fun e w' => (∃ a' c', e = .returned (.slice a' (n - lb2 l) c') ∧ Hid (∀ V, Tx V ao n c l → Tx V a' (n - lb2 l) c' (l.drop (lb2 l)))) ∧ w' = w := by
  have HL := Hid.mk' HT.out.len
  have hld : lb2 l ≤ n := by have := lb2_le l; have := HL.out; omega
  have HD := Hid.mk' hld
  clear hld
  go_enter Tryz.func118, Tryz.ntmps118
  go_wp2_with fail
  go_loopg [0] n (fun m x0 wx => ∃ (i : Nat) (a' : Option Addr) (c' : Nat), x0 = .slice a' m c' ∧ i + m = n ∧ i ≤ lb2 l ∧ Hid (∀ V, Tx V ao n c l → Tx V a' m c' (l.drop i)) ∧ wx = w)
  case atStart => exact ⟨0, ao, c, rfl, by omega, by omega, fun V hV => by rw [List.drop_zero]; exact hV, rfl⟩
  case round =>
    obtain ⟨i, a', c', rfl, him, hil, KV, rfl⟩ := hrel
    have KT := Hid.mk' (KV.out _ HT.out)
    by_cases hg : gk = 0
    · subst hg
      have e : lb2 l = i := by have := HD.out; omega
      go_wp2
      go_ret
      refine ⟨⟨none, 0, ?_, ?_⟩, rfl⟩
      · rw [show n - lb2 l = 0 by omega]; rfl
      · rw [show n - lb2 l = 0 by omega, show l.drop (lb2 l) = [] from List.drop_eq_nil_of_le (by have := HL.out; omega)]
        exact fun V _ => tx_nil _
    · obtain ⟨go, hgo⟩ : ∃ g, gk = g + 1 := ⟨gk - 1, by omega⟩
      subst hgo
      obtain ⟨g, o, rfl, hc⟩ := KT.out.at (by omega)
      have h0 := hc 0 (by omega)
      have h0' : wr.cell? ⟨g, o, none⟩ = some (.int .u8 ((at8 l i).toNat : Int)) := by rw [Nat.add_zero, at8_drop, Nat.add_zero] at h0; exact h0
      have CN := contains_set B (at8 l i) (bl (at8 l i)) wr (HB.out _)
      have hpos : (0 : Int) < ((go + 1 : Nat) : Int) := by omega
      have hne : ¬ (((go + 1 : Nat) : Int) = 0) := by omega
      clear hc h0
      by_cases hb : bl (at8 l i) = true
      · have hil2 : i + 1 ≤ lb2 l := by
          rcases Nat.lt_or_ge i (lb2 l) with h | h
          · omega
          · have e : lb2 l = i := by omega
            have := lb2_stop (l := l) (by have := HL.out; omega)
            rw [e, hb] at this
            cases this
        rw [hb] at CN
        have C2 := Hid.mk' CN
        obtain ⟨a3, c3, hs3, hT3⟩ := sl_all KT.out (lo := 1) (z := (1 : Int)) (by omega) rfl
        rw [show go + 1 - 1 = go by omega] at hT3
        have hT4 : Hid (∀ V, Tx V ao n c l → Tx V a3 go c3 (l.drop (i + 1))) := fun V hV => by have := hT3 V (KV.out V hV); rwa [List.drop_drop] at this
        rw [show go + 1 - 1 = go by omega] at hs3
        clear CN hT3 hb
        go_wp2_with (first | (go_at_call 138; refine C2.out.mono ?_; rintro e w' ⟨rfl, hw⟩; have hq := hw.symm; subst hq; clear hw) | fail)
        go_roundg go
        case measure => omega
        case rel => exact ⟨i + 1, a3, c3, rfl, by omega, hil2, hT4.out, rfl⟩
      · have hb' : bl (at8 l i) = false := by simpa using hb
        rw [hb'] at CN
        have C2 := Hid.mk' CN
        have e : lb2 l = i := by
          rcases Nat.lt_or_ge i (lb2 l) with h | h
          · exact absurd (lb2_all h) hb
          · omega
        clear CN hb hb'
        go_wp2_with (first | (go_at_call 138; refine C2.out.mono ?_; rintro e w' ⟨rfl, hw⟩; have hq := hw.symm; subst hq; clear hw) | fail)
        go_ret
        refine ⟨⟨some ⟨g, o, none⟩, c', ?_, ?_⟩, rfl⟩
        · rw [show n - lb2 l = go + 1 by omega]; rfl
        · rw [show n - lb2 l = go + 1 by omega, e]; exact KV
theorem set_twice (w : World) : (storeCells ⟨w.heap.size + 1, 0, none⟩ (Lib.setCells [32, 9]).toList 0).run Tryz.prog ((w.alloc (.cells (Lib.setCells [32, 9]) (tlRen.t 27))).alloc (.cells Tryz.zeroCells143 143)) = .ok () ((w.alloc (.cells (Lib.setCells [32, 9]) (tlRen.t 27))).alloc (.cells (Lib.setCells [32, 9]) (tlRen.t 27))) := by
  have e : Tryz.zeroCells143 = Array.replicate 256 (.bool false) := by kernel_rfl
  have h143 : tlRen.t 27 = 143 := rfl
  have := run_storeCells_new (P := Tryz.prog) (w.alloc (.cells (Lib.setCells [32, 9]) (tlRen.t 27))) (tlRen.t 27) (Array.replicate 256 (.bool false)) (Lib.setCells [32, 9]) (by rw [Lib.setCells_size]; kernel_rfl) (by rw [Lib.setCells_size, Array.size_replicate]) (Lib.setCells_one _)
  rw [e, ← h143]
  simpa using this
set_option maxHeartbeats 8000000 in
theorem trimSet_any (ao : Option Addr) (n c : Nat) (l : List UInt8) (w : World) (HT : Hid (Tx w ao n c l)) :
    Calls Tryz.prog 91 #[.slice ao n c, .string ⟨#[32, 9]⟩] w fun e w' => (∃ a' c', e = .returned (.slice a' (n - lb2 l) c') ∧ Hid (∀ V, Tx V ao n c l → Tx V a' (n - lb2 l) c' (l.drop (lb2 l)))) ∧ Below w.heap.size w w' := by
  have HL := Hid.mk' HT.out.len
  by_cases h0 : n = 0
  · subst h0
    have hl : l = [] := List.eq_nil_of_length_eq_zero HL.out
    subst hl
    clear HT
    go_enter Tryz.func91, Tryz.ntmps91
    go_wp2
    go_ret
    exact ⟨⟨none, 0, rfl, fun V _ => tx_nil _⟩, Below.refl _ _⟩
  · have hn0 : ((n : Int) == 0) = false := beq_eq_false_iff_ne.2 (by omega)
    have hM : Calls Tryz.prog 117 #[.string ⟨#[32, 9]⟩] w fun e w' => e = .returned (.tuple #[.agg (Lib.setCells [32, 9]), .bool true]) ∧ w' = w.alloc (.cells (Lib.setCells [32, 9]) (tlRen.t 27)) :=
      Any.bytes_makeASCIISet { tlLays with } (zero_of_info (show (Tryz.prog.info? (tlRen.t 27)).map (fun i => (i.zero, i.size)) = some (some (.agg (Array.replicate 256 (.bool false))), 256) by kernel_rfl)).1 (by kernel_rfl) ⟨#[32, 9]⟩ w (by decide) (ascii_of_all (by decide))
    have hsc := set_twice w
    obtain ⟨W2, hW2⟩ : ∃ x, (w.alloc (.cells (Lib.setCells [32, 9]) (tlRen.t 27))).alloc (.cells (Lib.setCells [32, 9]) (tlRen.t 27)) = x := ⟨_, rfl⟩
    have hcell : ∀ x : UInt8, W2.cell? ⟨w.heap.size + 1, x.toNat, none⟩ = some (.bool (bl x)) := fun x => by
      rw [← hW2, World.cell?_alloc_at _ _ _ _ (by simp), Lib.setCells_at, bl_has]
    have hb2 : Below w.heap.size w W2 := by rw [← hW2]; exact bAlloc (bAlloc (Below.refl _ _) _) _
    have CT := Hid.mk' (trimAscii_any ao n c (w.heap.size + 1) l W2 (HT.out.keep hb2) hcell)
    have HB2 := Hid.mk' hb2
    rw [hW2] at hsc
    clear HT hcell hb2
    go_enter Tryz.func91, Tryz.ntmps91
    go_wp2_with (first | (go_at_call 117; refine hM.mono ?_; rintro e w' ⟨rfl, hw⟩; rw [hw]) | fail)

    clear hM hsc
    refine CT.out.mono ?_
    rintro e w' ⟨⟨a', c', rfl, hT⟩, hw⟩
    have hq := hw.symm
    subst hq
    go_wp2_with fail
    go_ret
    exact ⟨⟨a', c', rfl, hT⟩, HB2.out⟩
end Go.Proofs.YtppefcnopkmhbaaGreatDoor
