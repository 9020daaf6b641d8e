/- Rov -/
import Derived.Test.YtppefcnopkmhbaaGreatDoorPs24
namespace Go.Proofs.YtppefcnopkmhbaaGreatDoor
open Go.RowKit

set_option maxRecDepth 8000
/-- what a reference's call answers -/
def RfQ (x : Ef) (z : Int) (w : World) (e : Ending) (w' : World) : Prop := ∃ v F tv, e = .returned (.tuple #[efV v tv x, .int .i64 z]) ∧ Efr w' v tv F x ∧ Below w.heap.size w w'
theorem RfQ.no {z : Int} {w w' : World} (hb : Below w.heap.size w w') : RfQ ef0 z w (.returned (.tuple #[efz, .int .i64 z])) w' := ⟨.slice none 0 0, [], .slice none 0 0, rfl, efz_efr w', hb⟩
theorem en_bgk {l : List UInt8} {k : Nat} (h : k ≤ l.length) : en l (sp l (nl (l.take k))) = k + ow l k := by
  rw [sp_of l k h, ow_en]
  have h1 := place_en h
  have h2 := en_le (Nat.le_trans (bg_le l k) h)
  have h3 := bg_le l k
  symm
  refine en_eq h1 h2 (fun j hj1 hj2 => en_none (by omega) hj2) ?_
  rcases Nat.lt_or_ge (en l (bg l k)) l.length with h4 | h4
  · exact .inr (en_edge h4)
  · exact .inl (by omega)
theorem edr_offe {W W' : World} {ao : Option Addr} {E : List Er} {B : Nat} {v tv : Value} {cur how : Int} {set lin typ : Bool} (h : Edr W ao E) (hK : Blk W B 35 (ef7 v cur set lin tv how typ)) (hv : ∀ z, v ≠ .int .i64 z) (ht : ∀ z, tv ≠ .int .i64 z) (hg : W.grownBy W' (some B)) : Edr W' ao E := by
  intro k r hk
  obtain ⟨g, o, h0, h1, h2, h3⟩ := h k r hk
  have hne : g ≠ B := fun e => by
    subst e
    have hc1 := h1
    have hc2 := h2
    rw [cell_of_row W g _ _ 35 (0, 0) hK] at hc1
    rw [cell_of_row W g _ _ 35 (0, 0) hK] at hc2
    generalize o + k * 3 = j at *
    match j, hc1, hc2 with
    | 0, hc1, _ => simp [ef7] at hc1; exact hv _ hc1
    | 1, _, hc2 => simp [ef7] at hc2
    | 2, hc1, _ => simp [ef7] at hc1
    | 3, hc1, _ => simp [ef7] at hc1
    | 4, hc1, _ => simp [ef7] at hc1; exact ht _ hc1
    | 5, _, hc2 => simp [ef7] at hc2
    | 6, hc1, _ => simp [ef7] at hc1
    | i + 7, hc1, _ => simp [ef7] at hc1
  exact ⟨g, o, h0, by rw [World.cell?_of_block (hg.block _ (lt_of_cell h1) (by simpa using hne))]; exact h1, by rw [World.cell?_of_block (hg.block _ (lt_of_cell h2) (by simpa using hne))]; exact h2, by rw [World.cell?_of_block (hg.block _ (lt_of_cell h3) (by simpa using hne))]; exact h3⟩
theorem edz_offe {W W' : World} {ao vo to' : Option Addr} {n1 c1 n2 c2 : Nat} {E : List Er} {B : Nat} {cur how : Int} {set lin typ : Bool} (h : Edz W ao E) (hK : Blk W B 35 (ef7 (.slice vo n1 c1) cur set lin (.slice to' n2 c2) how typ)) (hg : W.grownBy W' (some B)) : Edz W' ao E :=
  ⟨edr_offe h.row hK (by intro z e; cases e) (by intro z e; cases e) hg, fun k r hk => by
    have := h.txs k r hk
    exact ⟨this.t1.offe hK (by intro z e; cases e) (by intro z e; cases e) hg, this.t2.offe hK (by intro z e; cases e) (by intro z e; cases e) hg, this.b1, this.b2⟩⟩
theorem RfQ.out {x : Ef} {z : Int} {w w5 w6 : World} {ao : Option Addr} {c : Nat} {F : List Er} {B : Nat} (hF : F.map Er.d = x.es) (hE : Edz w5 ao F) (hx : x.txt = []) (hK : Blk w5 B 35 (ef7 (.slice none 0 0) 0 false false (.slice none 0 0) 0 false)) (hb : Below w.heap.size w w5) (hg : w5.grownBy w6 (some B)) (hB : w.heap.size ≤ B) :
    RfQ x z w (.returned (.tuple #[efV (.slice ao F.length c) (.slice none 0 0) x, .int .i64 z])) w6 := by
  refine ⟨_, F, .slice none 0 0, rfl, ⟨hF, ⟨ao, c, rfl, edz_offe hE hK hg⟩, ⟨none, 0, ?_, ?_⟩⟩, hb.grown hg hb.size (fun g hg' => by injection hg' with hg'; omega)⟩
  · rw [hx]; rfl
  · rw [hx]; exact tx_nil w6
set_option maxHeartbeats 8000000 in
set_option linter.unusedSimpArgs false in
theorem rover_args (ao : Option Addr) (n c : Nat) (l : List UInt8) (at' q : Int) (b : UInt8) (w : World) (HT : Hid (Tx w ao n c l)) (h : ¬ ((0 ≤ at' ∧ at' ≤ (n : Int)) ∧ cntB q = true)) :
    Calls Tryz.prog 17 #[.slice ao n c, .int .i64 at', .int .i64 q, .int .u8 (b.toNat : Int)] w fun e w' => RfQ ef0 2 w e w' := by
  have hfit : (decide (0 ≤ at' ∧ at' ≤ (n : Int)) && cntB q) = false := by
    cases e : cntB q with
    | false => rw [Bool.and_false]
    | true => rw [Bool.and_true]; exact decide_eq_false (fun h1 => h ⟨h1, e⟩)
  obtain ⟨W1, hW1⟩ : ∃ x, w.alloc (.cells #[.slice none 0 0, .int .i64 0, .bool false, .bool false, .slice none 0 0, .int .i64 0, .bool false] 35) = x := ⟨_, rfl⟩
  obtain ⟨B, hB⟩ : ∃ b, w.heap.size = b := ⟨_, rfl⟩
  have HB := Hid.mk' hB
  have J1 : Hid (Blk W1 B 35 (ef7 (.slice none 0 0) 0 false false (.slice none 0 0) 0 false)) := by unfold Hid; rw [← hW1, ← hB]; exact Blk.new w 35 _
  have L1 : Hid (Below w.heap.size w W1) := by unfold Hid; rw [← hW1]; exact bAlloc (Below.refl _ _) _
  have HT1 := Hid.mk' (HT.out.keep L1.out)
  have HLN := Hid.mk' HT.out.len
  go_enter Tryz.func17, Tryz.ntmps17
  go_upto_region 1 with fail
  clear hW1 hB HT
  go_upto_region 2 with (first | (go_at_call 40; have CP := rfit_any ao n c at' q W1; rw [hfit] at CP; refine CP.mono ?_; rintro e w' ⟨rfl, hw⟩; have hq := hw.symm; subst hq; clear hw CP) | fail)
  obtain ⟨j0, j1, j2, j3, j4, j5, j6⟩ := ef_cells J1.out
  obtain ⟨f0, f1, f2, f3, f4, f5, f6⟩ := ef_frozen J1.out
  have hbk := ef_store J1.out (.slice none 0 0) (.int .i64 0) (.bool false) (.bool false) (.slice none 0 0) (.int .i64 0) (.bool false)
  have hgr := ef_grown W1 B (.slice none 0 0) (.int .i64 0) (.bool false) (.bool false) (.slice none 0 0) (.int .i64 0) (.bool false)
  go_wp2_with fail
  generalize (((((((W1.setCell ⟨B, 0, none⟩ (.slice none 0 0)).setCell ⟨B, 1, none⟩ (.int .i64 0)).setCell ⟨B, 2, none⟩ (.bool false)).setCell ⟨B, 3, none⟩ (.bool false)).setCell ⟨B, 4, none⟩ (.slice none 0 0)).setCell ⟨B, 5, none⟩ (.int .i64 0)).setCell ⟨B, 6, none⟩ (.bool false)) = w9 at *
  obtain ⟨g0, g1, g2, g3, g4, g5, g6⟩ := ef_cells hbk
  refine bodyPost_ret (v := .tuple #[efz, .int .i64 2]) (by simp [results, efz, Tryz.results17, go_sem, g0, g1, g2, g3, g4, g5, g6]) rfl (RfQ.no ?_)
  exact (L1.out).grown hgr (L1.out).size (fun g hg => by injection hg with hg; rw [← hg, HB.out]; exact Nat.le_refl B)
set_option maxHeartbeats 8000000 in
set_option linter.unusedSimpArgs false in
theorem rover_none (ao : Option Addr) (n c k q : Nat) (l : List UInt8) (b : UInt8) (w : World) (HT : Hid (Tx w ao n c l)) (hk : k ≤ n) (hbig : n ≤ 1048576) (hq1 : 1 ≤ q) (hq : q ≤ 9999) (hlt : ow l k < q) :
    Calls Tryz.prog 17 #[.slice ao n c, .int .i64 (k : Int), .int .i64 (q : Int), .int .u8 (b.toNat : Int)] w fun e w' => RfQ ef0 190 w e w' := by
  obtain ⟨W1, hW1⟩ : ∃ x, w.alloc (.cells #[.slice none 0 0, .int .i64 0, .bool false, .bool false, .slice none 0 0, .int .i64 0, .bool false] 35) = x := ⟨_, rfl⟩
  obtain ⟨B, hB⟩ : ∃ b, w.heap.size = b := ⟨_, rfl⟩
  have HB := Hid.mk' hB
  have J1 : Hid (Blk W1 B 35 (ef7 (.slice none 0 0) 0 false false (.slice none 0 0) 0 false)) := by unfold Hid; rw [← hW1, ← hB]; exact Blk.new w 35 _
  have L1 : Hid (Below w.heap.size w W1) := by unfold Hid; rw [← hW1]; exact bAlloc (Below.refl _ _) _
  have HT1 := Hid.mk' (HT.out.keep L1.out)
  have HLN := Hid.mk' HT.out.len
  have hfit : (decide (0 ≤ (k : Int) ∧ (k : Int) ≤ (n : Int)) && cntB (q : Int)) = true := by
    unfold cntB; rw [decide_eq_true (by omega), decide_eq_true (by omega), decide_eq_true (by omega)]; rfl
  have hnk := nl_take_le l k
  have hnl := nl_le l
  rw [HLN.out] at hnl
  have CO := Hid.mk' (rof_at (ao := ao) (c := c) hk HT1.out)
  have he9 := en_bgk (l := l) (k := k) (by rw [HLN.out]; exact hk)
  have CE : Hid (∀ W, Below W1.heap.size W1 W → Calls Tryz.prog 44 #[.slice ao n c, .int .i64 (nl (l.take k) : Int)] W fun e w' => e = .returned (.tuple #[.int .i64 ((k + ow l k : Nat) : Int), .int .i64 0]) ∧ w' = W) := fun W hW => by
    have h := refEnd_any ao n c (nl (l.take k) : Int) l W (by omega) (HT1.out.keep hW)
    rw [pr_end hnk, he9] at h
    exact h
  clear he9
  generalize nl (l.take k) = i0 at *
  have hol := ow_le (l := l) (i := k) (by rw [HLN.out]; exact hk)
  rw [HLN.out] at hol
  obtain ⟨m, hm⟩ : ∃ m, ow l k = m := ⟨_, rfl⟩
  rw [hm] at CE hol
  rw [Int.natCast_add] at CE
  rw [hm] at hlt
  have hw1 : IntKind.i64.wrap ((k : Int) + (q : Int)) = (k : Int) + (q : Int) := by rw [IntKind.wrap_i64]; omega
  have hlt' : (k : Int) + (m : Int) < (k : Int) + (q : Int) := by omega
  have hlt2 : (m : Int) < (q : Int) := by omega
  clear hm
  go_enter Tryz.func17, Tryz.ntmps17
  go_upto_region 1 with fail
  clear hW1 hB HT
  go_upto_region 3 with (first | (go_at_call 40; have CP := rfit_any ao n c (k : Int) (q : Int) W1; rw [hfit] at CP; refine CP.mono ?_; rintro e w' ⟨rfl, hw⟩; have hq := hw.symm; subst hq; clear hw CP) | fail)
  clear hfit
  go_wp2_with fail
  refine CO.out.mono ?_
  rintro e w2 ⟨rfl, hw9⟩
  have hb2 : Below W1.heap.size W1 w2 := by rw [hw9]; exact Below.refl _ _
  clear hw9
  have B2 := Hid.mk' hb2
  have J2 := Hid.mk' (J1.out.keep hb2)
  clear hb2 CO
  go_upto_region 4 with fail
  go_wp2_with fail
  refine (CE.out w2 B2.out).mono ?_
  rintro e w' ⟨rfl, hw⟩
  have hq9 := hw.symm
  subst hq9
  clear hw CE
  go_upto_region 6 with fail
  obtain ⟨j0, j1, j2, j3, j4, j5, j6⟩ := ef_cells J2.out
  obtain ⟨f0, f1, f2, f3, f4, f5, f6⟩ := ef_frozen J2.out
  have hbk := ef_store J2.out (.slice none 0 0) (.int .i64 0) (.bool false) (.bool false) (.slice none 0 0) (.int .i64 0) (.bool false)
  have hgr := ef_grown w2 B (.slice none 0 0) (.int .i64 0) (.bool false) (.bool false) (.slice none 0 0) (.int .i64 0) (.bool false)
  go_wp2_with fail
  generalize (((((((w2.setCell ⟨B, 0, none⟩ (.slice none 0 0)).setCell ⟨B, 1, none⟩ (.int .i64 0)).setCell ⟨B, 2, none⟩ (.bool false)).setCell ⟨B, 3, none⟩ (.bool false)).setCell ⟨B, 4, none⟩ (.slice none 0 0)).setCell ⟨B, 5, none⟩ (.int .i64 0)).setCell ⟨B, 6, none⟩ (.bool false)) = w9 at *
  obtain ⟨g0, g1, g2, g3, g4, g5, g6⟩ := ef_cells hbk
  refine bodyPost_ret (v := .tuple #[efz, .int .i64 190]) (by simp [results, efz, Tryz.results17, go_sem, g0, g1, g2, g3, g4, g5, g6]) rfl (RfQ.no ?_)
  exact (bT L1.out B2.out).grown hgr (bT L1.out B2.out).size (fun g hg => by injection hg with hg; rw [← hg, HB.out]; exact Nat.le_refl B)
set_option maxHeartbeats 8000000 in
set_option linter.unusedSimpArgs false in
theorem rover_ten (ao : Option Addr) (n c k q : Nat) (l : List UInt8) (b : UInt8) (w : World) (HT : Hid (Tx w ao n c l)) (hk : k ≤ n) (hbig : n ≤ 1048576) (hq1 : 1 ≤ q) (hq : q ≤ 9999) (hlt : ¬ ow l k < q) (e1 : ((b.toNat : Int) == 10) = true) :
    Calls Tryz.prog 17 #[.slice ao n c, .int .i64 (k : Int), .int .i64 (q : Int), .int .u8 (b.toNat : Int)] w fun e w' => RfQ ⟨sw l k (k + q) [10], (k : Int) + 1, false, false, [], 0, false⟩ 0 w e w' := by
  obtain ⟨W1, hW1⟩ : ∃ x, w.alloc (.cells #[.slice none 0 0, .int .i64 0, .bool false, .bool false, .slice none 0 0, .int .i64 0, .bool false] 35) = x := ⟨_, rfl⟩
  obtain ⟨B, hB⟩ : ∃ b, w.heap.size = b := ⟨_, rfl⟩
  have HB := Hid.mk' hB
  have J1 : Hid (Blk W1 B 35 (ef7 (.slice none 0 0) 0 false false (.slice none 0 0) 0 false)) := by unfold Hid; rw [← hW1, ← hB]; exact Blk.new w 35 _
  have L1 : Hid (Below w.heap.size w W1) := by unfold Hid; rw [← hW1]; exact bAlloc (Below.refl _ _) _
  have HT1 := Hid.mk' (HT.out.keep L1.out)
  have HLN := Hid.mk' HT.out.len
  have hfit : (decide (0 ≤ (k : Int) ∧ (k : Int) ≤ (n : Int)) && cntB (q : Int)) = true := by
    unfold cntB; rw [decide_eq_true (by omega), decide_eq_true (by omega), decide_eq_true (by omega)]; rfl
  have hnk := nl_take_le l k
  have hnl := nl_le l
  rw [HLN.out] at hnl
  have CO := Hid.mk' (rof_at (ao := ao) (c := c) hk HT1.out)
  have he9 := en_bgk (l := l) (k := k) (by rw [HLN.out]; exact hk)
  have CE : Hid (∀ W, Below W1.heap.size W1 W → Calls Tryz.prog 44 #[.slice ao n c, .int .i64 (nl (l.take k) : Int)] W fun e w' => e = .returned (.tuple #[.int .i64 ((k + ow l k : Nat) : Int), .int .i64 0]) ∧ w' = W) := fun W hW => by
    have h := refEnd_any ao n c (nl (l.take k) : Int) l W (by omega) (HT1.out.keep hW)
    rw [pr_end hnk, he9] at h
    exact h
  clear he9
  generalize nl (l.take k) = i0 at *
  have hol := ow_le (l := l) (i := k) (by rw [HLN.out]; exact hk)
  rw [HLN.out] at hol
  obtain ⟨m, hm⟩ : ∃ m, ow l k = m := ⟨_, rfl⟩
  rw [hm] at CE hol
  rw [Int.natCast_add] at CE
  rw [hm] at hlt
  have hkq : k + q ≤ n := by omega
  have hw1 : IntKind.i64.wrap ((k : Int) + (q : Int)) = ((k + q : Nat) : Int) := by rw [IntKind.wrap_i64]; omega
  obtain ⟨t, ht⟩ : ∃ t, k + q = t := ⟨_, rfl⟩
  rw [ht] at hw1 hkq
  have hlt' : ¬ (k : Int) + (m : Int) < (t : Int) := by omega
  have hkt : k ≤ t := by omega
  have HKQ := Hid.mk' ht
  rw [ht]
  clear ht hm hlt
  have hw2 : IntKind.i64.wrap ((k : Int) + 1) = (k : Int) + 1 := by rw [IntKind.wrap_i64]; omega
  have CS : Hid (∀ (W : World), Below W1.heap.size W1 W → Calls Tryz.prog 29 #[.slice ao n c, .int .i64 (k : Int), .int .i64 (t : Int), .slice (some ⟨W.heap.size, 0, none⟩) 1 1] (W.alloc (.cells #[.int .u8 10] 5)) fun e w' => EdP (sw l k t [10]) (W.alloc (.cells #[.int .u8 10] 5)) e w') := fun W hW =>
    redit_any ao n c k t l (some ⟨W.heap.size, 0, none⟩) 1 1 [10] (W.alloc (.cells #[.int .u8 10] 5)) (HT1.out.keep (bT hW (bAlloc (Below.refl _ _) _))) hkt hkq (by omega) ((Wb.new (ten_own W)).tx (by simp)) (by omega)
  go_enter Tryz.func17, Tryz.ntmps17
  go_upto_region 1 with fail
  clear hW1 hB HT
  go_upto_region 3 with (first | (go_at_call 40; have CP := rfit_any ao n c (k : Int) (q : Int) W1; rw [hfit] at CP; refine CP.mono ?_; rintro e w' ⟨rfl, hw⟩; have hq := hw.symm; subst hq; clear hw CP) | fail)
  clear hfit
  go_wp2_with fail
  refine CO.out.mono ?_
  rintro e w2 ⟨rfl, hw9⟩
  have hb2 : Below W1.heap.size W1 w2 := by rw [hw9]; exact Below.refl _ _
  clear hw9
  have B2 := Hid.mk' hb2
  have J2 := Hid.mk' (J1.out.keep hb2)
  clear hb2 CO
  go_upto_region 4 with fail
  go_wp2_with fail
  refine (CE.out w2 B2.out).mono ?_
  rintro e w' ⟨rfl, hw⟩
  have hq9 := hw.symm
  subst hq9
  clear hw CE
  go_upto_region 8 with fail
  clear hlt' e1
  go_wp2_with fail
  refine (CS.out w2 B2.out).mono ?_
  rintro e w5 ⟨eo, ec, F, rfl, hF, hE, hb5⟩
  obtain ⟨fn, hfn⟩ : ∃ fn, F.length = fn := ⟨_, rfl⟩
  rw [hfn]
  have HFN := Hid.mk' hfn
  have HF := Hid.mk' hF
  have E5 := Hid.mk' hE
  clear hF hE hfn
  have hbb := bT (bAlloc (Below.refl w2.heap.size w2) (.cells #[.int .u8 10] 5)) hb5
  have J5 := Hid.mk' (J2.out.keep hbb)
  have B5 := Hid.mk' (bT (bT L1.out B2.out) hbb)
  clear hbb hb5 CS
  obtain ⟨j0, j1, j2, j3, j4, j5, j6⟩ := ef_cells J5.out
  obtain ⟨f0, f1, f2, f3, f4, f5, f6⟩ := ef_frozen J5.out
  have hbk := ef_store J5.out (.slice eo fn ec) (.int .i64 ((k : Int) + 1)) (.bool false) (.bool false) (.slice none 0 0) (.int .i64 0) (.bool false)
  have hgr := ef_grown w5 B (.slice eo fn ec) (.int .i64 ((k : Int) + 1)) (.bool false) (.bool false) (.slice none 0 0) (.int .i64 0) (.bool false)
  go_wp2_with fail
  generalize (((((((w5.setCell ⟨B, 0, none⟩ (.slice eo fn ec)).setCell ⟨B, 1, none⟩ (.int .i64 ((k : Int) + 1))).setCell ⟨B, 2, none⟩ (.bool false)).setCell ⟨B, 3, none⟩ (.bool false)).setCell ⟨B, 4, none⟩ (.slice none 0 0)).setCell ⟨B, 5, none⟩ (.int .i64 0)).setCell ⟨B, 6, none⟩ (.bool false)) = w9 at *
  obtain ⟨g0, g1, g2, g3, g4, g5, g6⟩ := ef_cells hbk
  refine bodyPost_ret (v := .tuple #[.agg #[.slice eo fn ec, .int .i64 ((k : Int) + 1), .bool false, .bool false, .slice none 0 0, .int .i64 0, .bool false], .int .i64 0]) (by simp [results, Tryz.results17, go_sem, g0, g1, g2, g3, g4, g5, g6]) rfl ?_
  obtain rfl := HFN.out
  exact RfQ.out (x := ⟨sw l k t [10], (k : Int) + 1, false, false, [], 0, false⟩) HF.out E5.out rfl J5.out B5.out hgr (by have := HB.out; omega)
set_option maxHeartbeats 8000000 in
set_option linter.unusedSimpArgs false in
theorem rover_thirteen (ao : Option Addr) (n c k q : Nat) (l : List UInt8) (b : UInt8) (w : World) (HT : Hid (Tx w ao n c l)) (hk : k ≤ n) (hbig : n ≤ 1048576) (hq1 : 1 ≤ q) (hq : q ≤ 9999) (hlt : ¬ ow l k < q) (e1 : ((b.toNat : Int) == 10) = false) (e2 : ((b.toNat : Int) == 13) = true) :
    Calls Tryz.prog 17 #[.slice ao n c, .int .i64 (k : Int), .int .i64 (q : Int), .int .u8 (b.toNat : Int)] w fun e w' => RfQ ⟨sw l k (k + q) [10], (k : Int) + 1, false, false, [], 0, false⟩ 0 w e w' := by
  obtain ⟨W1, hW1⟩ : ∃ x, w.alloc (.cells #[.slice none 0 0, .int .i64 0, .bool false, .bool false, .slice none 0 0, .int .i64 0, .bool false] 35) = x := ⟨_, rfl⟩
  obtain ⟨B, hB⟩ : ∃ b, w.heap.size = b := ⟨_, rfl⟩
  have HB := Hid.mk' hB
  have J1 : Hid (Blk W1 B 35 (ef7 (.slice none 0 0) 0 false false (.slice none 0 0) 0 false)) := by unfold Hid; rw [← hW1, ← hB]; exact Blk.new w 35 _
  have L1 : Hid (Below w.heap.size w W1) := by unfold Hid; rw [← hW1]; exact bAlloc (Below.refl _ _) _
  have HT1 := Hid.mk' (HT.out.keep L1.out)
  have HLN := Hid.mk' HT.out.len
  have hfit : (decide (0 ≤ (k : Int) ∧ (k : Int) ≤ (n : Int)) && cntB (q : Int)) = true := by
    unfold cntB; rw [decide_eq_true (by omega), decide_eq_true (by omega), decide_eq_true (by omega)]; rfl
  have hnk := nl_take_le l k
  have hnl := nl_le l
  rw [HLN.out] at hnl
  have CO := Hid.mk' (rof_at (ao := ao) (c := c) hk HT1.out)
  have he9 := en_bgk (l := l) (k := k) (by rw [HLN.out]; exact hk)
  have CE : Hid (∀ W, Below W1.heap.size W1 W → Calls Tryz.prog 44 #[.slice ao n c, .int .i64 (nl (l.take k) : Int)] W fun e w' => e = .returned (.tuple #[.int .i64 ((k + ow l k : Nat) : Int), .int .i64 0]) ∧ w' = W) := fun W hW => by
    have h := refEnd_any ao n c (nl (l.take k) : Int) l W (by omega) (HT1.out.keep hW)
    rw [pr_end hnk, he9] at h
    exact h
  clear he9
  generalize nl (l.take k) = i0 at *
  have hol := ow_le (l := l) (i := k) (by rw [HLN.out]; exact hk)
  rw [HLN.out] at hol
  obtain ⟨m, hm⟩ : ∃ m, ow l k = m := ⟨_, rfl⟩
  rw [hm] at CE hol
  rw [Int.natCast_add] at CE
  rw [hm] at hlt
  have hkq : k + q ≤ n := by omega
  have hw1 : IntKind.i64.wrap ((k : Int) + (q : Int)) = ((k + q : Nat) : Int) := by rw [IntKind.wrap_i64]; omega
  obtain ⟨t, ht⟩ : ∃ t, k + q = t := ⟨_, rfl⟩
  rw [ht] at hw1 hkq
  have hlt' : ¬ (k : Int) + (m : Int) < (t : Int) := by omega
  have hkt : k ≤ t := by omega
  have HKQ := Hid.mk' ht
  rw [ht]
  clear ht hm hlt
  have hw2 : IntKind.i64.wrap ((k : Int) + 1) = (k : Int) + 1 := by rw [IntKind.wrap_i64]; omega
  have CS : Hid (∀ (W : World), Below W1.heap.size W1 W → Calls Tryz.prog 29 #[.slice ao n c, .int .i64 (k : Int), .int .i64 (t : Int), .slice (some ⟨W.heap.size, 0, none⟩) 1 1] (W.alloc (.cells #[.int .u8 10] 5)) fun e w' => EdP (sw l k t [10]) (W.alloc (.cells #[.int .u8 10] 5)) e w') := fun W hW =>
    redit_any ao n c k t l (some ⟨W.heap.size, 0, none⟩) 1 1 [10] (W.alloc (.cells #[.int .u8 10] 5)) (HT1.out.keep (bT hW (bAlloc (Below.refl _ _) _))) hkt hkq (by omega) ((Wb.new (ten_own W)).tx (by simp)) (by omega)
  go_enter Tryz.func17, Tryz.ntmps17
  go_upto_region 1 with fail
  clear hW1 hB HT
  go_upto_region 3 with (first | (go_at_call 40; have CP := rfit_any ao n c (k : Int) (q : Int) W1; rw [hfit] at CP; refine CP.mono ?_; rintro e w' ⟨rfl, hw⟩; have hq := hw.symm; subst hq; clear hw CP) | fail)
  clear hfit
  go_wp2_with fail
  refine CO.out.mono ?_
  rintro e w2 ⟨rfl, hw9⟩
  have hb2 : Below W1.heap.size W1 w2 := by rw [hw9]; exact Below.refl _ _
  clear hw9
  have B2 := Hid.mk' hb2
  have J2 := Hid.mk' (J1.out.keep hb2)
  clear hb2 CO
  go_upto_region 4 with fail
  go_wp2_with fail
  refine (CE.out w2 B2.out).mono ?_
  rintro e w' ⟨rfl, hw⟩
  have hq9 := hw.symm
  subst hq9
  clear hw CE
  go_upto_region 8 with fail
  clear hlt' e1
  go_wp2_with fail
  refine (CS.out w2 B2.out).mono ?_
  rintro e w5 ⟨eo, ec, F, rfl, hF, hE, hb5⟩
  obtain ⟨fn, hfn⟩ : ∃ fn, F.length = fn := ⟨_, rfl⟩
  rw [hfn]
  have HFN := Hid.mk' hfn
  have HF := Hid.mk' hF
  have E5 := Hid.mk' hE
  clear hF hE hfn
  have hbb := bT (bAlloc (Below.refl w2.heap.size w2) (.cells #[.int .u8 10] 5)) hb5
  have J5 := Hid.mk' (J2.out.keep hbb)
  have B5 := Hid.mk' (bT (bT L1.out B2.out) hbb)
  clear hbb hb5 CS
  obtain ⟨j0, j1, j2, j3, j4, j5, j6⟩ := ef_cells J5.out
  obtain ⟨f0, f1, f2, f3, f4, f5, f6⟩ := ef_frozen J5.out
  have hbk := ef_store J5.out (.slice eo fn ec) (.int .i64 ((k : Int) + 1)) (.bool false) (.bool false) (.slice none 0 0) (.int .i64 0) (.bool false)
  have hgr := ef_grown w5 B (.slice eo fn ec) (.int .i64 ((k : Int) + 1)) (.bool false) (.bool false) (.slice none 0 0) (.int .i64 0) (.bool false)
  go_wp2_with fail
  generalize (((((((w5.setCell ⟨B, 0, none⟩ (.slice eo fn ec)).setCell ⟨B, 1, none⟩ (.int .i64 ((k : Int) + 1))).setCell ⟨B, 2, none⟩ (.bool false)).setCell ⟨B, 3, none⟩ (.bool false)).setCell ⟨B, 4, none⟩ (.slice none 0 0)).setCell ⟨B, 5, none⟩ (.int .i64 0)).setCell ⟨B, 6, none⟩ (.bool false)) = w9 at *
  obtain ⟨g0, g1, g2, g3, g4, g5, g6⟩ := ef_cells hbk
  refine bodyPost_ret (v := .tuple #[.agg #[.slice eo fn ec, .int .i64 ((k : Int) + 1), .bool false, .bool false, .slice none 0 0, .int .i64 0, .bool false], .int .i64 0]) (by simp [results, Tryz.results17, go_sem, g0, g1, g2, g3, g4, g5, g6]) rfl ?_
  obtain rfl := HFN.out
  exact RfQ.out (x := ⟨sw l k t [10], (k : Int) + 1, false, false, [], 0, false⟩) HF.out E5.out rfl J5.out B5.out hgr (by have := HB.out; omega)
set_option maxHeartbeats 8000000 in
set_option linter.unusedSimpArgs false in
theorem rover_byte (ao : Option Addr) (n c k q : Nat) (l : List UInt8) (b : UInt8) (w : World) (HT : Hid (Tx w ao n c l)) (hk : k ≤ n) (hbig : n ≤ 1048576) (hq1 : 1 ≤ q) (hq : q ≤ 9999) (hlt : ¬ ow l k < q) (e1 : ((b.toNat : Int) == 10) = false) (e2 : ((b.toNat : Int) == 13) = false) :
    Calls Tryz.prog 17 #[.slice ao n c, .int .i64 (k : Int), .int .i64 (q : Int), .int .u8 (b.toNat : Int)] w fun e w' => RfQ ⟨sw l k (k + q) (rp [b] q), (k : Int) + (q : Int) - 1, false, false, [], 0, false⟩ 0 w e w' := by
  obtain ⟨W1, hW1⟩ : ∃ x, w.alloc (.cells #[.slice none 0 0, .int .i64 0, .bool false, .bool false, .slice none 0 0, .int .i64 0, .bool false] 35) = x := ⟨_, rfl⟩
  obtain ⟨B, hB⟩ : ∃ b, w.heap.size = b := ⟨_, rfl⟩
  have HB := Hid.mk' hB
  have J1 : Hid (Blk W1 B 35 (ef7 (.slice none 0 0) 0 false false (.slice none 0 0) 0 false)) := by unfold Hid; rw [← hW1, ← hB]; exact Blk.new w 35 _
  have L1 : Hid (Below w.heap.size w W1) := by unfold Hid; rw [← hW1]; exact bAlloc (Below.refl _ _) _
  have HT1 := Hid.mk' (HT.out.keep L1.out)
  have HLN := Hid.mk' HT.out.len
  have hfit : (decide (0 ≤ (k : Int) ∧ (k : Int) ≤ (n : Int)) && cntB (q : Int)) = true := by
    unfold cntB; rw [decide_eq_true (by omega), decide_eq_true (by omega), decide_eq_true (by omega)]; rfl
  have hnk := nl_take_le l k
  have hnl := nl_le l
  rw [HLN.out] at hnl
  have CO := Hid.mk' (rof_at (ao := ao) (c := c) hk HT1.out)
  have he9 := en_bgk (l := l) (k := k) (by rw [HLN.out]; exact hk)
  have CE : Hid (∀ W, Below W1.heap.size W1 W → Calls Tryz.prog 44 #[.slice ao n c, .int .i64 (nl (l.take k) : Int)] W fun e w' => e = .returned (.tuple #[.int .i64 ((k + ow l k : Nat) : Int), .int .i64 0]) ∧ w' = W) := fun W hW => by
    have h := refEnd_any ao n c (nl (l.take k) : Int) l W (by omega) (HT1.out.keep hW)
    rw [pr_end hnk, he9] at h
    exact h
  clear he9
  generalize nl (l.take k) = i0 at *
  have hol := ow_le (l := l) (i := k) (by rw [HLN.out]; exact hk)
  rw [HLN.out] at hol
  obtain ⟨m, hm⟩ : ∃ m, ow l k = m := ⟨_, rfl⟩
  rw [hm] at CE hol
  rw [Int.natCast_add] at CE
  rw [hm] at hlt
  have hkq : k + q ≤ n := by omega
  have hw1 : IntKind.i64.wrap ((k : Int) + (q : Int)) = ((k + q : Nat) : Int) := by rw [IntKind.wrap_i64]; omega
  obtain ⟨t, ht⟩ : ∃ t, k + q = t := ⟨_, rfl⟩
  rw [ht] at hw1 hkq
  have hlt' : ¬ (k : Int) + (m : Int) < (t : Int) := by omega
  have hkt : k ≤ t := by omega
  have HKQ := Hid.mk' ht
  rw [ht]
  clear ht hm hlt
  have hkt2 : (k : Int) + (q : Int) - 1 = (t : Int) - 1 := by have := HKQ.out; omega
  have hw2 : IntKind.i64.wrap ((t : Int) - 1) = (t : Int) - 1 := by rw [IntKind.wrap_i64]; omega
  rw [hkt2]
  clear hkt2
  have HRL : Hid ((rp [b] q).length = q) := by unfold Hid; rw [rp_len]; simp
  have CR : Hid (∀ (W : World), Calls Tryz.prog 42 #[.slice (some ⟨W.heap.size, 0, none⟩) 1 1, .int .i64 (q : Int)] (W.alloc (.cells #[.int .u8 (b.toNat : Int)] 5)) fun e w' => NewP q (rp [b] q) (W.alloc (.cells #[.int .u8 (b.toNat : Int)] 5)) e w') := fun W => by
    have h := rtimes_any (some ⟨W.heap.size, 0, none⟩) 1 1 q [b] (W.alloc (.cells #[.int .u8 (b.toNat : Int)] 5)) ((Wb.new (one_own W b)).tx (by simp)) hq (by omega)
    rw [Nat.one_mul] at h
    exact h
  go_enter Tryz.func17, Tryz.ntmps17
  go_upto_region 1 with fail
  clear hW1 hB HT
  go_upto_region 3 with (first | (go_at_call 40; have CP := rfit_any ao n c (k : Int) (q : Int) W1; rw [hfit] at CP; refine CP.mono ?_; rintro e w' ⟨rfl, hw⟩; have hq := hw.symm; subst hq; clear hw CP) | fail)
  clear hfit
  go_wp2_with fail
  refine CO.out.mono ?_
  rintro e w2 ⟨rfl, hw9⟩
  have hb2 : Below W1.heap.size W1 w2 := by rw [hw9]; exact Below.refl _ _
  clear hw9
  have B2 := Hid.mk' hb2
  have J2 := Hid.mk' (J1.out.keep hb2)
  clear hb2 CO
  go_upto_region 4 with fail
  go_wp2_with fail
  refine (CE.out w2 B2.out).mono ?_
  rintro e w' ⟨rfl, hw⟩
  have hq9 := hw.symm
  subst hq9
  clear hw CE
  go_upto_region 9 with fail
  clear hlt' e1 e2
  go_wp2_with fail
  refine (CR.out w2).mono ?_
  rintro e w3 ⟨v3, rfl, ho3, hb3⟩
  obtain ⟨p3, d3, rfl⟩ := own_shape ho3
  have hb9 := bT (bAlloc (Below.refl w2.heap.size w2) (.cells #[.int .u8 (b.toNat : Int)] 5)) hb3
  have J3 := Hid.mk' (J2.out.keep hb9)
  have B3 := Hid.mk' (bT B2.out hb9)
  have CS := Hid.mk' (redit_any ao n c k t l p3 q d3 (rp [b] q) w3 (HT1.out.keep B3.out) hkt hkq (by omega) (own_tx' ho3 (by omega)) (by omega))
  clear ho3 hb3 hb9 CR
  go_wp2_with fail
  refine CS.out.mono ?_
  rintro e w5 ⟨eo, ec, F, rfl, hF, hE, hb5⟩
  obtain ⟨fn, hfn⟩ : ∃ fn, F.length = fn := ⟨_, rfl⟩
  rw [hfn]
  have HFN := Hid.mk' hfn
  have HF := Hid.mk' hF
  have E5 := Hid.mk' hE
  clear hF hE hfn
  have J5 := Hid.mk' (J3.out.keep hb5)
  have B5 := Hid.mk' (bT (bT L1.out B3.out) hb5)
  clear hb5 CS
  obtain ⟨j0, j1, j2, j3, j4, j5, j6⟩ := ef_cells J5.out
  obtain ⟨f0, f1, f2, f3, f4, f5, f6⟩ := ef_frozen J5.out
  have hbk := ef_store J5.out (.slice eo fn ec) (.int .i64 ((t : Int) - 1)) (.bool false) (.bool false) (.slice none 0 0) (.int .i64 0) (.bool false)
  have hgr := ef_grown w5 B (.slice eo fn ec) (.int .i64 ((t : Int) - 1)) (.bool false) (.bool false) (.slice none 0 0) (.int .i64 0) (.bool false)
  go_wp2_with fail
  generalize (((((((w5.setCell ⟨B, 0, none⟩ (.slice eo fn ec)).setCell ⟨B, 1, none⟩ (.int .i64 ((t : Int) - 1))).setCell ⟨B, 2, none⟩ (.bool false)).setCell ⟨B, 3, none⟩ (.bool false)).setCell ⟨B, 4, none⟩ (.slice none 0 0)).setCell ⟨B, 5, none⟩ (.int .i64 0)).setCell ⟨B, 6, none⟩ (.bool false)) = w9 at *
  obtain ⟨g0, g1, g2, g3, g4, g5, g6⟩ := ef_cells hbk
  refine bodyPost_ret (v := .tuple #[.agg #[.slice eo fn ec, .int .i64 ((t : Int) - 1), .bool false, .bool false, .slice none 0 0, .int .i64 0, .bool false], .int .i64 0]) (by simp [results, Tryz.results17, go_sem, g0, g1, g2, g3, g4, g5, g6]) rfl ?_
  obtain rfl := HFN.out
  exact RfQ.out (x := ⟨sw l k t (rp [b] q), (t : Int) - 1, false, false, [], 0, false⟩) HF.out E5.out rfl J5.out B5.out hgr (by have := HB.out; omega)
set_option maxHeartbeats 8000000 in
set_option linter.unusedSimpArgs false in
theorem rover_any (ao : Option Addr) (n c : Nat) (l : List UInt8) (at' q : Int) (b : UInt8) (w : World) (HT : Hid (Tx w ao n c l)) (hbig : n ≤ 1048576) :
    Calls Tryz.prog 17 #[.slice ao n c, .int .i64 at', .int .i64 q, .int .u8 (b.toNat : Int)] w fun e w' => RfQ (ovX l at' q b).1 (ovX l at' q b).2 w e w' := by
  have hln := HT.out.len
  unfold ovX
  rw [hln]
  by_cases h : (0 ≤ at' ∧ at' ≤ (n : Int)) ∧ cntB q = true
  · rw [if_neg (by simp [h])]
    have hq2 : 1 ≤ q ∧ q ≤ 9999 := by have := h.2; unfold cntB at this; simp at this; exact this
    obtain ⟨k, rfl⟩ := Int.eq_ofNat_of_zero_le h.1.1
    obtain ⟨q, rfl⟩ := Int.eq_ofNat_of_zero_le (show 0 ≤ q by omega)
    rw [show ((k : Int)).toNat = k from rfl, show ((q : Int)).toNat = q from rfl]
    unfold ovM
    by_cases hlt : ow l k < q
    · rw [if_pos hlt]
      exact rover_none ao n c k q l b w HT (by omega) hbig (by omega) (by omega) hlt
    · rw [if_neg hlt]
      have u1 := u8_is b 10 (by omega)
      have u2 := u8_is b 13 (by omega)
      rw [show ((10 : Nat) : Int) = 10 from rfl] at u1
      rw [show ((13 : Nat) : Int) = 13 from rfl] at u2
      by_cases e1 : b = 10
      · rw [if_pos (.inl e1)]
        exact rover_ten ao n c k q l b w HT (by omega) hbig (by omega) (by omega) hlt (by rw [u1]; exact decide_eq_true e1)
      · have e1' : ((b.toNat : Int) == 10) = false := by rw [u1]; exact decide_eq_false e1
        by_cases e2 : b = 13
        · rw [if_pos (.inr e2)]
          exact rover_thirteen ao n c k q l b w HT (by omega) hbig (by omega) (by omega) hlt e1' (by rw [u2]; exact decide_eq_true e2)
        · rw [if_neg (fun h => h.elim e1 e2)]
          exact rover_byte ao n c k q l b w HT (by omega) hbig (by omega) (by omega) hlt e1' (by rw [u2]; exact decide_eq_false e2)
  · rw [if_pos h]
    exact rover_args ao n c l at' q b w HT h
end Go.Proofs.YtppefcnopkmhbaaGreatDoor
