/- Rps, Rtff, Rtft -/
import Derived.Test.YtppefcnopkmhbaaGreatDoorPt34
import Derived.Test.YtppefcnopkmhbaaGreatDoorPt30
import Derived.Test.YtppefcnopkmhbaaGreatDoorPt41
import Derived.Test.YtppefcnopkmhbaaGreatDoorPt40
import Derived.Deep.CutBlock
import Derived.Test.YtppefcnopkmhbaaGreatDoorPt10
namespace Go.Proofs.YtppefcnopkmhbaaGreatDoor
open Go.RowKit

set_option maxRecDepth 8000
/-- how many of the lines aren't empty -/
def cnq (l : List UInt8) : Nat → Nat → Nat
  | 0, _ => 0
  | m + 1, i => (if (ln l i).length = 0 then 0 else 1) + cnq l m (i + 1)
theorem shf_in_0 {q : Nat} {l : List UInt8} {m i : Nat} {g : Int} (hp : (ln l i).length = 0) (hg : g ≤ 65536) : shf (hdI q) l (m + 1) i g = shf (hdI q) l m (i + 1) g := by
  have e : hdI q (ln l i) = (0, 0) := by unfold hdI; rw [if_pos hp]
  conv => lhs; unfold shf
  rw [e, if_neg (by dsimp only; omega)]
  dsimp only
  rw [show g + (((0 : Nat) : Int) - ((0 : Nat) : Int)) = g by omega, if_neg (by omega)]
  cases shf (hdI q) l m (i + 1) g <;> rfl
theorem shf_in_1 {q : Nat} {l : List UInt8} {m i : Nat} {g : Int} (hp : ¬ (ln l i).length = 0) (hq1 : 1 ≤ q) (hg : g + (q : Int) ≤ 65536) : shf (hdI q) l (m + 1) i g = (shf (hdI q) l m (i + 1) (g + (q : Int))).map fun D => [⟨(sp l i : Int) + g, [], rp [9] q⟩] ++ D := by
  have e : hdI q (ln l i) = (0, q) := by unfold hdI; rw [if_neg hp]
  conv => lhs; unfold shf
  rw [e, if_neg (by dsimp only; omega)]
  dsimp only
  rw [show g + ((q : Int) - ((0 : Nat) : Int)) = g + (q : Int) by omega, if_pos (by omega), List.take_zero]
theorem shf_in_n {q : Nat} {l : List UInt8} {m i : Nat} {g : Int} (hp : ¬ (ln l i).length = 0) (hg : 65536 < g + (q : Int)) : shf (hdI q) l (m + 1) i g = none := by
  have e : hdI q (ln l i) = (0, q) := by unfold hdI; rw [if_neg hp]
  conv => lhs; unfold shf
  rw [e, if_pos (by dsimp only; omega)]
theorem shf_in_none {q : Nat} {l : List UInt8} (hq1 : 1 ≤ q) : ∀ (m i : Nat) (g : Int), g ≤ 65536 → (shf (hdI q) l m i g = none ↔ 65536 < g + ((q * cnq l m i : Nat) : Int))
  | 0, i, g, h => by
    constructor
    · intro e; cases e
    · intro e; exfalso; have : q * cnq l 0 i = 0 := rfl; omega
  | m + 1, i, g, h => by
    by_cases hp : (ln l i).length = 0
    · have e : cnq l (m + 1) i = cnq l m (i + 1) := by show (if (ln l i).length = 0 then 0 else 1) + _ = _; rw [if_pos hp, Nat.zero_add]
      rw [shf_in_0 hp h, e]
      exact shf_in_none hq1 m (i + 1) g h
    · have e : q * cnq l (m + 1) i = q + q * cnq l m (i + 1) := by
        have : cnq l (m + 1) i = 1 + cnq l m (i + 1) := by show (if (ln l i).length = 0 then 0 else 1) + _ = _; rw [if_neg hp]
        rw [this, Nat.mul_add, Nat.mul_one]
      rw [e]
      by_cases hg : 65536 < g + (q : Int)
      · rw [shf_in_n hp hg]
        exact ⟨fun _ => by omega, fun _ => rfl⟩
      · rw [shf_in_1 hp hq1 (by omega)]
        have := shf_in_none hq1 (l := l) m (i + 1) (g + (q : Int)) (by omega)
        rw [Option.map_eq_none_iff, this]
        omega
theorem cnq_le (l : List UInt8) : ∀ m i, cnq l m i ≤ m
  | 0, _ => Nat.le_refl _
  | m + 1, i => by
    have := cnq_le l m (i + 1)
    show (if (ln l i).length = 0 then 0 else 1) + _ ≤ _
    split <;> omega
set_option maxHeartbeats 8000000 in
set_option linter.unusedSimpArgs false in
theorem rpushed_any (ao : Option Addr) (n c a b q : Nat) (l : List UInt8) (w : World) (HT : Hid (Tx w ao n c l)) (hbig : n ≤ 65536) (hab : a ≤ b) (hbn : b ≤ nl l) (hq1 : 1 ≤ q) (hq : q ≤ 9999) :
    Calls Tryz.prog 32 #[.slice ao n c, .int .i64 (a : Int), .int .i64 (b : Int), .int .i64 (q : Int)] w fun e w' => RfQ (shX l (shf (hdI q) l (b + 1 - a) a 0) a).1 (shX l (shf (hdI q) l (b + 1 - a) a 0) a).2 w e w' := by
  obtain ⟨W1, hW1⟩ : ∃ x, w.alloc (.cells #[.slice none 0 0, .int .i64 0, .bool false, .bool false, .slice none 0 0, .int .i64 0, .bool false] 35) = x := ⟨_, rfl⟩
  obtain ⟨B, hB⟩ : ∃ b, w.heap.size = b := ⟨_, rfl⟩
  have HB := Hid.mk' hB
  have J1 : Hid (Blk W1 B 35 (ef7 (.slice none 0 0) 0 false false (.slice none 0 0) 0 false)) := by unfold Hid; rw [← hW1, ← hB]; exact Blk.new w 35 _
  have L1 : Hid (Below w.heap.size w W1) := by unfold Hid; rw [← hW1]; exact bAlloc (Below.refl _ _) _
  have HT1 := Hid.mk' (HT.out.keep L1.out)
  have HLN := Hid.mk' HT.out.len
  have hnl := nl_le l
  rw [HLN.out] at hnl
  have HNL := Hid.mk' hnl
  have HAB := Hid.mk' hab
  have HBN := Hid.mk' hbn
  obtain ⟨oo, hoo⟩ : ∃ o, shf (hdI q) l (b + 1 - a) a 0 = o := ⟨_, rfl⟩
  have hnone := shf_in_none (l := l) hq1 (b + 1 - a) a 0 (by omega)
  have HFB := Hid.mk' (shf_bounds (hd := hdI q) (fun p => (hdI_le q p hq).2) l (b + 1 - a) a 0)
  have HSF := Hid.mk' (fun (D : List Ed) (h : shf (hdI q) l (b + 1 - a) a 0 = some D) => shf_first (hd := hdI q) (fun p => (hdI_le q p hq).1) (a := a) (m := b + 1 - a) (by omega) (by omega) h)
  obtain ⟨gg, hgg⟩ : ∃ g, b + 1 - a = g := ⟨_, rfl⟩
  rw [hgg] at hoo hnone HFB HSF ⊢
  have HG := Hid.mk' hgg
  rw [hoo] at hnone ⊢
  have hcn := cnq_le l gg a
  obtain ⟨tt, htt⟩ : ∃ t, q * cnq l gg a = t := ⟨_, rfl⟩
  have HTT := Hid.mk' htt
  have htb : tt ≤ 9999 * gg := by rw [← htt]; exact Nat.mul_le_mul hq hcn
  rw [htt] at hnone
  have HNO := Hid.mk' hnone
  have HOO := Hid.mk' hoo
  have CSP := Hid.mk' (refSplit_any ao n c l W1 (by omega) HT1)
  have CST : Hid (∀ W, Below W1.heap.size W1 W → Calls Tryz.prog 45 #[.slice ao n c, .int .i64 (a : Int)] W fun e w' => e = .returned (.tuple #[.int .i64 (sp l a : Int), .int .i64 0]) ∧ w' = W) := fun W hW => by
    have h := rstart_call (i := a) (HT1.out.keep hW) (by omega) (by omega)
    rw [if_pos (by omega), if_pos (by omega)] at h
    exact h
  clear hoo hnone htt hcn hgg
  go_enter Tryz.func32, Tryz.ntmps32
  go_upto_region 1 with fail
  clear hW1 hB HT
  go_wp2_with fail
  refine CSP.out.mono ?_
  rintro e w2 ⟨v, DD, rfl, hR, hM⟩
  obtain ⟨gl, gc, rfl, hZ⟩ := lnz_of (by rw [HLN.out]; omega) hR hM
  have LZ := Hid.mk' hZ
  have B2 := Hid.mk' hR.bel
  have J2 := Hid.mk' (J1.out.keep hR.bel)
  clear hR hM hZ CSP
  have hgb : a + gg = b + 1 := by have := HG.out; omega
  obtain ⟨ln9, hln9⟩ : ∃ x, nl l + 1 = x := ⟨_, rfl⟩
  rw [hln9]
  go_upto_block 0 with fail
  go_cut [11] from 12 to 33 (fun x11 wx => x11 = .int .i64 (tt : Int) ∧ w2 = wx)
  case first =>
    go_wp2_with fail
    go_loopg [11, 12] gg (fun M x11 x12 wx => ∃ i tot : Nat, x11 = .int .i64 (tot : Int) ∧ x12 = .int .i64 ((a + i : Nat) : Int) ∧ i + M = gg ∧ Hid (tot + q * cnq l M (a + i) = tt) ∧ tot ≤ tt ∧ w2 = wx)
    case atStart => exact ⟨0, 0, rfl, rfl, by omega, by unfold Hid; rw [Nat.zero_add, Nat.add_zero]; exact HTT.out, Nat.zero_le _, rfl⟩
    case round =>
      obtain ⟨i, tot, rfl, rfl, him, HTO, htot, rfl⟩ := hrel
      cases gk with
      | zero =>
        have hik : ¬ ((a + i : Nat) : Int) ≤ (b : Int) := by omega
        obtain rfl : tot = tt := HTO.out
        go_wp2
        go_meet
        exact ⟨rfl, rfl⟩
      | succ go =>
        have hik : ((a + i : Nat) : Int) ≤ (b : Int) := by omega
        have hil : a + i ≤ nl l := by omega
        obtain ⟨la, lc, hcell, hTl⟩ := LZ.out (a + i) hil
        have hi0 : (0 : Int) ≤ ((a + i : Nat) : Int) := by omega
        have hin : ((a + i : Nat) : Int) < (ln9 : Int) := by omega
        have hw1 : IntKind.i64.wrap (((a + i : Nat) : Int) + 1) = ((a + (i + 1) : Nat) : Int) := by rw [IntKind.wrap_i64]; omega
        have hll := ln_length hil
        have hel := en_le (sp_le hil)
        have HTO2 : Hid (tot + q * ((if (ln l (a + i)).length = 0 then 0 else 1) + cnq l go (a + i + 1)) = tt) := HTO.out
        obtain ⟨m, hm⟩ : ∃ x, (ln l (a + i)).length = x := ⟨_, rfl⟩
        rw [hm] at hcell HTO2 hll
        have hmb : m ≤ n := by have := HLN.out; omega
        clear HTO hTl hm hll hel
        by_cases h0 : m = 0
        · have h0' : ¬ (0 : Int) < (m : Int) := by omega
          rw [if_pos h0, Nat.zero_add] at HTO2
          go_wp2
          go_roundg go
          case measure => omega
          case rel => exact ⟨i + 1, tot, by go_num, by go_num, by omega, HTO2.out, htot, rfl⟩
        · have h0' : (0 : Int) < (m : Int) := by omega
          rw [if_neg h0, Nat.mul_add, Nat.mul_one] at HTO2
          have hb9 := HTO2.out
          unfold Hid at hb9
          have htq : tot + q ≤ tt := by omega
          have hw2 : IntKind.i64.wrap ((tot : Int) + (q : Int)) = ((tot + q : Nat) : Int) := by rw [IntKind.wrap_i64]; omega
          have HTO3 : Hid (tot + q + q * cnq l go (a + (i + 1)) = tt) := by unfold Hid; rw [← Nat.add_assoc a i 1]; omega
          clear hb9 HTO2
          go_wp2
          go_roundg go
          case measure => omega
          case rel => exact ⟨i + 1, tot + q, by go_num, by go_num, by omega, HTO3.out, htq, rfl⟩
  case rest =>
    obtain ⟨rfl, rfl⟩ := hcut
    by_cases hT : 65536 < tt
    · have hT' : (65536 : Int) < (tt : Int) := by omega
      obtain rfl : oo = none := HNO.out.2 (by omega)
      go_upto_region 9 with fail
      obtain ⟨j0, j1, j2, j3, j4, j5, j6⟩ := ef_cells J2.out
      obtain ⟨f0, f1, f2, f3, f4, f5, f6⟩ := ef_frozen J2.out
      have hbk := ef_store J2.out (.slice none 0 0) (.int .i64 0) (.bool false) (.bool false) (.slice none 0 0) (.int .i64 0) (.bool false)
      have hgr := ef_grown w2 B (.slice none 0 0) (.int .i64 0) (.bool false) (.bool false) (.slice none 0 0) (.int .i64 0) (.bool false)
      go_wp2_with fail
      generalize (((((((w2.setCell ⟨B, 0, none⟩ (.slice none 0 0)).setCell ⟨B, 1, none⟩ (.int .i64 0)).setCell ⟨B, 2, none⟩ (.bool false)).setCell ⟨B, 3, none⟩ (.bool false)).setCell ⟨B, 4, none⟩ (.slice none 0 0)).setCell ⟨B, 5, none⟩ (.int .i64 0)).setCell ⟨B, 6, none⟩ (.bool false)) = w9 at *
      obtain ⟨g0, g1, g2, g3, g4, g5, g6⟩ := ef_cells hbk
      refine bodyPost_ret (v := .tuple #[efz, .int .i64 1]) (by simp [results, efz, Tryz.results32, go_sem, g0, g1, g2, g3, g4, g5, g6]) rfl ?_
      show RfQ ef0 1 w _ w9
      exact RfQ.no ((bT L1.out B2.out).grown hgr (bT L1.out B2.out).size (fun g hg => by injection hg with hg; rw [← hg, HB.out]; exact Nat.le_refl B))
    · have hT' : ¬ (65536 : Int) < (tt : Int) := by omega
      obtain ⟨D, rfl⟩ : ∃ D, oo = some D := by
        cases oo with
        | none => exact absurd (HNO.out.1 rfl) (by omega)
        | some D => exact ⟨D, rfl⟩
      have hfb := HFB.out D HOO.out
      have hfs := HSF.out D HOO.out
      have HNS := Hid.mk' hfb
      have HFS := Hid.mk' hfs
      clear hfb hfs HFB HSF HNO HTT
      go_upto_region 11 with fail
      go_wp2_with fail
      refine (CST.out w2 B2.out).mono ?_
      rintro e w' ⟨rfl, hw⟩
      have hq9 := hw.symm
      subst hq9
      clear hw CST hT hT'
      dsimp only
      have hsa := sp_le (t := l) (n := a) (by omega)
      rw [HLN.out] at hsa
      go_wp2_with fail
      go_loopg [13, 14, 16] gg (fun M x13 x14 x16 wx => ∃ (i : Nat) (g pos : Int) (F : List Er) (DD : List Ed) (v0 : Value), x13 = v0 ∧ x14 = .int .i64 pos ∧ x16 = .int .i64 ((a + i : Nat) : Int) ∧ i + M = gg ∧ Hid (0 < M → pos = (sp l (a + i) : Int) + g) ∧ 0 ≤ pos ∧ pos ≤ (n : Int) + 1 + g ∧ 0 ≤ g ∧ g ≤ 65536 ∧ Hid (F.map Er.d = DD) ∧ F.length ≤ i ∧ Hid (some D = (shf (hdI q) l M (a + i) g).map (DD ++ ·)) ∧ Hid (Eds wx w2.heap.size wx.heap.size v0 F) ∧ Hid (Below w2.heap.size w2 wx))
      case atStart => exact ⟨0, 0, (sp l a : Int), [], [], .slice none 0 0, rfl, rfl, rfl, by omega, fun _ => by simp, by omega, by omega, Int.le_refl _, by omega, rfl, Nat.le_refl _, by unfold Hid; rw [Nat.add_zero, HOO.out]; rfl, Eds.nil _ _ _, Below.refl _ _⟩
      case round =>
        obtain ⟨i, g, pos, F, DD, v0, rfl, rfl, rfl, him, HPO, hp0, hpn, hg0, hg1, HFD, hFi, HSH, KE, KB⟩ := hrel
        cases gk with
        | zero =>
          have hik : ¬ ((a + i : Nat) : Int) ≤ (b : Int) := by omega
          obtain rfl : D = DD := by have := HSH.out; simpa [shf] using this
          obtain ⟨eo, ec, rfl, hEz, -⟩ := KE.out.edz
          obtain ⟨en, hen⟩ : ∃ en, F.length = en := ⟨_, rfl⟩
          have hgb9 : gg ≤ n + 1 := by omega
          have CY0 := rfst_call (a := a) (ec := ec) (HT1.out.keep (bT B2.out KB.out)) (by omega) (by omega) hen (by omega) hEz HFD.out (by have := HNS.out.2; omega)
          have EZ := Hid.mk' hEz
          have HEN := Hid.mk' hen
          obtain ⟨cf, hcf⟩ : ∃ cf, fbh l D a = cf := ⟨_, rfl⟩
          rw [hcf] at CY0
          have CY := Hid.mk' CY0
          have HCF : Hid (fbh l (D.take 1) a = cf) := by unfold Hid; rw [HFS.out]; exact hcf
          have B3 := Hid.mk' (bT B2.out KB.out)
          have J3 := Hid.mk' (J2.out.keep KB.out)
          rw [hen]
          clear hEz HSH HPO KE CY0 hcf hen him hp0 hpn hFi HOO
          go_upto_region 19 with fail
          go_wp2_with (first | (go_at_call 30; refine CY.out.mono ?_; rintro e w7 ⟨rfl, hb7⟩; have J7 := Hid.mk' (J3.out.keep hb7); have E7 := Hid.mk' (EZ.out.keep hb7); have B7 := Hid.mk' (bT B3.out hb7); clear hb7 CY; obtain ⟨j0, j1, j2, j3, j4, j5, j6⟩ := ef_cells J7.out; obtain ⟨f0, f1, f2, f3, f4, f5, f6⟩ := ef_frozen J7.out) | fail)
          have hbk := ef_store J7.out (.slice eo en ec) (.int .i64 cf) (.bool false) (.bool false) (.slice none 0 0) (.int .i64 0) (.bool false)
          have hgr := ef_grown w7 B (.slice eo en ec) (.int .i64 cf) (.bool false) (.bool false) (.slice none 0 0) (.int .i64 0) (.bool false)
          generalize (((((((w7.setCell ⟨B, 0, none⟩ (.slice eo en ec)).setCell ⟨B, 1, none⟩ (.int .i64 cf)).setCell ⟨B, 2, none⟩ (.bool false)).setCell ⟨B, 3, none⟩ (.bool false)).setCell ⟨B, 4, none⟩ (.slice none 0 0)).setCell ⟨B, 5, none⟩ (.int .i64 0)).setCell ⟨B, 6, none⟩ (.bool false)) = w9 at *
          obtain ⟨g0, g1, g2, g3, g4, g5, g6⟩ := ef_cells hbk
          refine bodyPost_ret (v := .tuple #[.agg #[.slice eo en ec, .int .i64 cf, .bool false, .bool false, .slice none 0 0, .int .i64 0, .bool false], .int .i64 0]) (by simp [results, Tryz.results32, go_sem, g0, g1, g2, g3, g4, g5, g6]) rfl ?_
          have hz : (⟨D, cf, false, false, [], 0, false⟩ : Ef) = (shX l (some D) a).1 := by
            show _ = (⟨D, fbh l (D.take 1) a, false, false, [], 0, false⟩ : Ef)
            rw [HCF.out]
          rw [← hz, ← HEN.out]
          show RfQ ⟨D, cf, false, false, [], 0, false⟩ 0 w _ w9
          exact RfQ.out (x := ⟨D, cf, false, false, [], 0, false⟩) HFD.out E7.out rfl J7.out (bT L1.out B7.out) hgr (by have := HB.out; omega)
        | succ go =>
          have hik : ((a + i : Nat) : Int) ≤ (b : Int) := by omega
          have hil : a + i ≤ nl l := by omega
          obtain ⟨la, lc, hcell, hTl⟩ := (LZ.out.keep KB.out) (a + i) hil
          have hi0 : (0 : Int) ≤ ((a + i : Nat) : Int) := by omega
          have hin : ((a + i : Nat) : Int) < (ln9 : Int) := by omega
          have hw1 : IntKind.i64.wrap (((a + i : Nat) : Int) + 1) = ((a + (i + 1) : Nat) : Int) := by rw [IntKind.wrap_i64]; omega
          have hpos := HPO.out (Nat.succ_pos _)
          have hll := ln_length hil
          have hsl := sp_le hil
          have hel := en_le hsl
          have hge := en_ge l (sp l (a + i))
          have HNX : Hid (0 < go → sp l (a + (i + 1)) = en l (sp l (a + i)) + 1) := fun hgo => (sp_next (l := l) (i := a + i) (by omega)).2
          rw [HLN.out] at hsl hel
          have HSH2 := HSH
          obtain ⟨ee, hee⟩ : ∃ x, en l (sp l (a + i)) = x := ⟨_, rfl⟩
          rw [hee] at hll hel hge HNX
          by_cases h0 : (ln l (a + i)).length = 0
          · rw [shf_in_0 h0 hg1] at HSH2
            obtain ⟨m, hm⟩ : ∃ x, (ln l (a + i)).length = x := ⟨_, rfl⟩
            rw [hm] at hcell hll h0
            obtain ⟨s, hs⟩ : ∃ x, sp l (a + i) = x := ⟨_, rfl⟩
            rw [hs] at hpos hll hsl hge
            subst hpos
            have hml : m + s = ee := by omega
            have hm0 : m ≤ 0 := by omega
            have h0' : ¬ (0 : Int) < (m : Int) := by omega
            have hw5 : IntKind.i64.wrap ((s : Int) + g + (m : Int)) = (s : Int) + g + (m : Int) := by rw [IntKind.wrap_i64]; omega
            have hw4 : IntKind.i64.wrap ((s : Int) + g + (m : Int) + 1) = (s : Int) + g + (m : Int) + 1 := by rw [IntKind.wrap_i64]; omega
            clear HSH HPO hTl hee hs h0 hll hm
            go_wp2
            go_roundg go
            case measure => omega
            case rel => exact ⟨i + 1, g, (s : Int) + g + 1, F, DD, _, rfl, by go_num, by go_num, by omega, fun hgo => by have := HNX.out hgo; omega, by omega, by omega, by omega, by omega, HFD.out, by omega, HSH2.out, KE.out, KB.out⟩
          · by_cases hgq : 65536 < g + (q : Int)
            · rw [shf_in_n h0 hgq] at HSH2
              cases HSH2.out
            rw [shf_in_1 h0 hq1 (by omega)] at HSH2
            obtain ⟨m, hm⟩ : ∃ x, (ln l (a + i)).length = x := ⟨_, rfl⟩
            rw [hm] at hcell hll h0
            obtain ⟨s, hs⟩ : ∃ x, sp l (a + i) = x := ⟨_, rfl⟩
            rw [hs] at hpos hll hsl hge HSH2
            subst hpos
            have hml : m + s = ee := by omega
            clear hll
            have h0' : (0 : Int) < (m : Int) := by omega
            have hw2 : IntKind.i64.wrap ((s : Int) + g + (q : Int)) = (s : Int) + g + (q : Int) := by rw [IntKind.wrap_i64]; omega
            have hw3 : IntKind.i64.wrap ((s : Int) + g + (q : Int) + (m : Int)) = (s : Int) + g + (q : Int) + (m : Int) := by rw [IntKind.wrap_i64]; omega
            have hw4 : IntKind.i64.wrap ((s : Int) + g + (q : Int) + (m : Int) + 1) = (s : Int) + g + (q : Int) + (m : Int) + 1 := by rw [IntKind.wrap_i64]; omega
            have CR : Hid (∀ (W : World) (a' : Option Addr) (c' : Nat), Tx W a' 1 c' [9] → Calls Tryz.prog 42 #[.slice a' 1 c', .int .i64 (q : Int)] W fun e w' => NewP q (rp [9] q) W e w') := fun W a' c' h => by
              have := rtimes_any a' 1 c' q [9] W (Hid.mk' h) hq (by omega)
              rwa [Nat.one_mul] at this
            have HRL : Hid ((rp [9] q).length = q) := by unfold Hid; rw [rp_len]; simp
            obtain ⟨Y, hY⟩ : ∃ Y, rp [9] q = Y := ⟨_, rfl⟩
            rw [hY] at CR HRL HSH2
            have HM := Hid.mk' hm
            have hgq2 : g + (q : Int) ≤ 65536 := by omega
            clear HSH HPO hTl hee hs hm hY hgq
            go_upto_region 16 with fail
            go_wp2_with fail
            refine (CR.out (wr.alloc (.cells #[.int .u8 9] 5)) (some ⟨wr.heap.size, 0, none⟩) 1 (nine_tx (Blk.new wr 5 _))).mono ?_
            rintro e w5 ⟨v5, rfl, hO5, hb5⟩
            obtain ⟨p5, d5, rfl⟩ := own_shape hO5
            have W5 : Hid (Wb w5 (wr.alloc (.cells #[.int .u8 9] 5)).heap.size w5.heap.size (.slice p5 q d5) Y) := Wb.new hO5
            have B5 := Hid.mk' hb5
            clear hO5 hb5 CR
            have hsz9 := World.size_alloc wr (.cells #[.int .u8 9] 5)
            have B6 : Hid (Below wr.heap.size wr w5) := bT (bAlloc (Below.refl wr.heap.size wr) (.cells #[.int .u8 9] 5)) B5.out
            have W6 : Hid (Wb w5 wr.heap.size w5.heap.size (.slice p5 Y.length d5) Y) := by unfold Hid; rw [HRL.out]; exact W5.out.wide (by omega) (Nat.le_refl _)
            obtain ⟨v9, w9, hr9, hE9, hs9, hb9⟩ := ape_step (w3 := wr) (w6 := w5) (m := wr.heap.size) (X := []) (Y := Y) (p1 := none) (d1 := 0) KE.out KB.out.size B6.out (Wb.nil _ _ _) W6.out (Nat.le_refl _) B6.out.size (Nat.zero_le _) (by rw [HRL.out]; omega) (by omega) ((s : Int) + g)
            rw [HRL.out] at hr9
            have L9 := Hid.mk' (hb9 w2 w2.heap.size (Nat.le_refl _) KB.out)
            have E9 := Hid.mk' hE9
            have K9 : Hid (Lnz w9 gl l) := LZ.out.keep L9.out
            obtain ⟨la2, lc2, hcell2, -⟩ := K9.out (a + i) hil
            rw [HM.out] at hcell2
            clear hb9 hE9 hs9 W5 W6 hsz9
            go_wp2_with (first | (at_builtin; refine wl_ape rfl _ _ rfl _ _ rfl rfl hr9 ?_; clear hr9) | fail)
            go_roundg go
            case measure => omega
            case rel =>
              refine ⟨i + 1, g + (q : Int), (s : Int) + g + (q : Int) + (m : Int) + 1, _, DD ++ [⟨(s : Int) + g, [], Y⟩], v9, rfl, by go_num, by go_num, by omega, fun hgo => by have := HNX.out hgo; omega, by omega, by omega, by omega, by omega, ?_, by rw [List.length_append]; simp; omega, ?_, E9.out, L9.out⟩
              · unfold Hid; rw [List.map_append, HFD.out]; rfl
              · unfold Hid; rw [HSH2.out, Option.map_map, Nat.add_assoc]; congr 1; funext D; simp
end Go.Proofs.YtppefcnopkmhbaaGreatDoor

namespace Go.Proofs.YtppefcnopkmhbaaGreatDoor
open Go.RowKit

set_option maxRecDepth 8000
set_option maxHeartbeats 4000000 in
theorem rtake_ff (ao : Option Addr) (n c f t : Nat) (l : List UInt8) (w : World) (hft : f ≤ t) (htn : t ≤ n) (hbig : n ≤ 140737488351232) (HT : Hid (Tx w ao n c l)) :
    Calls Tryz.prog 25 #[.slice ao n c, .agg #[.int .i64 (f : Int), .int .i64 (t : Int), .bool false, .bool false]] w fun e w' => ∃ v, e = tr true false v 0 ∧ w'.ownsRow w.heap.size 5 1 v (tk l f t false false).length (bv (tk l f t false false)) ∧ Below w.heap.size w w' := by
  obtain ⟨i5, hi5, hz5, hs5, hb5⟩ := info_parts info5
  have hlen := Hid.mk' HT.out.len
  have hbn : (n : Int) ≤ 140737488351232 := by omega
  have hft' : (f : Int) ≤ t := by omega
  have htn' : (t : Int) ≤ n := by omega
  have hd1 : decide (t < f) = false := decide_eq_false (by omega)
  have hd2 : decide (n < t) = false := decide_eq_false (by omega)
  have hd3 : ¬ t < f := by omega
  have hd4 : ¬ n < t := by omega
  obtain ⟨B, hB⟩ : ∃ B, tkb l f t false = B := ⟨_, rfl⟩
  have HTK : Hid (tk l f t false false = B) := by unfold Hid tk; rw [← hB]; rfl
  have HB : Hid (B = (l.drop (f)).take (t - (f))) := hB.symm
  clear hB
  go_enter Tryz.func25, Tryz.ntmps25
  go_wp2_with fail
  go_loopw [7, 8] (fun u v wr => ∃ k : Nat, v = .int .i64 ((f : Int) + k) ∧ k ≤ t - (f) ∧ wr.ownsRow (w.heap.size + 2) 5 1 u k (bv ((l.drop (f)).take k)) ∧ Below (w.heap.size + 2) ((w.alloc (.cells #[.int .i64 ((f : Int)), .int .i64 ((t : Int)), .bool false, .bool false] 28)).alloc (.cells #[.bool false, .bool false, .slice none 0 0] 33)) wr) (fun _ v _ => n + 1 - (intOf v).toNat)
  case atStart =>
    refine ⟨0, by first | rfl | simp, Nat.zero_le _, ?_, bAlloc' (by simp) _⟩
    have := World.ownsRow_made ((w.alloc (.cells #[.int .i64 ((f : Int)), .int .i64 ((t : Int)), .bool false, .bool false] 28)).alloc (.cells #[.bool false, .bool false, .slice none 0 0] 33)) #[] 0 (base := w.heap.size + 2) (e := 5) (size := 1) (by simp) (Nat.zero_le _) rfl
    simpa [bv] using this
  case round =>
    obtain ⟨k, rfl, hk, hown, hbel⟩ := hrel
    have HW := Hid.mk' hown
    have L0 := Hid.mk' hbel
    have L1 : Hid (Below w.heap.size w wr) := (bAlloc (bAlloc (Below.refl _ w) (.cells #[.int .i64 ((f : Int)), .int .i64 ((t : Int)), .bool false, .bool false] 28)) (.cells #[.bool false, .bool false, .slice none 0 0] 33)).trans (L0.out.mono (by omega))
    obtain ⟨ax, cx, ev⟩ := own_shape HW.out
    subst ev
    obtain ⟨k0, k1, k2, k3, z0, z1, z2, y0, y1, y2, hz⟩ := tk_cells L0.out
    clear hown hbel
    by_cases hlt : f + k < t
    · have T1 := Hid.mk' (HT.out.keep L1.out)
      obtain ⟨g, o, rfl, hc⟩ := T1.out.at (by omega)
      have hcb := hc (f + k) (by omega)
      clear hc
      obtain ⟨q, hq⟩ : ∃ q, f + k = q := ⟨_, rfl⟩
      rw [hq] at hcb
      have hqI : (f : Int) + (k : Int) = (q : Int) := by omega
      rw [hqI]
      have HQ := Hid.mk' hq
      have hqn : (q : Int) < n := by omega
      have hqt : (q : Int) < t := by omega
      have hq0 : (0 : Int) ≤ q := by omega
      have HN : Hid (bv ((l.drop (f)).take k) ++ [Value.int .u8 ((at8 l q).toNat : Int)] = bv ((l.drop (f)).take (k + 1))) := by
        unfold Hid
        have hl : k < (l.drop (f)).length := by rw [List.length_drop, hlen.out]; omega
        rw [List.take_succ_eq_append_getElem hl, bv_append]
        congr 1
        have : (l.drop (f))[k] = at8 l q := by
          rw [List.getElem_drop, ← at8_eq, HQ.out]
        rw [this]; rfl
      clear hq hqI
      go_wp2_with (at_builtin; refine append_srv rfl (.tmp 67) (.tmp 72) 22 rfl (w.heap.size + 2) 5 i5 (.int .u8 0) 1 1 Tryz.underlying22 hi5 hz5 hs5 hb5 rfl (by decide) (.slice ax k cx) k (bv ((l.drop (f)).take k)) rfl (HW.out.alloc _) (.slice (some ⟨wr.heap.size, 0, none⟩) 1 1) 1 [.int .u8 ((at8 l q).toNat : Int)] rfl (.inr ⟨⟨wr.heap.size, 0, none⟩, 1, rfl, fun j u hj => lit_cells wr _ 5 j u hj⟩) rfl ?r1 ?r2 ?r3 ?r4 ?_)
      case r1 => intro u hu; simp at hu; subst hu; rfl
      case r2 => unfold maxLen; omega
      case r3 => omega
      case r4 => have := hz; simp; omega
      intro v2 w3 hown2 hgrow2 _
      have L3 : Hid (Below (w.heap.size + 2) ((w.alloc (.cells #[.int .i64 ((f : Int)), .int .i64 ((t : Int)), .bool false, .bool false] 28)).alloc (.cells #[.bool false, .bool false, .slice none 0 0] 33)) w3) := (L0.out.alloc (by omega) _).grown hgrow2 (by simp; omega) (fun k hk => (HW.out.lt k hk).1)
      rw [HN.out] at hown2
      have HW2 := Hid.mk' hown2
      clear hown2 hgrow2
      go_wp2
      go_roundw
      case rel => exact ⟨k + 1, by have := HQ.out; go_num, by omega, HW2.out, L3.out⟩
      case measure => have := HQ.out; simp [intOf]; omega
    · obtain rfl : k = t - (f) := by omega
      rw [← HB.out] at HW
      obtain ⟨m, hm⟩ : ∃ m, t - (f) = m := ⟨_, rfl⟩
      rw [hm] at HW ⊢
      have HBL : Hid (B.length = m) := by have := HW.out.1; rw [bv_length] at this; unfold Hid; omega
      have hx : ¬ (f : Int) + (m : Int) < (t : Int) := by omega
      have hmn : m ≤ n := by omega
      have hmI : (m : Int) ≤ 140737488351232 := by omega
      clear hm hk hlt
      go_wp2
      exact bodyPost_ret (v := .tuple #[.agg #[.bool true, .bool false, .slice ax m cx], .int .i64 0]) (by simp [results, Tryz.results25, go_sem, z0, z1, z2]) rfl ⟨_, rfl, by rw [HTK.out]; have h := own_set3 (b := w.heap.size) HW.out (x := .bool true) (y := .bool false) (z := .slice ax m cx); rw [HBL.out]; exact h, bset3' L1.out _ _ _⟩

end Go.Proofs.YtppefcnopkmhbaaGreatDoor

namespace Go.Proofs.YtppefcnopkmhbaaGreatDoor
open Go.RowKit

set_option maxRecDepth 8000
set_option maxHeartbeats 4000000 in
theorem rtake_ft (ao : Option Addr) (n c f t : Nat) (l : List UInt8) (w : World) (hft : f ≤ t) (htn : t ≤ n) (hbig : n ≤ 140737488351232) (HT : Hid (Tx w ao n c l)) :
    Calls Tryz.prog 25 #[.slice ao n c, .agg #[.int .i64 (f : Int), .int .i64 (t : Int), .bool false, .bool true]] w fun e w' => ∃ v, e = tr true false v 0 ∧ w'.ownsRow w.heap.size 5 1 v (tk l f t false true).length (bv (tk l f t false true)) ∧ Below w.heap.size w w' := by
  obtain ⟨i5, hi5, hz5, hs5, hb5⟩ := info_parts info5
  have hlen := Hid.mk' HT.out.len
  have hbn : (n : Int) ≤ 140737488351232 := by omega
  have hft' : (f : Int) ≤ t := by omega
  have htn' : (t : Int) ≤ n := by omega
  have hd1 : decide (t < f) = false := decide_eq_false (by omega)
  have hd2 : decide (n < t) = false := decide_eq_false (by omega)
  have hd3 : ¬ t < f := by omega
  have hd4 : ¬ n < t := by omega
  obtain ⟨B, hB⟩ : ∃ B, tkb l f t false = B := ⟨_, rfl⟩
  have HTK : Hid (tk l f t false true = B) := by unfold Hid tk; rw [← hB]; rfl
  have HB : Hid (B = (l.drop (f)).take (t - (f))) := hB.symm
  clear hB
  go_enter Tryz.func25, Tryz.ntmps25
  go_wp2_with fail
  go_loopw [7, 8] (fun u v wr => ∃ k : Nat, v = .int .i64 ((f : Int) + k) ∧ k ≤ t - (f) ∧ wr.ownsRow (w.heap.size + 2) 5 1 u k (bv ((l.drop (f)).take k)) ∧ Below (w.heap.size + 2) ((w.alloc (.cells #[.int .i64 ((f : Int)), .int .i64 ((t : Int)), .bool false, .bool true] 28)).alloc (.cells #[.bool false, .bool false, .slice none 0 0] 33)) wr) (fun _ v _ => n + 1 - (intOf v).toNat)
  case atStart =>
    refine ⟨0, by first | rfl | simp, Nat.zero_le _, ?_, bAlloc' (by simp) _⟩
    have := World.ownsRow_made ((w.alloc (.cells #[.int .i64 ((f : Int)), .int .i64 ((t : Int)), .bool false, .bool true] 28)).alloc (.cells #[.bool false, .bool false, .slice none 0 0] 33)) #[] 0 (base := w.heap.size + 2) (e := 5) (size := 1) (by simp) (Nat.zero_le _) rfl
    simpa [bv] using this
  case round =>
    obtain ⟨k, rfl, hk, hown, hbel⟩ := hrel
    have HW := Hid.mk' hown
    have L0 := Hid.mk' hbel
    have L1 : Hid (Below w.heap.size w wr) := (bAlloc (bAlloc (Below.refl _ w) (.cells #[.int .i64 ((f : Int)), .int .i64 ((t : Int)), .bool false, .bool true] 28)) (.cells #[.bool false, .bool false, .slice none 0 0] 33)).trans (L0.out.mono (by omega))
    obtain ⟨ax, cx, ev⟩ := own_shape HW.out
    subst ev
    obtain ⟨k0, k1, k2, k3, z0, z1, z2, y0, y1, y2, hz⟩ := tk_cells L0.out
    clear hown hbel
    by_cases hlt : f + k < t
    · have T1 := Hid.mk' (HT.out.keep L1.out)
      obtain ⟨g, o, rfl, hc⟩ := T1.out.at (by omega)
      have hcb := hc (f + k) (by omega)
      clear hc
      obtain ⟨q, hq⟩ : ∃ q, f + k = q := ⟨_, rfl⟩
      rw [hq] at hcb
      have hqI : (f : Int) + (k : Int) = (q : Int) := by omega
      rw [hqI]
      have HQ := Hid.mk' hq
      have hqn : (q : Int) < n := by omega
      have hqt : (q : Int) < t := by omega
      have hq0 : (0 : Int) ≤ q := by omega
      have HN : Hid (bv ((l.drop (f)).take k) ++ [Value.int .u8 ((at8 l q).toNat : Int)] = bv ((l.drop (f)).take (k + 1))) := by
        unfold Hid
        have hl : k < (l.drop (f)).length := by rw [List.length_drop, hlen.out]; omega
        rw [List.take_succ_eq_append_getElem hl, bv_append]
        congr 1
        have : (l.drop (f))[k] = at8 l q := by
          rw [List.getElem_drop, ← at8_eq, HQ.out]
        rw [this]; rfl
      clear hq hqI
      go_wp2_with (at_builtin; refine append_srv rfl (.tmp 67) (.tmp 72) 22 rfl (w.heap.size + 2) 5 i5 (.int .u8 0) 1 1 Tryz.underlying22 hi5 hz5 hs5 hb5 rfl (by decide) (.slice ax k cx) k (bv ((l.drop (f)).take k)) rfl (HW.out.alloc _) (.slice (some ⟨wr.heap.size, 0, none⟩) 1 1) 1 [.int .u8 ((at8 l q).toNat : Int)] rfl (.inr ⟨⟨wr.heap.size, 0, none⟩, 1, rfl, fun j u hj => lit_cells wr _ 5 j u hj⟩) rfl ?r1 ?r2 ?r3 ?r4 ?_)
      case r1 => intro u hu; simp at hu; subst hu; rfl
      case r2 => unfold maxLen; omega
      case r3 => omega
      case r4 => have := hz; simp; omega
      intro v2 w3 hown2 hgrow2 _
      have L3 : Hid (Below (w.heap.size + 2) ((w.alloc (.cells #[.int .i64 ((f : Int)), .int .i64 ((t : Int)), .bool false, .bool true] 28)).alloc (.cells #[.bool false, .bool false, .slice none 0 0] 33)) w3) := (L0.out.alloc (by omega) _).grown hgrow2 (by simp; omega) (fun k hk => (HW.out.lt k hk).1)
      rw [HN.out] at hown2
      have HW2 := Hid.mk' hown2
      clear hown2 hgrow2
      go_wp2
      go_roundw
      case rel => exact ⟨k + 1, by have := HQ.out; go_num, by omega, HW2.out, L3.out⟩
      case measure => have := HQ.out; simp [intOf]; omega
    · obtain rfl : k = t - (f) := by omega
      rw [← HB.out] at HW
      obtain ⟨m, hm⟩ : ∃ m, t - (f) = m := ⟨_, rfl⟩
      rw [hm] at HW ⊢
      have HBL : Hid (B.length = m) := by have := HW.out.1; rw [bv_length] at this; unfold Hid; omega
      have hx : ¬ (f : Int) + (m : Int) < (t : Int) := by omega
      have hmn : m ≤ n := by omega
      have hmI : (m : Int) ≤ 140737488351232 := by omega
      clear hm hk hlt
      go_wp2
      exact bodyPost_ret (v := .tuple #[.agg #[.bool true, .bool false, .slice ax m cx], .int .i64 0]) (by simp [results, Tryz.results25, go_sem, z0, z1, z2]) rfl ⟨_, rfl, by rw [HTK.out]; have h := own_set3 (b := w.heap.size) HW.out (x := .bool true) (y := .bool false) (z := .slice ax m cx); rw [HBL.out]; exact h, bset3' L1.out _ _ _⟩

end Go.Proofs.YtppefcnopkmhbaaGreatDoor
