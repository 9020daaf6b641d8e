/- bank.Put, one way of four. -/
import Derived.Test.YtienamngmalkaaaPut1
namespace Go.Proofs.Ytienamngmalkaaa
open Go.RowKit

set_option maxRecDepth 8000
set_option maxHeartbeats 8000000 in
theorem put_false_p (L : List Rg) (P : List Ct) (x : Nat) (how : Int) (s : Bool) (a : Option Addr) (n c k : Nat) (t : List UInt8) (w : World) (hx : x < 256) (HR : Hid (Rdb w L P)) (HT : Hid (Tx w a n c t)) (hk : rix x = some k) (hh : decide (1 ≤ how ∧ how ≤ 3) = true) (hn : n ≤ 65536) (hG : (grt x && (P.getD k zc).s) = false) :
    Calls Try.prog 16 #[.agg (bk L), .int .u8 (x : Int), .int .i64 how, .agg #[.bool s, .bool false, .slice a n c]] w fun e w' => ∃ N, e = .returned (.tuple #[.agg (bk N), .int .i64 (putQ P k how (putD P x k ⟨s, false, t⟩)).2]) ∧ New w w' N (putQ P k how (putD P x k ⟨s, false, t⟩)).1 := by
  have hz := z28
  have hbz := b28
  generalize hW3 : ((w.alloc (.cells (bk L) 28)).alloc (.cells #[.bool s, .bool false, .slice a n c] 24)).alloc (.cells (bk zb) 28) = W3
  have BX : Hid (Bx w W3 L s false a n c) := by subst hW3; exact Bx.new w L s false a n c
  have CR := Hid.mk' (register_any w.heap.size x W3 hx)
  have r0 : W3.cell? ⟨w.heap.size + 1, 0, none⟩ = some (.bool s) := BX.out.b1.cell rfl
  have r1 : W3.cell? ⟨w.heap.size + 1, 1, none⟩ = some (.bool false) := BX.out.b1.cell rfl
  have r2 : W3.cell? ⟨w.heap.size + 1, 2, none⟩ = some (.slice a n c) := BX.out.b1.cell rfl
  have hk37 := rix_lt hk
  rw [hk, rgp_some] at CR
  have CH := Hid.mk' (isHow_any how W3)
  rw [hh] at CH
  clear hh
  have hn' : ¬ (65536 : Int) < (n : Int) := by omega
  obtain ⟨hL, hP, hrd⟩ := HR.out
  obtain ⟨o, hr⟩ : ∃ r, L[k]? = some r := ⟨_, List.getElem?_eq_getElem (by omega)⟩
  obtain ⟨ct, hc⟩ : ∃ c, P[k]? = some c := ⟨_, List.getElem?_eq_getElem (by omega)⟩
  have hPk : P.getD k zc = ct := by rw [List.getD_eq_getElem?_getD, hc]; rfl
  have DO := Hid.mk' (hrd k _ _ hr hc)
  obtain ⟨os, ol, oa, on, oc⟩ := o
  obtain ⟨cs, cl, ctx⟩ := ct
  have eo1 : os = cs := DO.out.s
  have eo2 : ol = cl := DO.out.l
  subst eo1 eo2
  rw [hPk] at hG
  dsimp only at hG
  have hD : putD P x k ⟨s, false, t⟩ = ⟨true, false, t⟩ := by unfold putD; rw [hPk, hG]; rfl
  rw [hD]
  generalize hQ0 : putQ P k how _ = QQ
  obtain ⟨PP, EE⟩ := QQ
  have HQ := Hid.mk' hQ0
  clear hQ0
  have HRC := Hid.mk' hr
  clear hrd hc hPk hD hr
  go_enter Try.func16, Try.ntmps16
  go_wp2_with fail
  refine CR.out.mono ?_
  rintro e w3 ⟨rfl, hw⟩
  have hq := hw.symm
  subst hq
  clear hw CR hW3
  go_wp2_with fail
  refine CH.out.mono ?_
  rintro e w4 ⟨rfl, hw⟩
  have hq := hw.symm
  subst hq
  clear hw CH
  have BY := Hid.mk' BX.out
  clear BX
  have r0 : W3.cell? ⟨w.heap.size + 1, 0, none⟩ = some (.bool s) := BY.out.b1.cell rfl
  have r1 : W3.cell? ⟨w.heap.size + 1, 1, none⟩ = some (.bool false) := BY.out.b1.cell rfl
  have r2 : W3.cell? ⟨w.heap.size + 1, 2, none⟩ = some (.slice a n c) := BY.out.b1.cell rfl
  have g0 := BY.out.b1.frozen 0
  have BV := Hid.mk' BY.out.set1
  go_upto_region 11 with fail
  clear BY r0 r1 r2 g0
  generalize W3.setCell ⟨w.heap.size + 1, 0, none⟩ (.bool true) = W6 at *
  obtain ⟨o0, o1, o2⟩ := BV.out.b0.rg HRC.out
  dsimp only at o0 o1 o2
  have CG := Hid.mk' (isGreat_any x W6)
  go_cut [46] from 11 to 46 (fun x46 wx => x46 = .bool false ∧ wx = W6)
  case first =>
    cases hg : grt x with
    | false =>
      rw [hg] at CG
      go_wp2_with (go_at_call 30; refine CG.out.mono ?_; rintro e w7 ⟨rfl, hw⟩; have hq := hw.symm; subst hq; clear hw)
      go_meet
      exact ⟨rfl, rfl⟩
    | true =>
      rw [hg] at CG hG
      have hG' : os = false := by simpa using hG
      subst hG'
      go_wp2_with (go_at_call 30; refine CG.out.mono ?_; rintro e w7 ⟨rfl, hw⟩; have hq := hw.symm; subst hq; clear hw)
      go_meet
      exact ⟨rfl, rfl⟩
  case rest =>
  obtain ⟨rfl, rfl⟩ := hcut
  clear CG
  have BU : Hid (Bx w wc L true false a n c) := BV.out
  have TU : Hid (Tx wc a n c t) := HT.out.keep BV.out.bel
  clear BV o0 o1 o2
  have hlen := Hid.mk' TU.out.len
  have s0 : wc.cell? ⟨w.heap.size + 1, 0, none⟩ = some (.bool true) := BU.out.b1.cell rfl
  have s1 : wc.cell? ⟨w.heap.size + 1, 1, none⟩ = some (.bool false) := BU.out.b1.cell rfl
  have s2 : wc.cell? ⟨w.heap.size + 1, 2, none⟩ = some (.slice a n c) := BU.out.b1.cell rfl
  have hnI : (n : Int) ≤ 150000000000000 := by have := TU.out.big; omega
  have hQ := HQ.out
  unfold putQ at hQ
  rw [show (⟨true, false, t⟩ : Ct).t.length = n from TU.out.len] at hQ
  have hlong : ¬ 65536 < n := by omega
  rw [if_neg hlong] at hQ
  obtain ⟨q1, q2⟩ := Prod.mk.inj hQ
  subst q2
  clear hQ HQ
  have HQ := Hid.mk' q1
  clear q1
  have hlong' : ¬ (65536 : Int) < (n : Int) := by omega
  by_cases hk0 : k = 0
  · subst hk0
    have q1 := HQ.out
    rw [if_pos rfl] at q1
    subst q1
    clear HQ
    have hpe := peq wc ⟨w.heap.size, 0, none⟩
    have CK := Hid.mk' (keep_any w.heap.size L how true false a n c wc hL BU.out.b0)
    go_wp2_with fail
    refine CK.out.mono ?_
    rintro e w9 ⟨rfl, hB9, hg9⟩
    have T9 := Hid.mk' (TU.out.off_bk BU.out.b0 hg9)
    have B90 := Hid.mk' hB9
    have B91 := Hid.mk' (BU.out.b1.grown hg9 (by simp))
    have B92 := Hid.mk' (BU.out.b2.grown hg9 (by simp; try omega))
    have BL9 : Hid (Below w.heap.size w w9) := BU.out.bel.grown hg9 BU.out.bel.size (fun k hk => by simp at hk; omega)
    have hL9 : (keepL L how (⟨true, false, a, n, c⟩ : Rg)).length = 37 := keepL_len hL _ _
    have R9 : Hid (Rdb w9 (keepL L how (⟨true, false, a, n, c⟩ : Rg)) (keepL P how (⟨true, false, t⟩ : Ct))) := (HR.out.keep BL9.out).kept how ⟨rfl, rfl, T9.out, by dsimp only; omega⟩
    clear hB9 hg9 CK BU TU s0 s1 s2
    generalize keepL L how (⟨true, false, a, n, c⟩ : Rg) = L9 at *
    have s0 : w9.cell? ⟨w.heap.size + 1, 0, none⟩ = some (.bool true) := B91.out.cell rfl
    have s1 : w9.cell? ⟨w.heap.size + 1, 1, none⟩ = some (.bool false) := B91.out.cell rfl
    have s2 : w9.cell? ⟨w.heap.size + 1, 2, none⟩ = some (.slice a n c) := B91.out.cell rfl
    obtain ⟨y, hy⟩ : ∃ y, L9[0]? = some y := ⟨_, List.getElem?_eq_getElem (by omega)⟩
    obtain ⟨e0, e1, e2⟩ := B90.out.rg hy
    change w9.cell? ⟨w.heap.size, 0, none⟩ = _ at e0
    change w9.cell? ⟨w.heap.size, 1, none⟩ = _ at e1
    change w9.cell? ⟨w.heap.size, 2, none⟩ = _ at e2
    have fz := B90.out.frozen
    obtain ⟨WZ, hWZ⟩ : ∃ W, ((((((w9.setCell ⟨w.heap.size, 0, none⟩ (.bool true)).setCell ⟨w.heap.size, 1, none⟩ (.bool false)).setCell ⟨w.heap.size, 2, none⟩ (.slice a n c)).setCell ⟨w.heap.size, 0, none⟩ (.bool true)).setCell ⟨w.heap.size, 1, none⟩ (.bool false)).setCell ⟨w.heap.size, 2, none⟩ (.slice a n c)) = W := ⟨_, rfl⟩
    have FZ : Hid (Blk WZ w.heap.size 28 (bk ((L9.set 0 ⟨true, false, a, n, c⟩).set 0 ⟨true, false, a, n, c⟩)) ∧ Blk WZ (w.heap.size + 1 + 1) 28 (bk zb) ∧ Below w.heap.size w WZ ∧ Rdb WZ ((L9.set 0 ⟨true, false, a, n, c⟩).set 0 ⟨true, false, a, n, c⟩) (((keepL P how (⟨true, false, t⟩ : Ct)).set 0 ⟨true, false, t⟩).set 0 ⟨true, false, t⟩)) := by
      have e9 : putr (putr w9 w.heap.size 0 true false (.slice a n c)) w.heap.size 0 true false (.slice a n c) = WZ := by rw [← hWZ]; rfl
      rw [← e9]
      have G1 := grown_putr w9 w.heap.size 0 true false (.slice a n c)
      have BA := B90.out.putr (k := 0) ⟨true, false, a, n, c⟩
      have G2 := grown_putr (putr w9 w.heap.size 0 true false (.slice a n c)) w.heap.size 0 true false (.slice a n c)
      have r1 := (R9.out.off_bk B90.out G1).off_bk BA G2
      have r2 : Rd (putr (putr w9 w.heap.size 0 true false (.slice a n c)) w.heap.size 0 true false (.slice a n c)) ⟨true, false, a, n, c⟩ ⟨true, false, t⟩ := ⟨rfl, rfl, (T9.out.off_bk B90.out G1).off_bk BA G2, by dsimp only; omega⟩
      exact ⟨BA.putr (k := 0) ⟨true, false, a, n, c⟩, B92.out.grown (G1.trans G2) (by simp; try omega), below_putr (below_putr BL9.out (Nat.le_refl _) _ _ _) (Nat.le_refl _) _ _ _, Rd.setk (Rd.setk r1 0 r2) 0 r2⟩
    clear hy
    go_upto_region 17 with fail
    go_cut [63] from 52 to 67 (fun x63 wx => x63 = .pointer (some ⟨w.heap.size, 0, none⟩) ∧ Hid (Blk wx w.heap.size 28 (bk ((L9.set 0 ⟨true, false, a, n, c⟩).set 0 ⟨true, false, a, n, c⟩))) ∧ Hid (Blk wx (w.heap.size + 1 + 1) 28 (bk zb)) ∧ Hid (Below w.heap.size w wx) ∧ Hid (Rdb wx ((L9.set 0 ⟨true, false, a, n, c⟩).set 0 ⟨true, false, a, n, c⟩) (((keepL P how (⟨true, false, t⟩ : Ct)).set 0 ⟨true, false, t⟩).set 0 ⟨true, false, t⟩)))
    case first =>
      go_region
      all_goals
        go_wp2_with fail
        go_meet
        exact ⟨rfl, FZ.out.1, FZ.out.2.1, FZ.out.2.2.1.drew, FZ.out.2.2.2.keep (Below.refl _ _).drew⟩
    case rest =>
    obtain ⟨rfl, KB, KC, KD, KR⟩ := hcut
    have hL5 : ((L9.set 0 (⟨true, false, a, n, c⟩ : Rg)).set 0 ⟨true, false, a, n, c⟩).length = 37 := by rw [List.length_set, List.length_set]; exact hL9
    clear hWZ FZ e0 e1 e2 s0 s1 s2 fz B90 B91 B92 BL9 R9 T9
    generalize (L9.set 0 (⟨true, false, a, n, c⟩ : Rg)).set 0 ⟨true, false, a, n, c⟩ = L5 at *
    have CA := Hid.mk' (apart_any L5 _ wc KR.out)
    have hqc : w.heap.size + 1 + 1 < wc.heap.size := KC.out.lt
    go_wp2_with (refine wl_load28 (.tmp 4) rfl rfl rfl hL5 KB.out ?_)
    refine CA.out.mono ?_
    rintro e wz ⟨NN, rfl, hNew⟩
    have NW := Hid.mk' (hNew.fin KD.out (show w.heap.size ≤ w.heap.size + 1 + 1 by omega) hqc)
    have hlN := hNew.len
    have BZ := Hid.mk' (KC.out.keep hNew.own.bel)
    have BP := Hid.mk' (Blk.put28 hlN rfl BZ.out)
    have hlv := ld28 hlN BP.out
    clear hNew CA KB KC KD KR hqc
    go_wp2_with (refine wl_store28 (.tmp 8) (.tmp 69) rfl rfl rfl rfl hlN rfl BZ.out ?_)
    generalize put28 wz (w.heap.size + 1 + 1) NN = WP at *
    exact bodyPost_ret (v := .tuple #[.agg (bk NN), .int .i64 0]) (by simp [results, Try.results16, asAddr, hlv]) rfl ⟨_, rfl, NW.out⟩
  · have q1 := HQ.out
    rw [if_neg hk0] at q1
    subst q1
    clear HQ
    have hpe := pne (w := wc) (a := ⟨w.heap.size, 3 * k, none⟩) (b := ⟨w.heap.size, 0, none⟩) (by simp; try omega) BU.out.b0 BU.out.b0
    have B90 := Hid.mk' BU.out.b0
    have B91 := Hid.mk' BU.out.b1
    have B92 := Hid.mk' BU.out.b2
    have BL9 := Hid.mk' BU.out.bel
    have R9 : Hid (Rdb wc L P) := HR.out.keep BL9.out
    clear BU
    have s0 : wc.cell? ⟨w.heap.size + 1, 0, none⟩ = some (.bool true) := B91.out.cell rfl
    have s1 : wc.cell? ⟨w.heap.size + 1, 1, none⟩ = some (.bool false) := B91.out.cell rfl
    have s2 : wc.cell? ⟨w.heap.size + 1, 2, none⟩ = some (.slice a n c) := B91.out.cell rfl
    obtain ⟨y, hy⟩ : ∃ y, L[k]? = some y := ⟨_, List.getElem?_eq_getElem (by omega)⟩
    obtain ⟨e0, e1, e2⟩ := B90.out.rg hy
    change wc.cell? ⟨w.heap.size, 3 * k, none⟩ = _ at e0
    change wc.cell? ⟨w.heap.size, 3 * k + 1, none⟩ = _ at e1
    change wc.cell? ⟨w.heap.size, 3 * k + 2, none⟩ = _ at e2
    obtain ⟨z, hzz⟩ : ∃ y, L[0]? = some y := ⟨_, List.getElem?_eq_getElem (by omega)⟩
    obtain ⟨d0, d1, d2⟩ := B90.out.rg hzz
    change wc.cell? ⟨w.heap.size, 0, none⟩ = _ at d0
    change wc.cell? ⟨w.heap.size, 1, none⟩ = _ at d1
    change wc.cell? ⟨w.heap.size, 2, none⟩ = _ at d2
    have fz := B90.out.frozen
    obtain ⟨WZ, hWZ⟩ : ∃ W, ((((((wc.setCell ⟨w.heap.size, 3 * k, none⟩ (.bool true)).setCell ⟨w.heap.size, 3 * k + 1, none⟩ (.bool false)).setCell ⟨w.heap.size, 3 * k + 2, none⟩ (.slice a n c)).setCell ⟨w.heap.size, 0, none⟩ (.bool true)).setCell ⟨w.heap.size, 1, none⟩ (.bool false)).setCell ⟨w.heap.size, 2, none⟩ (.slice a n c)) = W := ⟨_, rfl⟩
    have FZ : Hid (Blk WZ w.heap.size 28 (bk ((L.set k ⟨true, false, a, n, c⟩).set 0 ⟨true, false, a, n, c⟩)) ∧ Blk WZ (w.heap.size + 1 + 1) 28 (bk zb) ∧ Below w.heap.size w WZ ∧ Rdb WZ ((L.set k ⟨true, false, a, n, c⟩).set 0 ⟨true, false, a, n, c⟩) ((P.set k ⟨true, false, t⟩).set 0 ⟨true, false, t⟩)) := by
      have e9 : putr (putr wc w.heap.size k true false (.slice a n c)) w.heap.size 0 true false (.slice a n c) = WZ := by rw [← hWZ]; rfl
      rw [← e9]
      have G1 := grown_putr wc w.heap.size k true false (.slice a n c)
      have BA := B90.out.putr (k := k) ⟨true, false, a, n, c⟩
      have G2 := grown_putr (putr wc w.heap.size k true false (.slice a n c)) w.heap.size 0 true false (.slice a n c)
      have r1 := (R9.out.off_bk B90.out G1).off_bk BA G2
      have r2 : Rd (putr (putr wc w.heap.size k true false (.slice a n c)) w.heap.size 0 true false (.slice a n c)) ⟨true, false, a, n, c⟩ ⟨true, false, t⟩ := ⟨rfl, rfl, (TU.out.off_bk B90.out G1).off_bk BA G2, by dsimp only; omega⟩
      exact ⟨BA.putr (k := 0) ⟨true, false, a, n, c⟩, B92.out.grown (G1.trans G2) (by simp; try omega), below_putr (below_putr BL9.out (Nat.le_refl _) _ _ _) (Nat.le_refl _) _ _ _, Rd.setk (Rd.setk r1 k r2) 0 r2⟩
    clear hy
    go_upto_region 17 with fail
    go_cut [63] from 52 to 67 (fun x63 wx => x63 = .pointer (some ⟨w.heap.size, 3 * k, none⟩) ∧ Hid (Blk wx w.heap.size 28 (bk ((L.set k ⟨true, false, a, n, c⟩).set 0 ⟨true, false, a, n, c⟩))) ∧ Hid (Blk wx (w.heap.size + 1 + 1) 28 (bk zb)) ∧ Hid (Below w.heap.size w wx) ∧ Hid (Rdb wx ((L.set k ⟨true, false, a, n, c⟩).set 0 ⟨true, false, a, n, c⟩) ((P.set k ⟨true, false, t⟩).set 0 ⟨true, false, t⟩)))
    case first =>
      go_region
      all_goals
        go_wp2_with fail
        go_meet
        exact ⟨rfl, FZ.out.1, FZ.out.2.1, FZ.out.2.2.1.drew, FZ.out.2.2.2.keep (Below.refl _ _).drew⟩
    case rest =>
    obtain ⟨rfl, KB, KC, KD, KR⟩ := hcut
    have hL5 : ((L.set k (⟨true, false, a, n, c⟩ : Rg)).set 0 ⟨true, false, a, n, c⟩).length = 37 := by rw [List.length_set, List.length_set]; exact hL
    clear hWZ FZ e0 e1 e2 s0 s1 s2 fz B90 B91 B92 BL9 R9 TU
    generalize (L.set k (⟨true, false, a, n, c⟩ : Rg)).set 0 ⟨true, false, a, n, c⟩ = L5 at *
    have CA := Hid.mk' (apart_any L5 _ wc KR.out)
    have hqc : w.heap.size + 1 + 1 < wc.heap.size := KC.out.lt
    go_wp2_with (refine wl_load28 (.tmp 4) rfl rfl rfl hL5 KB.out ?_)
    refine CA.out.mono ?_
    rintro e wz ⟨NN, rfl, hNew⟩
    have NW := Hid.mk' (hNew.fin KD.out (show w.heap.size ≤ w.heap.size + 1 + 1 by omega) hqc)
    have hlN := hNew.len
    have BZ := Hid.mk' (KC.out.keep hNew.own.bel)
    have BP := Hid.mk' (Blk.put28 hlN rfl BZ.out)
    have hlv := ld28 hlN BP.out
    clear hNew CA KB KC KD KR hqc
    go_wp2_with (refine wl_store28 (.tmp 8) (.tmp 69) rfl rfl rfl rfl hlN rfl BZ.out ?_)
    generalize put28 wz (w.heap.size + 1 + 1) NN = WP at *
    exact bodyPost_ret (v := .tuple #[.agg (bk NN), .int .i64 0]) (by simp [results, Try.results16, asAddr, hlv]) rfl ⟨_, rfl, NW.out⟩
end Go.Proofs.Ytienamngmalkaaa
