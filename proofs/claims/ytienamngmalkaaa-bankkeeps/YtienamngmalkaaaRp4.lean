/- quoinref15.Put, one way. -/
import Derived.Test.YtienamngmalkaaaRp0
namespace Go.Proofs.Ytienamngmalkaaa
open Go.RowKit

set_option maxRecDepth 8000
set_option maxHeartbeats 8000000 in
theorem rput_q (L : List Rg) (P : List Ct) (how : Int) (s l : Bool) (a : Option Addr) (n c : Nat) (t : List UInt8) (w : World) (HR : Hid (Rdb w L P)) (HT : Hid (Tx w a n c t)) (hh : decide (1 ≤ how ∧ how ≤ 3) = true) (hn : n ≤ 65536) (hle : (l && !enl t) = false) :
    Calls Try.prog 15 #[.agg (bk L), .int .u8 ((34 : Nat) : Int), .int .i64 how, .agg #[.bool s, .bool l, .slice a n c]] w fun e w' => ∃ N, e = .returned (.tuple #[.agg (bk N), .int .i64 0]) ∧ NewR w w' N (putB P (0) how ⟨true, l, t⟩) := by
  have hz := z28
  have hbz := b28
  generalize hW3 : ((w.alloc (.cells (bk L) 28)).alloc (.cells #[.bool s, .bool l, .slice a n c] 24)).alloc (.cells (bk zb) 28) = W3
  have BX : Hid (Bx w W3 L s l a n c) := by subst hW3; exact Bx.new w L s l a n c
  have CV := Hid.mk' (rvalid_any (34) W3 (by omega))
  have r0 : W3.cell? ⟨w.heap.size + 1, 0, none⟩ = some (.bool s) := BX.out.b1.cell rfl
  have r1 : W3.cell? ⟨w.heap.size + 1, 1, none⟩ = some (.bool l) := BX.out.b1.cell rfl
  have r2 : W3.cell? ⟨w.heap.size + 1, 2, none⟩ = some (.slice a n c) := BX.out.b1.cell rfl
  rw [show (rix (34)).isSome = true from by rfl] at CV
  have h9 : 1 ≤ how ∧ how ≤ 3 := by simpa using hh
  have h3 : decide (how < 1) = false := by simp; omega
  have h4 : decide (3 < how) = false := by simp; omega
  have HH := Hid.mk' h9
  have hn' : decide ((65536 : Int) < (n : Int)) = false := by simp; omega
  have HN := Hid.mk' hn
  have HLE := Hid.mk' hle
  have hL := HR.out.1
  have hP := HR.out.2.1
  have HLD : Hid (n = t.length) := HT.out.len.symm
  clear hh hn h9 hle
  go_enter Try.func15, Try.ntmps15
  go_wp2_with fail
  clear hW3
  refine CV.out.mono ?_
  rintro e w3 ⟨rfl, hw⟩
  have hq := hw.symm
  subst hq
  clear hw CV
  go_upto_region 7 with fail
  go_cut [46] from 12 to 46 (fun x46 wx => x46 = .bool false ∧ wx = W3)
  case first =>
    cases hl : l with
    | false =>
      subst hl
      go_wp2_with fail
      go_meet
      exact ⟨rfl, rfl⟩
    | true =>
      subst hl
      have he : enl t = true := by have := HLE.out; simpa using this
      have hlen := HT.out.len
      have h0 : 0 < n := by
        rcases Nat.eq_zero_or_pos n with h | h
        · have e9 : t = [] := List.eq_nil_of_length_eq_zero (by omega)
          rw [e9] at he; cases he
        · exact h
      have HT3 := HT.out.keep BX.out.bel
      obtain ⟨g, o, rfl, hc⟩ := HT3.at h0
      have hce := hc (n - 1) (by omega)
      have hlast : at8 t (n - 1) = 10 := by
        have := enl_at (t := t) (by omega)
        rw [he, hlen] at this; simpa using this.symm
      obtain ⟨k1, hk1⟩ : ∃ k, k = n - 1 := ⟨_, rfl⟩
      rw [hlast, ← hk1] at hce
      change W3.cell? ⟨g, o + k1, none⟩ = some (.int .u8 10) at hce
      have i0 : ((n : Int) == 0) = false := by simp; omega
      have i1 : IntKind.i64.wrap ((n : Int) - 1) = (k1 : Int) := by have := HN.out; rw [IntKind.wrap_i64]; omega
      have i2 : (k1 : Int) < (n : Int) := by omega
      have i3 : (0 : Int) ≤ (k1 : Int) := by omega
      clear hk1 hlast hc h0 hlen HT3 he
      go_wp2_with fail
      go_meet
      exact ⟨rfl, rfl⟩
  case rest =>
  obtain ⟨rfl, rfl⟩ := hcut
  clear r0 r1 r2
  have r0 : wc.cell? ⟨w.heap.size + 1, 0, none⟩ = some (.bool s) := BX.out.b1.cell rfl
  have g0 := BX.out.b1.frozen 0
  have BV := Hid.mk' BX.out.set1
  obtain ⟨W4, hW4⟩ : ∃ W, wc.setCell ⟨w.heap.size + 1, 0, none⟩ (.bool true) = W := ⟨_, rfl⟩
  rw [hW4] at BV
  have CAW := Hid.mk' (all_any L P W4 (HR.out.keep BV.out.bel))
  have B0 := Hid.mk' BV.out.b0
  have hsz4 : w.heap.size + 1 + 1 + 1 ≤ W4.heap.size := by have := BV.out.b2.lt; omega
  go_wp2_with (refine wl_load28 (.tmp 4) rfl rfl rfl hL B0.out ?_)
  clear hW4 r0 g0
  refine CAW.out.mono ?_
  rintro e w5 ⟨N0, rfl, hN0⟩
  have hl0 := hN0.len
  have hBz := Hid.mk' (Blk.new w5 28 (bk zb))
  obtain ⟨hbx, hbb⟩ := boxed (w := w5) hl0
  have hbb' := hbb
  obtain ⟨p, hp⟩ : ∃ p, w5.heap.size = p := ⟨_, rfl⟩
  have hbs : Below w5.heap.size w5 (put28 (w5.alloc (.cells (bk zb) 28)) p N0) := by rw [← hp]; exact hbb
  rw [hp] at hBz hbx
  clear hbb hbb'
  have hbb := hbs
  clear hbs
  have RO : Hid (Ro w L true l a n c p N0 P (put28 (w5.alloc (.cells (bk zb) 28)) p N0)) :=
    ⟨(BV.out.keep hN0.own.bel).keep hbb, hbx, hl0, hN0.fl, fun k r d h1 h2 => own_keep (own_lower (hN0.own.own k _ (rows_at h1 h2)) hsz4) hbb, by have := hN0.own.bel.size; omega⟩
  clear hbx hbb hN0 CAW B0 BV hsz4 BX
  go_upto_region 15 with (refine wl_store28 (.tmp 10) (.tmp 50) rfl rfl rfl rfl hl0 rfl hBz.out ?_)
  generalize put28 (w5.alloc (.cells (bk zb) 28)) p N0 = w6 at *
  clear hp hBz
  have TD : Hid (Tx w6 a n c t) := HT.out.keep RO.out.bx.bel
  have hn := HN.out
  have hh9 := HH.out
  by_cases c1 : how = 1
  · subst c1
    have s0 : w6.cell? ⟨w.heap.size + 1, 0, none⟩ = some (.bool true) := RO.out.bx.b1.cell rfl
    have s1 : w6.cell? ⟨w.heap.size + 1, 1, none⟩ = some (.bool l) := RO.out.bx.b1.cell rfl
    have s2 : w6.cell? ⟨w.heap.size + 1, 2, none⟩ = some (.slice a n c) := RO.out.bx.b1.cell rfl
    have CC9 := Hid.mk' (copy_any true l a n c t w6 TD.out (by omega))
    go_wp2_with fail
    refine CC9.out.mono ?_
    rintro e v9 ⟨a9, c9, rfl, hO9, hb9⟩
    have RK9 := Hid.mk' (RO.out.keep hb9)
    have RN9 := Hid.mk' (RO.out.copied hb9 (0) (dl := l) (dt := t) HLD.out hO9)
    have TN9 := Hid.mk' ((TD.out.keep hb9).off_bk RK9.out.b (grown_putr v9 p (0) true l (.slice a9 n c9)))
    obtain ⟨y9, -, e0, e1, e2⟩ := RK9.out.cells (j := 0) (by omega)
    have fz := RK9.out.b.frozen
    clear hO9 hb9 s0 s1 s2 CC9 RO TD RK9
    unfold putr at RN9 TN9
    rw [show 3 * (0) = 0 from by omega] at e0 e1 e2 RN9 TN9
    change v9.cell? ⟨p, 1, none⟩ = _ at e1
    change v9.cell? ⟨p, 2, none⟩ = _ at e2
    change Hid (Ro _ _ _ _ _ _ _ _ _ _ (((v9.setCell ⟨p, 0, none⟩ (.bool true)).setCell ⟨p, 1, none⟩ (.bool l)).setCell ⟨p, 2, none⟩ (.slice a9 n c9))) at RN9
    change Hid (Tx (((v9.setCell ⟨p, 0, none⟩ (.bool true)).setCell ⟨p, 1, none⟩ (.bool l)).setCell ⟨p, 2, none⟩ (.slice a9 n c9)) _ _ _ _) at TN9
    obtain ⟨W9, hW9⟩ : ∃ W, (((v9.setCell ⟨p, 0, none⟩ (.bool true)).setCell ⟨p, 1, none⟩ (.bool l)).setCell ⟨p, 2, none⟩ (.slice a9 n c9)) = W := ⟨_, rfl⟩
    rw [hW9] at RN9 TN9
    have hlN := RN9.out.len
    have BO := Hid.mk' RN9.out.b
    have BZ := Hid.mk' RN9.out.bx.b2
    have NW := Hid.mk' RN9.out.fin
    have BP := Hid.mk' (Blk.put28 hlN rfl BZ.out)
    have hlv := ld28 hlN BP.out
    go_wp2_with (first | (refine wl_load28 (.tmp 10) rfl rfl rfl hlN BO.out ?_) | (refine wl_store28 (.tmp 8) (.tmp 126) rfl rfl rfl rfl hlN rfl BZ.out ?_))
    generalize put28 W9 (w.heap.size + 1 + 1) _ = WP at *
    exact bodyPost_ret (v := .tuple #[.agg (bk _), .int .i64 0]) (by simp [results, Try.results15, asAddr, hlv]) rfl ⟨_, rfl, NW.out.of (by unfold putB keepL; rw [if_pos rfl, if_neg (by decide), if_neg (by decide), List.set_set])⟩
  by_cases c3 : how = 3
  · subst c3
    have s0 : w6.cell? ⟨w.heap.size + 1, 0, none⟩ = some (.bool true) := RO.out.bx.b1.cell rfl
    have s1 : w6.cell? ⟨w.heap.size + 1, 1, none⟩ = some (.bool l) := RO.out.bx.b1.cell rfl
    have s2 : w6.cell? ⟨w.heap.size + 1, 2, none⟩ = some (.slice a n c) := RO.out.bx.b1.cell rfl
    have CC11 := Hid.mk' (copy_any true l a n c t w6 TD.out (by omega))
    go_wp2_with fail
    refine CC11.out.mono ?_
    rintro e v11 ⟨a11, c11, rfl, hO11, hb11⟩
    have RK11 := Hid.mk' (RO.out.keep hb11)
    have RN11 := Hid.mk' (RO.out.copied hb11 (1) (dl := l) (dt := t) HLD.out hO11)
    have TN11 := Hid.mk' ((TD.out.keep hb11).off_bk RK11.out.b (grown_putr v11 p (1) true l (.slice a11 n c11)))
    obtain ⟨y11, -, e0, e1, e2⟩ := RK11.out.cells (j := 1) (by omega)
    have fz := RK11.out.b.frozen
    clear hO11 hb11 s0 s1 s2 CC11 RO TD RK11
    unfold putr at RN11 TN11
    rw [show 3 * (1) = 3 from by omega] at e0 e1 e2 RN11 TN11
    change v11.cell? ⟨p, 4, none⟩ = _ at e1
    change v11.cell? ⟨p, 5, none⟩ = _ at e2
    change Hid (Ro _ _ _ _ _ _ _ _ _ _ (((v11.setCell ⟨p, 3, none⟩ (.bool true)).setCell ⟨p, 4, none⟩ (.bool l)).setCell ⟨p, 5, none⟩ (.slice a11 n c11))) at RN11
    change Hid (Tx (((v11.setCell ⟨p, 3, none⟩ (.bool true)).setCell ⟨p, 4, none⟩ (.bool l)).setCell ⟨p, 5, none⟩ (.slice a11 n c11)) _ _ _ _) at TN11
    obtain ⟨W11, hW11⟩ : ∃ W, (((v11.setCell ⟨p, 3, none⟩ (.bool true)).setCell ⟨p, 4, none⟩ (.bool l)).setCell ⟨p, 5, none⟩ (.slice a11 n c11)) = W := ⟨_, rfl⟩
    rw [hW11] at RN11 TN11
    have s0 : W11.cell? ⟨w.heap.size + 1, 0, none⟩ = some (.bool true) := RN11.out.bx.b1.cell rfl
    have s1 : W11.cell? ⟨w.heap.size + 1, 1, none⟩ = some (.bool l) := RN11.out.bx.b1.cell rfl
    have s2 : W11.cell? ⟨w.heap.size + 1, 2, none⟩ = some (.slice a n c) := RN11.out.bx.b1.cell rfl
    have CC12 := Hid.mk' (copy_any true l a n c t W11 TN11.out (by omega))
    go_wp2_with fail
    refine CC12.out.mono ?_
    rintro e v12 ⟨a12, c12, rfl, hO12, hb12⟩
    have RK12 := Hid.mk' (RN11.out.keep hb12)
    have RN12 := Hid.mk' (RN11.out.copied hb12 (0) (dl := l) (dt := t) HLD.out hO12)
    have TN12 := Hid.mk' ((TN11.out.keep hb12).off_bk RK12.out.b (grown_putr v12 p (0) true l (.slice a12 n c12)))
    obtain ⟨y12, -, e0, e1, e2⟩ := RK12.out.cells (j := 0) (by omega)
    have fz := RK12.out.b.frozen
    clear hO12 hb12 s0 s1 s2 CC12 RN11 TN11 RK12
    unfold putr at RN12 TN12
    rw [show 3 * (0) = 0 from by omega] at e0 e1 e2 RN12 TN12
    change v12.cell? ⟨p, 1, none⟩ = _ at e1
    change v12.cell? ⟨p, 2, none⟩ = _ at e2
    change Hid (Ro _ _ _ _ _ _ _ _ _ _ (((v12.setCell ⟨p, 0, none⟩ (.bool true)).setCell ⟨p, 1, none⟩ (.bool l)).setCell ⟨p, 2, none⟩ (.slice a12 n c12))) at RN12
    change Hid (Tx (((v12.setCell ⟨p, 0, none⟩ (.bool true)).setCell ⟨p, 1, none⟩ (.bool l)).setCell ⟨p, 2, none⟩ (.slice a12 n c12)) _ _ _ _) at TN12
    obtain ⟨W12, hW12⟩ : ∃ W, (((v12.setCell ⟨p, 0, none⟩ (.bool true)).setCell ⟨p, 1, none⟩ (.bool l)).setCell ⟨p, 2, none⟩ (.slice a12 n c12)) = W := ⟨_, rfl⟩
    rw [hW12] at RN12 TN12
    have hlN := RN12.out.len
    have BO := Hid.mk' RN12.out.b
    have BZ := Hid.mk' RN12.out.bx.b2
    have NW := Hid.mk' RN12.out.fin
    have BP := Hid.mk' (Blk.put28 hlN rfl BZ.out)
    have hlv := ld28 hlN BP.out
    go_wp2_with (first | (refine wl_load28 (.tmp 10) rfl rfl rfl hlN BO.out ?_) | (refine wl_store28 (.tmp 8) (.tmp 126) rfl rfl rfl rfl hlN rfl BZ.out ?_))
    generalize put28 W12 (w.heap.size + 1 + 1) _ = WP at *
    exact bodyPost_ret (v := .tuple #[.agg (bk _), .int .i64 0]) (by simp [results, Try.results15, asAddr, hlv]) rfl ⟨_, rfl, NW.out.of (by unfold putB keepL; rw [if_pos rfl, if_neg (by decide), if_pos rfl, List.set_set])⟩
  obtain rfl : how = 2 := by omega
  go_wp2_with fail
  go_loopg [11] 8 (fun m x11 wx => x11 = .int .i64 (m : Int) ∧ m ≤ 8 ∧ ∃ M P', Hid (Ro w L true l a n c p M P' wx) ∧ Hid (Tx wx a n c t) ∧ Hid (P'.length = 37 ∧ ∀ k, P'[k]? = P[if 2 + m < k ∧ k ≤ 10 then k - 1 else k]?))
  case atStart => exact ⟨rfl, by omega, _, _, RO.out, TD.out, hP, fun k => by rw [if_neg (by omega)]⟩
  case round =>
    obtain ⟨rfl, hi8, M, P', RI, TI, HP'⟩ := hrel
    clear RO TD
    by_cases hi : 0 < gk
    · have hi' : (0 : Int) < (gk : Int) := by omega
      have iw : IntKind.i64.wrap ((gk : Int) - 1) = ((gk - 1 : Nat) : Int) := by rw [IntKind.wrap_i64]; omega
      obtain ⟨i1, hi1⟩ : ∃ k, k = gk - 1 := ⟨_, rfl⟩
      rw [← hi1] at iw
      have HI1 := Hid.mk' hi1
      have b1 : (i1 : Int) < 9 := by omega
      have b2 : (0 : Int) ≤ (i1 : Int) := by omega
      have b3 : (gk : Int) < 9 := by omega
      have b4 : (0 : Int) ≤ (gk : Int) := by omega
      obtain ⟨y, hy, s0, s1, s2⟩ := RI.out.cells (j := 2 + i1) (by omega)
      obtain ⟨z, -, e0, e1, e2⟩ := RI.out.cells (j := 2 + gk) (by omega)
      rw [show 3 * (2 + i1) = 6 + i1 * 3 by omega] at s0 s1 s2
      have fz := RI.out.b.frozen
      obtain ⟨d, hd⟩ : ∃ d, P'[2 + i1]? = some d := ⟨_, List.getElem?_eq_getElem (by rw [HP'.out.1]; omega)⟩
      obtain ⟨q1, q2, q3⟩ := RI.out.fl.2 _ _ _ hy hd
      have RJ := Hid.mk' (RI.out.put (2 + gk) q1 q2 q3 (RI.out.own _ _ _ hy hd))
      have TJ := Hid.mk' (TI.out.off_bk RI.out.b (grown_putr wr p (2 + gk) y.s y.l (.slice y.a y.n y.c)))
      have HP2 : Hid ((P'.set (2 + gk) d).length = 37 ∧ ∀ k, (P'.set (2 + gk) d)[k]? = P[if 2 + i1 < k ∧ k ≤ 10 then k - 1 else k]?) := by
        refine ⟨by rw [List.length_set]; exact HP'.out.1, fun k => ?_⟩
        rw [List.getElem?_set]
        by_cases e : 2 + gk = k
        · rw [if_pos e, if_pos (by rw [HP'.out.1]; omega), if_pos (by omega), ← hd, HP'.out.2, if_neg (by omega)]
          congr 1; omega
        · rw [if_neg e, HP'.out.2]
          congr 1
          by_cases e2 : 2 + gk < k ∧ k ≤ 10
          · rw [if_pos e2, if_pos (by omega)]
          · rw [if_neg e2, if_neg (by omega)]
      unfold putr at RJ TJ
      rw [show 3 * (2 + gk) = 6 + gk * 3 by omega] at e0 e1 e2 RJ TJ
      obtain ⟨ys, yl, ya, yn, yc⟩ := y
      dsimp only at s0 s1 s2 RJ TJ
      clear RI TI hy hd q1 q2 q3 hi1
      go_wp2
      go_roundg i1
      case rel => exact ⟨rfl, by have := HI1.out; omega, _, _, RJ.out, TJ.out, HP2.out⟩
      case measure => have := HI1.out; omega
    · have hi' : ¬ (0 : Int) < (gk : Int) := by omega
      obtain rfl : gk = 0 := by omega
      have ePP : P' = pushL P := by
        apply List.ext_getElem?
        intro k
        rw [HP'.out.2, pushL_at hP]
        congr 1
        unfold psh
        by_cases e2 : 2 + 0 < k ∧ k ≤ 10
        · rw [if_pos e2, if_neg (by omega), if_pos (by omega)]
        · rw [if_neg e2]
          split
          · rfl
          · rw [if_neg (by omega)]
      subst ePP
      have s0 : wr.cell? ⟨w.heap.size + 1, 0, none⟩ = some (.bool true) := RI.out.bx.b1.cell rfl
      have s1 : wr.cell? ⟨w.heap.size + 1, 1, none⟩ = some (.bool l) := RI.out.bx.b1.cell rfl
      have s2 : wr.cell? ⟨w.heap.size + 1, 2, none⟩ = some (.slice a n c) := RI.out.bx.b1.cell rfl
      have CC14 := Hid.mk' (copy_any true l a n c t wr TI.out (by omega))
      go_wp2_with fail
      refine CC14.out.mono ?_
      rintro e v14 ⟨a14, c14, rfl, hO14, hb14⟩
      have RK14 := Hid.mk' (RI.out.keep hb14)
      have RN14 := Hid.mk' (RI.out.copied hb14 (2) (dl := l) (dt := t) HLD.out hO14)
      have TN14 := Hid.mk' ((TI.out.keep hb14).off_bk RK14.out.b (grown_putr v14 p (2) true l (.slice a14 n c14)))
      obtain ⟨y14, -, e0, e1, e2⟩ := RK14.out.cells (j := 2) (by omega)
      have fz := RK14.out.b.frozen
      clear hO14 hb14 s0 s1 s2 CC14 RI TI RK14
      unfold putr at RN14 TN14
      rw [show 3 * (2) = 6 from by omega] at e0 e1 e2 RN14 TN14
      change v14.cell? ⟨p, 7, none⟩ = _ at e1
      change v14.cell? ⟨p, 8, none⟩ = _ at e2
      change Hid (Ro _ _ _ _ _ _ _ _ _ _ (((v14.setCell ⟨p, 6, none⟩ (.bool true)).setCell ⟨p, 7, none⟩ (.bool l)).setCell ⟨p, 8, none⟩ (.slice a14 n c14))) at RN14
      change Hid (Tx (((v14.setCell ⟨p, 6, none⟩ (.bool true)).setCell ⟨p, 7, none⟩ (.bool l)).setCell ⟨p, 8, none⟩ (.slice a14 n c14)) _ _ _ _) at TN14
      obtain ⟨W14, hW14⟩ : ∃ W, (((v14.setCell ⟨p, 6, none⟩ (.bool true)).setCell ⟨p, 7, none⟩ (.bool l)).setCell ⟨p, 8, none⟩ (.slice a14 n c14)) = W := ⟨_, rfl⟩
      rw [hW14] at RN14 TN14
      have s0 : W14.cell? ⟨w.heap.size + 1, 0, none⟩ = some (.bool true) := RN14.out.bx.b1.cell rfl
      have s1 : W14.cell? ⟨w.heap.size + 1, 1, none⟩ = some (.bool l) := RN14.out.bx.b1.cell rfl
      have s2 : W14.cell? ⟨w.heap.size + 1, 2, none⟩ = some (.slice a n c) := RN14.out.bx.b1.cell rfl
      have CC15 := Hid.mk' (copy_any true l a n c t W14 TN14.out (by omega))
      go_wp2_with fail
      refine CC15.out.mono ?_
      rintro e v15 ⟨a15, c15, rfl, hO15, hb15⟩
      have RK15 := Hid.mk' (RN14.out.keep hb15)
      have RN15 := Hid.mk' (RN14.out.copied hb15 (0) (dl := l) (dt := t) HLD.out hO15)
      have TN15 := Hid.mk' ((TN14.out.keep hb15).off_bk RK15.out.b (grown_putr v15 p (0) true l (.slice a15 n c15)))
      obtain ⟨y15, -, e0, e1, e2⟩ := RK15.out.cells (j := 0) (by omega)
      have fz := RK15.out.b.frozen
      clear hO15 hb15 s0 s1 s2 CC15 RN14 TN14 RK15
      unfold putr at RN15 TN15
      rw [show 3 * (0) = 0 from by omega] at e0 e1 e2 RN15 TN15
      change v15.cell? ⟨p, 1, none⟩ = _ at e1
      change v15.cell? ⟨p, 2, none⟩ = _ at e2
      change Hid (Ro _ _ _ _ _ _ _ _ _ _ (((v15.setCell ⟨p, 0, none⟩ (.bool true)).setCell ⟨p, 1, none⟩ (.bool l)).setCell ⟨p, 2, none⟩ (.slice a15 n c15))) at RN15
      change Hid (Tx (((v15.setCell ⟨p, 0, none⟩ (.bool true)).setCell ⟨p, 1, none⟩ (.bool l)).setCell ⟨p, 2, none⟩ (.slice a15 n c15)) _ _ _ _) at TN15
      obtain ⟨W15, hW15⟩ : ∃ W, (((v15.setCell ⟨p, 0, none⟩ (.bool true)).setCell ⟨p, 1, none⟩ (.bool l)).setCell ⟨p, 2, none⟩ (.slice a15 n c15)) = W := ⟨_, rfl⟩
      rw [hW15] at RN15 TN15
      have hlN := RN15.out.len
      have BO := Hid.mk' RN15.out.b
      have BZ := Hid.mk' RN15.out.bx.b2
      have NW := Hid.mk' RN15.out.fin
      have BP := Hid.mk' (Blk.put28 hlN rfl BZ.out)
      have hlv := ld28 hlN BP.out
      go_wp2_with (first | (refine wl_load28 (.tmp 10) rfl rfl rfl hlN BO.out ?_) | (refine wl_store28 (.tmp 8) (.tmp 126) rfl rfl rfl rfl hlN rfl BZ.out ?_))
      generalize put28 W15 (w.heap.size + 1 + 1) _ = WP at *
      exact bodyPost_ret (v := .tuple #[.agg (bk _), .int .i64 0]) (by simp [results, Try.results15, asAddr, hlv]) rfl ⟨_, rfl, NW.out.of (by unfold putB keepL; rw [if_pos rfl, if_pos rfl, List.set_set])⟩
end Go.Proofs.Ytienamngmalkaaa
