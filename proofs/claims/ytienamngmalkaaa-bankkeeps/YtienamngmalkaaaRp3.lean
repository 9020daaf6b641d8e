/- quoinref15.Put, one way. -/
import Derived.Test.YtienamngmalkaaaRp0
namespace Go.Proofs.Ytienamngmalkaaa
open Go.RowKit

set_option maxRecDepth 8000
set_option maxHeartbeats 8000000 in
theorem rput_z (L : List Rg) (P : List Ct) (how : Int) (s l : Bool) (a : Option Addr) (n c : Nat) (t : List UInt8) (w : World) (HR : Hid (Rdb w L P)) (HT : Hid (Tx w a n c t)) (hh : decide (1 ≤ how ∧ how ≤ 3) = true) (hn : n ≤ 65536) (hle : (l && !enl t) = false) :
    Calls Try.prog 15 #[.agg (bk L), .int .u8 ((0 : Nat) : Int), .int .i64 how, .agg #[.bool s, .bool l, .slice a n c]] w fun e w' => ∃ N, e = .returned (.tuple #[.agg (bk N), .int .i64 0]) ∧ NewR w w' N (putB P (0) how ⟨true, l, t⟩) := by
  have hz := z28
  have hbz := b28
  generalize hW3 : ((w.alloc (.cells (bk L) 28)).alloc (.cells #[.bool s, .bool l, .slice a n c] 24)).alloc (.cells (bk zb) 28) = W3
  have BX : Hid (Bx w W3 L s l a n c) := by subst hW3; exact Bx.new w L s l a n c
  have CV := Hid.mk' (rvalid_any (0) W3 (by omega))
  have r0 : W3.cell? ⟨w.heap.size + 1, 0, none⟩ = some (.bool s) := BX.out.b1.cell rfl
  have r1 : W3.cell? ⟨w.heap.size + 1, 1, none⟩ = some (.bool l) := BX.out.b1.cell rfl
  have r2 : W3.cell? ⟨w.heap.size + 1, 2, none⟩ = some (.slice a n c) := BX.out.b1.cell rfl
  rw [show (rix (0)).isSome = true from by rfl] at CV
  have h9 : 1 ≤ how ∧ how ≤ 3 := by simpa using hh
  have h3 : decide (how < 1) = false := by simp; omega
  have h4 : decide (3 < how) = false := by simp; omega
  have HH := Hid.mk' h9
  have hn' : decide ((65536 : Int) < (n : Int)) = false := by simp; omega
  have HN := Hid.mk' hn
  have HLE := Hid.mk' hle
  have hL := HR.out.1
  have hP := HR.out.2.1
  have HLD : Hid (n = t.length) := HT.out.len.symm
  clear hh hn h9 hle
  go_enter Try.func15, Try.ntmps15
  go_wp2_with fail
  clear hW3
  refine CV.out.mono ?_
  rintro e w3 ⟨rfl, hw⟩
  have hq := hw.symm
  subst hq
  clear hw CV
  go_upto_region 7 with fail
  go_cut [46] from 12 to 46 (fun x46 wx => x46 = .bool false ∧ wx = W3)
  case first =>
    cases hl : l with
    | false =>
      subst hl
      go_wp2_with fail
      go_meet
      exact ⟨rfl, rfl⟩
    | true =>
      subst hl
      have he : enl t = true := by have := HLE.out; simpa using this
      have hlen := HT.out.len
      have h0 : 0 < n := by
        rcases Nat.eq_zero_or_pos n with h | h
        · have e9 : t = [] := List.eq_nil_of_length_eq_zero (by omega)
          rw [e9] at he; cases he
        · exact h
      have HT3 := HT.out.keep BX.out.bel
      obtain ⟨g, o, rfl, hc⟩ := HT3.at h0
      have hce := hc (n - 1) (by omega)
      have hlast : at8 t (n - 1) = 10 := by
        have := enl_at (t := t) (by omega)
        rw [he, hlen] at this; simpa using this.symm
      obtain ⟨k1, hk1⟩ : ∃ k, k = n - 1 := ⟨_, rfl⟩
      rw [hlast, ← hk1] at hce
      change W3.cell? ⟨g, o + k1, none⟩ = some (.int .u8 10) at hce
      have i0 : ((n : Int) == 0) = false := by simp; omega
      have i1 : IntKind.i64.wrap ((n : Int) - 1) = (k1 : Int) := by have := HN.out; rw [IntKind.wrap_i64]; omega
      have i2 : (k1 : Int) < (n : Int) := by omega
      have i3 : (0 : Int) ≤ (k1 : Int) := by omega
      clear hk1 hlast hc h0 hlen HT3 he
      go_wp2_with fail
      go_meet
      exact ⟨rfl, rfl⟩
  case rest =>
  obtain ⟨rfl, rfl⟩ := hcut
  clear r0 r1 r2
  have r0 : wc.cell? ⟨w.heap.size + 1, 0, none⟩ = some (.bool s) := BX.out.b1.cell rfl
  have g0 := BX.out.b1.frozen 0
  have BV := Hid.mk' BX.out.set1
  obtain ⟨W4, hW4⟩ : ∃ W, wc.setCell ⟨w.heap.size + 1, 0, none⟩ (.bool true) = W := ⟨_, rfl⟩
  rw [hW4] at BV
  have CAW := Hid.mk' (all_any L P W4 (HR.out.keep BV.out.bel))
  have B0 := Hid.mk' BV.out.b0
  have hsz4 : w.heap.size + 1 + 1 + 1 ≤ W4.heap.size := by have := BV.out.b2.lt; omega
  go_wp2_with (refine wl_load28 (.tmp 4) rfl rfl rfl hL B0.out ?_)
  clear hW4 r0 g0
  refine CAW.out.mono ?_
  rintro e w5 ⟨N0, rfl, hN0⟩
  have hl0 := hN0.len
  have hBz := Hid.mk' (Blk.new w5 28 (bk zb))
  obtain ⟨hbx, hbb⟩ := boxed (w := w5) hl0
  have hbb' := hbb
  obtain ⟨p, hp⟩ : ∃ p, w5.heap.size = p := ⟨_, rfl⟩
  have hbs : Below w5.heap.size w5 (put28 (w5.alloc (.cells (bk zb) 28)) p N0) := by rw [← hp]; exact hbb
  rw [hp] at hBz hbx
  clear hbb hbb'
  have hbb := hbs
  clear hbs
  have RO : Hid (Ro w L true l a n c p N0 P (put28 (w5.alloc (.cells (bk zb) 28)) p N0)) :=
    ⟨(BV.out.keep hN0.own.bel).keep hbb, hbx, hl0, hN0.fl, fun k r d h1 h2 => own_keep (own_lower (hN0.own.own k _ (rows_at h1 h2)) hsz4) hbb, by have := hN0.own.bel.size; omega⟩
  clear hbx hbb hN0 CAW B0 BV hsz4 BX
  go_upto_region 15 with (refine wl_store28 (.tmp 10) (.tmp 50) rfl rfl rfl rfl hl0 rfl hBz.out ?_)
  generalize put28 (w5.alloc (.cells (bk zb) 28)) p N0 = w6 at *
  clear hp hBz
  have TD : Hid (Tx w6 a n c t) := HT.out.keep RO.out.bx.bel
  have hn := HN.out
  have hh9 := HH.out
  by_cases c1 : how = 1
  · subst c1
    have s0 : w6.cell? ⟨w.heap.size + 1, 0, none⟩ = some (.bool true) := RO.out.bx.b1.cell rfl
    have s1 : w6.cell? ⟨w.heap.size + 1, 1, none⟩ = some (.bool l) := RO.out.bx.b1.cell rfl
    have s2 : w6.cell? ⟨w.heap.size + 1, 2, none⟩ = some (.slice a n c) := RO.out.bx.b1.cell rfl
    have CC1 := Hid.mk' (copy_any true l a n c t w6 TD.out (by omega))
    go_wp2_with fail
    refine CC1.out.mono ?_
    rintro e v1 ⟨a1, c1, rfl, hO1, hb1⟩
    have RK1 := Hid.mk' (RO.out.keep hb1)
    have RN1 := Hid.mk' (RO.out.copied hb1 (0) (dl := l) (dt := t) HLD.out hO1)
    have TN1 := Hid.mk' ((TD.out.keep hb1).off_bk RK1.out.b (grown_putr v1 p (0) true l (.slice a1 n c1)))
    obtain ⟨y1, -, e0, e1, e2⟩ := RK1.out.cells (j := 0) (by omega)
    have fz := RK1.out.b.frozen
    clear hO1 hb1 s0 s1 s2 CC1 RO TD RK1
    unfold putr at RN1 TN1
    rw [show 3 * (0) = 0 from by omega] at e0 e1 e2 RN1 TN1
    change v1.cell? ⟨p, 1, none⟩ = _ at e1
    change v1.cell? ⟨p, 2, none⟩ = _ at e2
    change Hid (Ro _ _ _ _ _ _ _ _ _ _ (((v1.setCell ⟨p, 0, none⟩ (.bool true)).setCell ⟨p, 1, none⟩ (.bool l)).setCell ⟨p, 2, none⟩ (.slice a1 n c1))) at RN1
    change Hid (Tx (((v1.setCell ⟨p, 0, none⟩ (.bool true)).setCell ⟨p, 1, none⟩ (.bool l)).setCell ⟨p, 2, none⟩ (.slice a1 n c1)) _ _ _ _) at TN1
    obtain ⟨W1, hW1⟩ : ∃ W, (((v1.setCell ⟨p, 0, none⟩ (.bool true)).setCell ⟨p, 1, none⟩ (.bool l)).setCell ⟨p, 2, none⟩ (.slice a1 n c1)) = W := ⟨_, rfl⟩
    rw [hW1] at RN1 TN1
    have hlN := RN1.out.len
    have BO := Hid.mk' RN1.out.b
    have BZ := Hid.mk' RN1.out.bx.b2
    have NW := Hid.mk' RN1.out.fin
    have BP := Hid.mk' (Blk.put28 hlN rfl BZ.out)
    have hlv := ld28 hlN BP.out
    go_wp2_with (first | (refine wl_load28 (.tmp 10) rfl rfl rfl hlN BO.out ?_) | (refine wl_store28 (.tmp 8) (.tmp 126) rfl rfl rfl rfl hlN rfl BZ.out ?_))
    generalize put28 W1 (w.heap.size + 1 + 1) _ = WP at *
    exact bodyPost_ret (v := .tuple #[.agg (bk _), .int .i64 0]) (by simp [results, Try.results15, asAddr, hlv]) rfl ⟨_, rfl, NW.out.of (by unfold putB keepL; rw [if_pos rfl, if_neg (by decide), if_neg (by decide), List.set_set])⟩
  by_cases c3 : how = 3
  · subst c3
    have s0 : w6.cell? ⟨w.heap.size + 1, 0, none⟩ = some (.bool true) := RO.out.bx.b1.cell rfl
    have s1 : w6.cell? ⟨w.heap.size + 1, 1, none⟩ = some (.bool l) := RO.out.bx.b1.cell rfl
    have s2 : w6.cell? ⟨w.heap.size + 1, 2, none⟩ = some (.slice a n c) := RO.out.bx.b1.cell rfl
    have CC3 := Hid.mk' (copy_any true l a n c t w6 TD.out (by omega))
    go_wp2_with fail
    refine CC3.out.mono ?_
    rintro e v3 ⟨a3, c3, rfl, hO3, hb3⟩
    have RK3 := Hid.mk' (RO.out.keep hb3)
    have RN3 := Hid.mk' (RO.out.copied hb3 (1) (dl := l) (dt := t) HLD.out hO3)
    have TN3 := Hid.mk' ((TD.out.keep hb3).off_bk RK3.out.b (grown_putr v3 p (1) true l (.slice a3 n c3)))
    obtain ⟨y3, -, e0, e1, e2⟩ := RK3.out.cells (j := 1) (by omega)
    have fz := RK3.out.b.frozen
    clear hO3 hb3 s0 s1 s2 CC3 RO TD RK3
    unfold putr at RN3 TN3
    rw [show 3 * (1) = 3 from by omega] at e0 e1 e2 RN3 TN3
    change v3.cell? ⟨p, 4, none⟩ = _ at e1
    change v3.cell? ⟨p, 5, none⟩ = _ at e2
    change Hid (Ro _ _ _ _ _ _ _ _ _ _ (((v3.setCell ⟨p, 3, none⟩ (.bool true)).setCell ⟨p, 4, none⟩ (.bool l)).setCell ⟨p, 5, none⟩ (.slice a3 n c3))) at RN3
    change Hid (Tx (((v3.setCell ⟨p, 3, none⟩ (.bool true)).setCell ⟨p, 4, none⟩ (.bool l)).setCell ⟨p, 5, none⟩ (.slice a3 n c3)) _ _ _ _) at TN3
    obtain ⟨W3, hW3⟩ : ∃ W, (((v3.setCell ⟨p, 3, none⟩ (.bool true)).setCell ⟨p, 4, none⟩ (.bool l)).setCell ⟨p, 5, none⟩ (.slice a3 n c3)) = W := ⟨_, rfl⟩
    rw [hW3] at RN3 TN3
    have s0 : W3.cell? ⟨w.heap.size + 1, 0, none⟩ = some (.bool true) := RN3.out.bx.b1.cell rfl
    have s1 : W3.cell? ⟨w.heap.size + 1, 1, none⟩ = some (.bool l) := RN3.out.bx.b1.cell rfl
    have s2 : W3.cell? ⟨w.heap.size + 1, 2, none⟩ = some (.slice a n c) := RN3.out.bx.b1.cell rfl
    have CC4 := Hid.mk' (copy_any true l a n c t W3 TN3.out (by omega))
    go_wp2_with fail
    refine CC4.out.mono ?_
    rintro e v4 ⟨a4, c4, rfl, hO4, hb4⟩
    have RK4 := Hid.mk' (RN3.out.keep hb4)
    have RN4 := Hid.mk' (RN3.out.copied hb4 (0) (dl := l) (dt := t) HLD.out hO4)
    have TN4 := Hid.mk' ((TN3.out.keep hb4).off_bk RK4.out.b (grown_putr v4 p (0) true l (.slice a4 n c4)))
    obtain ⟨y4, -, e0, e1, e2⟩ := RK4.out.cells (j := 0) (by omega)
    have fz := RK4.out.b.frozen
    clear hO4 hb4 s0 s1 s2 CC4 RN3 TN3 RK4
    unfold putr at RN4 TN4
    rw [show 3 * (0) = 0 from by omega] at e0 e1 e2 RN4 TN4
    change v4.cell? ⟨p, 1, none⟩ = _ at e1
    change v4.cell? ⟨p, 2, none⟩ = _ at e2
    change Hid (Ro _ _ _ _ _ _ _ _ _ _ (((v4.setCell ⟨p, 0, none⟩ (.bool true)).setCell ⟨p, 1, none⟩ (.bool l)).setCell ⟨p, 2, none⟩ (.slice a4 n c4))) at RN4
    change Hid (Tx (((v4.setCell ⟨p, 0, none⟩ (.bool true)).setCell ⟨p, 1, none⟩ (.bool l)).setCell ⟨p, 2, none⟩ (.slice a4 n c4)) _ _ _ _) at TN4
    obtain ⟨W4, hW4⟩ : ∃ W, (((v4.setCell ⟨p, 0, none⟩ (.bool true)).setCell ⟨p, 1, none⟩ (.bool l)).setCell ⟨p, 2, none⟩ (.slice a4 n c4)) = W := ⟨_, rfl⟩
    rw [hW4] at RN4 TN4
    have hlN := RN4.out.len
    have BO := Hid.mk' RN4.out.b
    have BZ := Hid.mk' RN4.out.bx.b2
    have NW := Hid.mk' RN4.out.fin
    have BP := Hid.mk' (Blk.put28 hlN rfl BZ.out)
    have hlv := ld28 hlN BP.out
    go_wp2_with (first | (refine wl_load28 (.tmp 10) rfl rfl rfl hlN BO.out ?_) | (refine wl_store28 (.tmp 8) (.tmp 126) rfl rfl rfl rfl hlN rfl BZ.out ?_))
    generalize put28 W4 (w.heap.size + 1 + 1) _ = WP at *
    exact bodyPost_ret (v := .tuple #[.agg (bk _), .int .i64 0]) (by simp [results, Try.results15, asAddr, hlv]) rfl ⟨_, rfl, NW.out.of (by unfold putB keepL; rw [if_pos rfl, if_neg (by decide), if_pos rfl, List.set_set])⟩
  obtain rfl : how = 2 := by omega
  go_wp2_with fail
  go_loopg [11] 8 (fun m x11 wx => x11 = .int .i64 (m : Int) ∧ m ≤ 8 ∧ ∃ M P', Hid (Ro w L true l a n c p M P' wx) ∧ Hid (Tx wx a n c t) ∧ Hid (P'.length = 37 ∧ ∀ k, P'[k]? = P[if 2 + m < k ∧ k ≤ 10 then k - 1 else k]?))
  case atStart => exact ⟨rfl, by omega, _, _, RO.out, TD.out, hP, fun k => by rw [if_neg (by omega)]⟩
  case round =>
    obtain ⟨rfl, hi8, M, P', RI, TI, HP'⟩ := hrel
    clear RO TD
    by_cases hi : 0 < gk
    · have hi' : (0 : Int) < (gk : Int) := by omega
      have iw : IntKind.i64.wrap ((gk : Int) - 1) = ((gk - 1 : Nat) : Int) := by rw [IntKind.wrap_i64]; omega
      obtain ⟨i1, hi1⟩ : ∃ k, k = gk - 1 := ⟨_, rfl⟩
      rw [← hi1] at iw
      have HI1 := Hid.mk' hi1
      have b1 : (i1 : Int) < 9 := by omega
      have b2 : (0 : Int) ≤ (i1 : Int) := by omega
      have b3 : (gk : Int) < 9 := by omega
      have b4 : (0 : Int) ≤ (gk : Int) := by omega
      obtain ⟨y, hy, s0, s1, s2⟩ := RI.out.cells (j := 2 + i1) (by omega)
      obtain ⟨z, -, e0, e1, e2⟩ := RI.out.cells (j := 2 + gk) (by omega)
      rw [show 3 * (2 + i1) = 6 + i1 * 3 by omega] at s0 s1 s2
      have fz := RI.out.b.frozen
      obtain ⟨d, hd⟩ : ∃ d, P'[2 + i1]? = some d := ⟨_, List.getElem?_eq_getElem (by rw [HP'.out.1]; omega)⟩
      obtain ⟨q1, q2, q3⟩ := RI.out.fl.2 _ _ _ hy hd
      have RJ := Hid.mk' (RI.out.put (2 + gk) q1 q2 q3 (RI.out.own _ _ _ hy hd))
      have TJ := Hid.mk' (TI.out.off_bk RI.out.b (grown_putr wr p (2 + gk) y.s y.l (.slice y.a y.n y.c)))
      have HP2 : Hid ((P'.set (2 + gk) d).length = 37 ∧ ∀ k, (P'.set (2 + gk) d)[k]? = P[if 2 + i1 < k ∧ k ≤ 10 then k - 1 else k]?) := by
        refine ⟨by rw [List.length_set]; exact HP'.out.1, fun k => ?_⟩
        rw [List.getElem?_set]
        by_cases e : 2 + gk = k
        · rw [if_pos e, if_pos (by rw [HP'.out.1]; omega), if_pos (by omega), ← hd, HP'.out.2, if_neg (by omega)]
          congr 1; omega
        · rw [if_neg e, HP'.out.2]
          congr 1
          by_cases e2 : 2 + gk < k ∧ k ≤ 10
          · rw [if_pos e2, if_pos (by omega)]
          · rw [if_neg e2, if_neg (by omega)]
      unfold putr at RJ TJ
      rw [show 3 * (2 + gk) = 6 + gk * 3 by omega] at e0 e1 e2 RJ TJ
      obtain ⟨ys, yl, ya, yn, yc⟩ := y
      dsimp only at s0 s1 s2 RJ TJ
      clear RI TI hy hd q1 q2 q3 hi1
      go_wp2
      go_roundg i1
      case rel => exact ⟨rfl, by have := HI1.out; omega, _, _, RJ.out, TJ.out, HP2.out⟩
      case measure => have := HI1.out; omega
    · have hi' : ¬ (0 : Int) < (gk : Int) := by omega
      obtain rfl : gk = 0 := by omega
      have ePP : P' = pushL P := by
        apply List.ext_getElem?
        intro k
        rw [HP'.out.2, pushL_at hP]
        congr 1
        unfold psh
        by_cases e2 : 2 + 0 < k ∧ k ≤ 10
        · rw [if_pos e2, if_neg (by omega), if_pos (by omega)]
        · rw [if_neg e2]
          split
          · rfl
          · rw [if_neg (by omega)]
      subst ePP
      have s0 : wr.cell? ⟨w.heap.size + 1, 0, none⟩ = some (.bool true) := RI.out.bx.b1.cell rfl
      have s1 : wr.cell? ⟨w.heap.size + 1, 1, none⟩ = some (.bool l) := RI.out.bx.b1.cell rfl
      have s2 : wr.cell? ⟨w.heap.size + 1, 2, none⟩ = some (.slice a n c) := RI.out.bx.b1.cell rfl
      have CC6 := Hid.mk' (copy_any true l a n c t wr TI.out (by omega))
      go_wp2_with fail
      refine CC6.out.mono ?_
      rintro e v6 ⟨a6, c6, rfl, hO6, hb6⟩
      have RK6 := Hid.mk' (RI.out.keep hb6)
      have RN6 := Hid.mk' (RI.out.copied hb6 (2) (dl := l) (dt := t) HLD.out hO6)
      have TN6 := Hid.mk' ((TI.out.keep hb6).off_bk RK6.out.b (grown_putr v6 p (2) true l (.slice a6 n c6)))
      obtain ⟨y6, -, e0, e1, e2⟩ := RK6.out.cells (j := 2) (by omega)
      have fz := RK6.out.b.frozen
      clear hO6 hb6 s0 s1 s2 CC6 RI TI RK6
      unfold putr at RN6 TN6
      rw [show 3 * (2) = 6 from by omega] at e0 e1 e2 RN6 TN6
      change v6.cell? ⟨p, 7, none⟩ = _ at e1
      change v6.cell? ⟨p, 8, none⟩ = _ at e2
      change Hid (Ro _ _ _ _ _ _ _ _ _ _ (((v6.setCell ⟨p, 6, none⟩ (.bool true)).setCell ⟨p, 7, none⟩ (.bool l)).setCell ⟨p, 8, none⟩ (.slice a6 n c6))) at RN6
      change Hid (Tx (((v6.setCell ⟨p, 6, none⟩ (.bool true)).setCell ⟨p, 7, none⟩ (.bool l)).setCell ⟨p, 8, none⟩ (.slice a6 n c6)) _ _ _ _) at TN6
      obtain ⟨W6, hW6⟩ : ∃ W, (((v6.setCell ⟨p, 6, none⟩ (.bool true)).setCell ⟨p, 7, none⟩ (.bool l)).setCell ⟨p, 8, none⟩ (.slice a6 n c6)) = W := ⟨_, rfl⟩
      rw [hW6] at RN6 TN6
      have s0 : W6.cell? ⟨w.heap.size + 1, 0, none⟩ = some (.bool true) := RN6.out.bx.b1.cell rfl
      have s1 : W6.cell? ⟨w.heap.size + 1, 1, none⟩ = some (.bool l) := RN6.out.bx.b1.cell rfl
      have s2 : W6.cell? ⟨w.heap.size + 1, 2, none⟩ = some (.slice a n c) := RN6.out.bx.b1.cell rfl
      have CC7 := Hid.mk' (copy_any true l a n c t W6 TN6.out (by omega))
      go_wp2_with fail
      refine CC7.out.mono ?_
      rintro e v7 ⟨a7, c7, rfl, hO7, hb7⟩
      have RK7 := Hid.mk' (RN6.out.keep hb7)
      have RN7 := Hid.mk' (RN6.out.copied hb7 (0) (dl := l) (dt := t) HLD.out hO7)
      have TN7 := Hid.mk' ((TN6.out.keep hb7).off_bk RK7.out.b (grown_putr v7 p (0) true l (.slice a7 n c7)))
      obtain ⟨y7, -, e0, e1, e2⟩ := RK7.out.cells (j := 0) (by omega)
      have fz := RK7.out.b.frozen
      clear hO7 hb7 s0 s1 s2 CC7 RN6 TN6 RK7
      unfold putr at RN7 TN7
      rw [show 3 * (0) = 0 from by omega] at e0 e1 e2 RN7 TN7
      change v7.cell? ⟨p, 1, none⟩ = _ at e1
      change v7.cell? ⟨p, 2, none⟩ = _ at e2
      change Hid (Ro _ _ _ _ _ _ _ _ _ _ (((v7.setCell ⟨p, 0, none⟩ (.bool true)).setCell ⟨p, 1, none⟩ (.bool l)).setCell ⟨p, 2, none⟩ (.slice a7 n c7))) at RN7
      change Hid (Tx (((v7.setCell ⟨p, 0, none⟩ (.bool true)).setCell ⟨p, 1, none⟩ (.bool l)).setCell ⟨p, 2, none⟩ (.slice a7 n c7)) _ _ _ _) at TN7
      obtain ⟨W7, hW7⟩ : ∃ W, (((v7.setCell ⟨p, 0, none⟩ (.bool true)).setCell ⟨p, 1, none⟩ (.bool l)).setCell ⟨p, 2, none⟩ (.slice a7 n c7)) = W := ⟨_, rfl⟩
      rw [hW7] at RN7 TN7
      have hlN := RN7.out.len
      have BO := Hid.mk' RN7.out.b
      have BZ := Hid.mk' RN7.out.bx.b2
      have NW := Hid.mk' RN7.out.fin
      have BP := Hid.mk' (Blk.put28 hlN rfl BZ.out)
      have hlv := ld28 hlN BP.out
      go_wp2_with (first | (refine wl_load28 (.tmp 10) rfl rfl rfl hlN BO.out ?_) | (refine wl_store28 (.tmp 8) (.tmp 126) rfl rfl rfl rfl hlN rfl BZ.out ?_))
      generalize put28 W7 (w.heap.size + 1 + 1) _ = WP at *
      exact bodyPost_ret (v := .tuple #[.agg (bk _), .int .i64 0]) (by simp [results, Try.results15, asAddr, hlv]) rfl ⟨_, rfl, NW.out.of (by unfold putB keepL; rw [if_pos rfl, if_pos rfl, List.set_set])⟩
end Go.Proofs.Ytienamngmalkaaa
