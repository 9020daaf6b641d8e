/- quoinref15.Put, where the content is put behind what is there. -/
import Derived.Test.YtienamngmalkaaaRp0
namespace Go.Proofs.Ytienamngmalkaaa
open Go.RowKit

set_option maxRecDepth 8000
theorem Bx.setr' {w W : World} {L : List Rg} {s l : Bool} {a : Option Addr} {n c : Nat} (h : Bx w W L s l a n c) (s' l' : Bool) (a' : Option Addr) (n' c' : Nat) :
    Bx w (((W.setCell ⟨w.heap.size + 1, 0, none⟩ (.bool s')).setCell ⟨w.heap.size + 1, 1, none⟩ (.bool l')).setCell ⟨w.heap.size + 1, 2, none⟩ (.slice a' n' c')) L s' l' a' n' c' := h.setr s' l' a' n' c'
/-- the content to be put is stored -/
theorem Ro.setr {w : World} {L : List Rg} {s l : Bool} {a : Option Addr} {n c p : Nat} {M : List Rg} {P : List Ct} {W : World} (h : Ro w L s l a n c p M P W) (s' l' : Bool) (a' : Option Addr) (n' c' : Nat) :
    Ro w L s' l' a' n' c' p M P (((W.setCell ⟨w.heap.size + 1, 0, none⟩ (.bool s')).setCell ⟨w.heap.size + 1, 1, none⟩ (.bool l')).setCell ⟨w.heap.size + 1, 2, none⟩ (.slice a' n' c')) :=
  ⟨h.bx.setr s' l' a' n' c', ((h.b.off (by have := h.pq; omega) _).off (by have := h.pq; omega) _).off (by have := h.pq; omega) _, h.len, h.fl, fun k r d h1 h2 => own_set (own_set (own_set (h.own k r d h1 h2) (by omega)) (by omega)) (by omega), h.pq⟩
set_option maxHeartbeats 8000000 in
theorem rput_g (L : List Rg) (P : List Ct) (j : Nat) (hj : j < 26) (how : Int) (s l : Bool) (a : Option Addr) (n c : Nat) (t : List UInt8) (w : World) (HR : Hid (Rdb w L P)) (HT : Hid (Tx w a n c t)) (hh : decide (1 ≤ how ∧ how ≤ 3) = true) (hn : n ≤ 65536) (hle : (l && !enl t) = false) (PP : List Ct) (EE : Int) (HQ : Hid (putQ P (11 + j) how (putD P (65 + j) (11 + j) ⟨s, l, t⟩) = (PP, EE))) :
    Calls Try.prog 15 #[.agg (bk L), .int .u8 ((65 + j : Nat) : Int), .int .i64 how, .agg #[.bool s, .bool l, .slice a n c]] w fun e w' => ∃ N, e = .returned (.tuple #[.agg (bk N), .int .i64 EE]) ∧ NewR w w' N PP := by
  have hz := z28
  have hbz := b28
  generalize hW3 : ((w.alloc (.cells (bk L) 28)).alloc (.cells #[.bool s, .bool l, .slice a n c] 24)).alloc (.cells (bk zb) 28) = W3
  have BX : Hid (Bx w W3 L s l a n c) := by subst hW3; exact Bx.new w L s l a n c
  have CV := Hid.mk' (rvalid_any (65 + j) W3 (by omega))
  have r0 : W3.cell? ⟨w.heap.size + 1, 0, none⟩ = some (.bool s) := BX.out.b1.cell rfl
  have r1 : W3.cell? ⟨w.heap.size + 1, 1, none⟩ = some (.bool l) := BX.out.b1.cell rfl
  have r2 : W3.cell? ⟨w.heap.size + 1, 2, none⟩ = some (.slice a n c) := BX.out.b1.cell rfl
  rw [show (rix (65 + j)).isSome = true from by unfold rix; rw [if_neg (by omega), if_neg (by omega), if_neg (by omega), if_neg (by omega), if_pos (by omega)]; rfl] at CV
  have h9 : 1 ≤ how ∧ how ≤ 3 := by simpa using hh
  have h3 : decide (how < 1) = false := by simp; omega
  have h4 : decide (3 < how) = false := by simp; omega
  have HH := Hid.mk' h9
  have hn' : decide ((65536 : Int) < (n : Int)) = false := by simp; omega
  have HN := Hid.mk' hn
  have HLE := Hid.mk' hle
  have hL := HR.out.1
  have hP := HR.out.2.1
  have HLD : Hid (n = t.length) := HT.out.len.symm
  clear hh hn h9 hle
  have CLT := Hid.mk' (fun W => letter_any (65 + j) W (by omega))
  rw [show ltr (65 + j) = (j : Int) from by unfold ltr; rw [if_neg (by omega), if_pos (by omega)]; omega] at CLT
  obtain ⟨o, hr⟩ : ∃ r, L[11 + j]? = some r := ⟨_, List.getElem?_eq_getElem (by omega)⟩
  obtain ⟨ct, hc⟩ : ∃ c, P[11 + j]? = some c := ⟨_, List.getElem?_eq_getElem (by omega)⟩
  have hPk : P.getD (11 + j) zc = ct := by rw [List.getD_eq_getElem?_getD, hc]; rfl
  have DO := Hid.mk' (HR.out.2.2 _ _ _ hr hc)
  obtain ⟨os, ol, oa, on, oc⟩ := o
  obtain ⟨cs, cl, ot⟩ := ct
  have eo1 : os = cs := DO.out.s
  have eo2 : ol = cl := DO.out.l
  subst eo1 eo2
  have hDD : putD P (65 + j) (11 + j) ⟨s, l, t⟩ = ⟨true, (if os then ol || l else l), (if os then bht ol l ot t else t)⟩ := by
    unfold putD
    rw [hPk, show grt (65 + j) = true from by unfold grt; simp; omega]
    cases os <;> rfl
  rw [hDD] at HQ
  have HRO := Hid.mk' hr
  clear hr hc hPk hDD
  go_enter Try.func15, Try.ntmps15
  go_wp2_with fail
  clear hW3
  refine CV.out.mono ?_
  rintro e w3 ⟨rfl, hw⟩
  have hq := hw.symm
  subst hq
  clear hw CV
  go_upto_region 7 with fail
  go_cut [46] from 12 to 46 (fun x46 wx => x46 = .bool false ∧ wx = W3)
  case first =>
    cases hl : l with
    | false =>
      subst hl
      go_wp2_with fail
      go_meet
      exact ⟨rfl, rfl⟩
    | true =>
      subst hl
      have he : enl t = true := by have := HLE.out; simpa using this
      have hlen := HT.out.len
      have h0 : 0 < n := by
        rcases Nat.eq_zero_or_pos n with h | h
        · have e9 : t = [] := List.eq_nil_of_length_eq_zero (by omega)
          rw [e9] at he; cases he
        · exact h
      have HT3 := HT.out.keep BX.out.bel
      obtain ⟨g, o, rfl, hc⟩ := HT3.at h0
      have hce := hc (n - 1) (by omega)
      have hlast : at8 t (n - 1) = 10 := by
        have := enl_at (t := t) (by omega)
        rw [he, hlen] at this; simpa using this.symm
      obtain ⟨k1, hk1⟩ : ∃ k, k = n - 1 := ⟨_, rfl⟩
      rw [hlast, ← hk1] at hce
      change W3.cell? ⟨g, o + k1, none⟩ = some (.int .u8 10) at hce
      have i0 : ((n : Int) == 0) = false := by simp; omega
      have i1 : IntKind.i64.wrap ((n : Int) - 1) = (k1 : Int) := by have := HN.out; rw [IntKind.wrap_i64]; omega
      have i2 : (k1 : Int) < (n : Int) := by omega
      have i3 : (0 : Int) ≤ (k1 : Int) := by omega
      clear hk1 hlast hc h0 hlen HT3 he
      go_wp2_with fail
      go_meet
      exact ⟨rfl, rfl⟩
  case rest =>
  obtain ⟨rfl, rfl⟩ := hcut
  clear r0 r1 r2
  have r0 : wc.cell? ⟨w.heap.size + 1, 0, none⟩ = some (.bool s) := BX.out.b1.cell rfl
  have g0 := BX.out.b1.frozen 0
  have BV := Hid.mk' BX.out.set1
  obtain ⟨W4, hW4⟩ : ∃ W, wc.setCell ⟨w.heap.size + 1, 0, none⟩ (.bool true) = W := ⟨_, rfl⟩
  rw [hW4] at BV
  have CAW := Hid.mk' (all_any L P W4 (HR.out.keep BV.out.bel))
  have B0 := Hid.mk' BV.out.b0
  have hsz4 : w.heap.size + 1 + 1 + 1 ≤ W4.heap.size := by have := BV.out.b2.lt; omega
  go_wp2_with (refine wl_load28 (.tmp 4) rfl rfl rfl hL B0.out ?_)
  clear hW4 r0 g0
  refine CAW.out.mono ?_
  rintro e w5 ⟨N0, rfl, hN0⟩
  have hl0 := hN0.len
  have hBz := Hid.mk' (Blk.new w5 28 (bk zb))
  obtain ⟨hbx, hbb⟩ := boxed (w := w5) hl0
  have hbb' := hbb
  obtain ⟨p, hp⟩ : ∃ p, w5.heap.size = p := ⟨_, rfl⟩
  have hbs : Below w5.heap.size w5 (put28 (w5.alloc (.cells (bk zb) 28)) p N0) := by rw [← hp]; exact hbb
  rw [hp] at hBz hbx
  clear hbb hbb'
  have hbb := hbs
  clear hbs
  have RO : Hid (Ro w L true l a n c p N0 P (put28 (w5.alloc (.cells (bk zb) 28)) p N0)) :=
    ⟨(BV.out.keep hN0.own.bel).keep hbb, hbx, hl0, hN0.fl, fun k r d h1 h2 => own_keep (own_lower (hN0.own.own k _ (rows_at h1 h2)) hsz4) hbb, by have := hN0.own.bel.size; omega⟩
  clear hbx hbb hN0 CAW B0 BV hsz4 BX
  go_upto_region 15 with (refine wl_store28 (.tmp 10) (.tmp 50) rfl rfl rfl rfl hl0 rfl hBz.out ?_)
  generalize put28 (w5.alloc (.cells (bk zb) 28)) p N0 = w6 at *
  clear hp hBz
  have TD : Hid (Tx w6 a n c t) := HT.out.keep RO.out.bx.bel
  have hn := HN.out
  have j1 : ((65 + j : Nat) : Int) = 65 + (j : Int) := by omega
  have j0 : (0 : Int) ≤ (j : Int) := by omega
  have j2 : (j : Int) < 26 := by omega
  have u1 : ((65 + (j : Int)) == 0) = false := by simp; omega
  have u2 : ((65 + (j : Int)) == 34) = false := by simp; omega
  have u3 : ((65 + (j : Int)) == 45) = false := by simp; omega
  have j5 : ¬ (65 + (j : Int)) ≤ 57 := by omega
  have j6 : ¬ 97 ≤ (65 + (j : Int)) := by omega
  rw [j1] at CLT
  obtain ⟨o0, o1, o2⟩ := RO.out.bx.b0.rg HRO.out
  rw [show 3 * (11 + j) = 33 + j * 3 by omega] at o0 o1 o2
  dsimp only at o0 o1 o2
  have RD := Hid.mk' (RO.out.keep (Below.refl _ w6).drew)
  have s0 : w6.cell? ⟨w.heap.size + 1, 0, none⟩ = some (.bool true) := RO.out.bx.b1.cell rfl
  have s1 : w6.cell? ⟨w.heap.size + 1, 1, none⟩ = some (.bool l) := RO.out.bx.b1.cell rfl
  have s2 : w6.cell? ⟨w.heap.size + 1, 2, none⟩ = some (.slice a n c) := RO.out.bx.b1.cell rfl
  have hon : on ≤ 140737488351232 := DO.out.n
  have CB := Hid.mk' (rbehind_any os ol true l oa a on oc n c ot t w6.drew (DO.out.t.keep RD.out.bx.bel) (TD.out.keep (Below.refl _ w6).drew) hon hn)
  generalize hx1 : (if os then ol || l else l) = dl at CB HQ
  generalize hx2 : (if os then bht ol l ot t else t) = dt at CB HQ
  clear hx1 hx2
  go_upto_region 11 with fail
  go_cut [57] from 51 to 57 (fun x57 wx => ∃ a' n' c', Hid (Ro w L true dl a' n' c' p N0 P wx) ∧ Hid (Tx wx a' n' c' dt))
  case first =>
    go_region_law (first
      | ((try go_simp); go_at_call 24; refine (CLT.out _).mono ?_; rintro e w9 ⟨rfl, hw⟩; (have hq := hw.symm); subst hq; clear hw)
      | ((try go_simp); go_at_call 27; refine CB.out.mono ?_; rintro e w8 ⟨a8, n8, c8, rfl, hT8, hb8⟩; (have RK := Hid.mk' (RD.out.keep hb8)); (have T8 := Hid.mk' hT8); clear hT8 hb8 s0 s1 s2 o0 o1 o2; (have s0 : w8.cell? ⟨w.heap.size + 1, 0, none⟩ = some (.bool true) := RK.out.bx.b1.cell rfl); (have s1 : w8.cell? ⟨w.heap.size + 1, 1, none⟩ = some (.bool l) := RK.out.bx.b1.cell rfl); (have s2 : w8.cell? ⟨w.heap.size + 1, 2, none⟩ = some (.slice a n c) := RK.out.bx.b1.cell rfl); (have fz := RK.out.bx.b1.frozen); (have RS := Hid.mk' (RK.out.setr true dl a8 n8 c8)); (have TS := Hid.mk' (T8.out.off_bk (blk_one RK.out.bx.b1) (((grown_set w8 (w.heap.size + 1) 0 (.bool true)).trans (grown_set _ (w.heap.size + 1) 1 (.bool dl))).trans (grown_set _ (w.heap.size + 1) 2 (.slice a8 n8 c8))))))
      | fail)
    all_goals
      go_wp2_with fail
      go_meet
      exact ⟨_, _, _, RS.out, TS.out⟩
  case rest =>
  obtain ⟨a, n, c, RB, TB⟩ := hcut
  clear RO TD RD CB s0 s1 s2 o0 o1 o2 HLD hn hn' HN
  have HLD : Hid (n = dt.length) := TB.out.len.symm
  have hnb : n ≤ 150000000000000 := TB.out.big
  have r2 : wc.cell? ⟨w.heap.size + 1, 2, none⟩ = some (.slice a n c) := RB.out.bx.b1.cell rfl
  have hQ := HQ.out
  unfold putQ at hQ
  rw [show (⟨true, dl, dt⟩ : Ct).t.length = n from TB.out.len] at hQ
  by_cases hlong : 65536 < n
  · rw [if_pos hlong] at hQ
    obtain ⟨q1, q2⟩ := Prod.mk.inj hQ
    subst q1 q2
    clear hQ HQ
    have hn' : decide ((65536 : Int) < (n : Int)) = true := by simp; omega
    clear hlong hnb
    have BP := Hid.mk' (Blk.put28 rfl rfl RB.out.bx.b2 (L := zb))
    have hlv := ld28 rfl BP.out
    have NW := Hid.mk' (new_zero (below_put28 RB.out.bx.bel (show w.heap.size ≤ w.heap.size + 1 + 1 by omega) zb))
    have BZ := Hid.mk' RB.out.bx.b2
    go_upto_region 13 with fail
    go_wp2_with (refine wl_store28 (.tmp 8) (.tmp 62) rfl rfl rfl rfl rfl rfl BZ.out ?_)
    generalize put28 wc (w.heap.size + 1 + 1) zb = WP at *
    exact bodyPost_ret (v := .tuple #[.agg (bk zb), .int .i64 1]) (by simp [results, Try.results15, asAddr, hlv]) rfl ⟨_, rfl, NW.out.newR⟩
  · rw [if_neg hlong, if_neg (by omega)] at hQ
    obtain ⟨q1, q2⟩ := Prod.mk.inj hQ
    subst q1 q2
    clear hQ HQ
    have hn' : decide ((65536 : Int) < (n : Int)) = false := by simp; omega
    have hn : n ≤ 65536 := by omega
    clear hlong hnb r2
    have s0 : wc.cell? ⟨w.heap.size + 1, 0, none⟩ = some (.bool true) := RB.out.bx.b1.cell rfl
    have s1 : wc.cell? ⟨w.heap.size + 1, 1, none⟩ = some (.bool dl) := RB.out.bx.b1.cell rfl
    have s2 : wc.cell? ⟨w.heap.size + 1, 2, none⟩ = some (.slice a n c) := RB.out.bx.b1.cell rfl
    go_upto_region 14 with fail
    have RD := Hid.mk' (RB.out.keep (Below.refl _ wc).drew)
    have TDD := Hid.mk' (TB.out.keep (Below.refl _ wc).drew)
    have s0 : wc.cell? ⟨w.heap.size + 1, 0, none⟩ = some (.bool true) := RB.out.bx.b1.cell rfl
    have s1 : wc.cell? ⟨w.heap.size + 1, 1, none⟩ = some (.bool dl) := RB.out.bx.b1.cell rfl
    have s2 : wc.cell? ⟨w.heap.size + 1, 2, none⟩ = some (.slice a n c) := RB.out.bx.b1.cell rfl
    have CC1 := Hid.mk' (copy_any true dl a n c dt wc.drew TDD.out (by omega))
    go_region_law (first
      | ((try go_simp); go_at_call 24; refine (CLT.out _).mono ?_; rintro e w9 ⟨rfl, hw⟩; (have hq := hw.symm); subst hq; clear hw)
      | ((try go_simp); go_at_call 21; refine CC1.out.mono ?_; rintro e v1 ⟨a1, c1, rfl, hO1, hb1⟩; (have RK1 := Hid.mk' (RD.out.keep hb1)); (have RN1 := Hid.mk' (RD.out.copied hb1 (11 + j) (dl := dl) (dt := dt) HLD.out hO1)); (have TN1 := Hid.mk' ((TDD.out.keep hb1).off_bk RK1.out.b (grown_putr v1 p (11 + j) true dl (.slice a1 n c1)))); (obtain ⟨y1, -, e0, e1, e2⟩ := RK1.out.cells (j := 11 + j) (by omega)); (have fz := RK1.out.b.frozen); clear hO1 hb1 s0 s1 s2 CC1 RD TDD RK1; unfold putr at RN1 TN1; rw [show 3 * (11 + j) = 33 + j * 3 from by omega] at e0 e1 e2 RN1 TN1; (obtain ⟨W1, hW1⟩ : ∃ W, (((v1.setCell ⟨p, 33 + j * 3, none⟩ (.bool true)).setCell ⟨p, 33 + j * 3 + 1, none⟩ (.bool dl)).setCell ⟨p, 33 + j * 3 + 2, none⟩ (.slice a1 n c1)) = W := ⟨_, rfl⟩); rw [hW1] at RN1 TN1)
      | fail)
    all_goals
      have s0 : W1.cell? ⟨w.heap.size + 1, 0, none⟩ = some (.bool true) := RN1.out.bx.b1.cell rfl
      have s1 : W1.cell? ⟨w.heap.size + 1, 1, none⟩ = some (.bool dl) := RN1.out.bx.b1.cell rfl
      have s2 : W1.cell? ⟨w.heap.size + 1, 2, none⟩ = some (.slice a n c) := RN1.out.bx.b1.cell rfl
      have CC2 := Hid.mk' (copy_any true dl a n c dt W1 TN1.out (by omega))
      go_wp2_with fail
      refine CC2.out.mono ?_
      rintro e v2 ⟨a2, c2, rfl, hO2, hb2⟩
      have RK2 := Hid.mk' (RN1.out.keep hb2)
      have RN2 := Hid.mk' (RN1.out.copied hb2 (0) (dl := dl) (dt := dt) HLD.out hO2)
      have TN2 := Hid.mk' ((TN1.out.keep hb2).off_bk RK2.out.b (grown_putr v2 p (0) true dl (.slice a2 n c2)))
      obtain ⟨y2, -, e0, e1, e2⟩ := RK2.out.cells (j := 0) (by omega)
      have fz := RK2.out.b.frozen
      clear hO2 hb2 s0 s1 s2 CC2 RN1 TN1 RK2
      unfold putr at RN2 TN2
      rw [show 3 * (0) = 0 from by omega] at e0 e1 e2 RN2 TN2
      change v2.cell? ⟨p, 1, none⟩ = _ at e1
      change v2.cell? ⟨p, 2, none⟩ = _ at e2
      change Hid (Ro _ _ _ _ _ _ _ _ _ _ (((v2.setCell ⟨p, 0, none⟩ (.bool true)).setCell ⟨p, 1, none⟩ (.bool dl)).setCell ⟨p, 2, none⟩ (.slice a2 n c2))) at RN2
      change Hid (Tx (((v2.setCell ⟨p, 0, none⟩ (.bool true)).setCell ⟨p, 1, none⟩ (.bool dl)).setCell ⟨p, 2, none⟩ (.slice a2 n c2)) _ _ _ _) at TN2
      obtain ⟨W2, hW2⟩ : ∃ W, (((v2.setCell ⟨p, 0, none⟩ (.bool true)).setCell ⟨p, 1, none⟩ (.bool dl)).setCell ⟨p, 2, none⟩ (.slice a2 n c2)) = W := ⟨_, rfl⟩
      rw [hW2] at RN2 TN2
      have hlN := RN2.out.len
      have BO := Hid.mk' RN2.out.b
      have BZ := Hid.mk' RN2.out.bx.b2
      have NW := Hid.mk' RN2.out.fin
      have BP := Hid.mk' (Blk.put28 hlN rfl BZ.out)
      have hlv := ld28 hlN BP.out
      go_wp2_with (first | (refine wl_load28 (.tmp 10) rfl rfl rfl hlN BO.out ?_) | (refine wl_store28 (.tmp 8) (.tmp 126) rfl rfl rfl rfl hlN rfl BZ.out ?_))
      generalize put28 W2 (w.heap.size + 1 + 1) _ = WP at *
      exact bodyPost_ret (v := .tuple #[.agg (bk _), .int .i64 0]) (by simp [results, Try.results15, asAddr, hlv]) rfl ⟨_, rfl, NW.out⟩
end Go.Proofs.Ytienamngmalkaaa
