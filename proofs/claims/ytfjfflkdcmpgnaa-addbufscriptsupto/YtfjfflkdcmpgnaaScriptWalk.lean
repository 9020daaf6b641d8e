/- The walk of quoinlaw01.AddbufScripts: it answers true for every text and every script of a bounded size. -/
import Derived.Test.YtfjfflkdcmpgnaaScriptTell
namespace Go.Proofs.Ytfjfflkdcmpgnaa
open Go.RowKit

/-- A script that came in. -/
structure ScAt (W : World) (ao : Option Addr) (n : Nat) (kd s o l i : Nat → Int) (P : Nat → List UInt8) : Prop where
  step : ∀ t, t < n → ∃ g off ap cp, ao = some ⟨g, off, none⟩ ∧ W.cell? ⟨g, off + t * 6, none⟩ = some (.int .i64 (kd t)) ∧ W.cell? ⟨g, off + t * 6 + 1, none⟩ = some (.slice ap (P t).length cp) ∧ W.cell? ⟨g, off + t * 6 + 2, none⟩ = some (.int .i64 (s t)) ∧ W.cell? ⟨g, off + t * 6 + 3, none⟩ = some (.int .i64 (o t)) ∧ W.cell? ⟨g, off + t * 6 + 4, none⟩ = some (.int .i64 (l t)) ∧ W.cell? ⟨g, off + t * 6 + 5, none⟩ = some (.int .i64 (i t)) ∧ Rd W (.slice ap (P t).length cp) (P t)

theorem ScAt.keep {W W' : World} {ao : Option Addr} {n : Nat} {kd s o l i : Nat → Int} {P : Nat → List UInt8} (h : ScAt W ao n kd s o l i P) (hb : Below W.heap.size W W') : ScAt W' ao n kd s o l i P := by
  refine ⟨fun t ht => ?_⟩
  obtain ⟨g, off, ap, cp, h0, h1, h2, h3, h4, h5, h6, h7⟩ := h.step t ht
  exact ⟨g, off, ap, cp, h0, cell_later' hb h1, cell_later' hb h2, cell_later' hb h3, cell_later' hb h4, cell_later' hb h5, cell_later' hb h6, h7.keep hb⟩

/-- the numbers are those of the language -/
def Bds (n : Nat) (o l i : Nat → Int) : Prop := ∀ t, t < n → -9223372036854775808 ≤ l t ∧ l t ≤ 9223372036854775807 ∧ -9223372036854775808 ≤ o t ∧ o t ≤ 9223372036854775807 ∧ i t ≤ 9223372036854775807

set_option maxRecDepth 100000 in
set_option maxHeartbeats 4000000 in
theorem script_walk (a0 : Option Addr) (c0 : Nat) (O : List UInt8) (as' : Option Addr) (cs n : Nat) (kd s o l i : Nat → Int) (P : Nat → List UInt8) (w : World)
    (hO : Hid (Rd w (.slice a0 O.length c0) O)) (hS : Hid (ScAt w as' n kd s o l i P)) (hB : Hid (Bds n o l i)) (bO : O.length ≤ 1048576) (bn : n ≤ 1048576) (bP : sumP P n ≤ 1048576) :
    Calls Try.prog 3 #[.slice a0 O.length c0, .slice as' n cs] w fun e w' => e = .returned (.bool true) ∧ Below w.heap.size w w' := by
  go_enter Try.func3, Try.ntmps3
  go_wp2_with fail
  refine (awake_any _).mono ?_
  rintro e w1 ⟨rfl, L1⟩
  have HL1 : Hid (Below w.heap.size w w1) := L1
  clear L1
  go_wp2_with fail
  refine (lent_any a0 c0 O _ (by omega) (hO.out.keep HL1.out)).mono ?_
  rintro e w2 ⟨gi, ci, rfl, hown, hb⟩
  have HI : Hid (w2.ownsRow w1.heap.size 5 1 (.slice (some ⟨gi, 0, none⟩) (O.length + 2) ci) (O.length + 2) (bv O ++ mk2)) := hown
  have HL2 : Hid (Below w.heap.size w w2) := HL1.out.trans (hb.mono HL1.out.size)
  clear hb hown
  have hRI : Hid (Rd w2 (.slice (some ⟨gi, 0, none⟩) O.length ci) O) := by
    refine .inr ⟨_, ci, rfl, fun j u hu => ?_⟩
    have hj : j < O.length := by have := (List.getElem?_eq_some_iff.1 hu).1; rw [bv_length] at this; exact this
    have hadd : (⟨gi, 0, none⟩ : Addr).add j = ⟨gi, j, none⟩ := by unfold Addr.add; split <;> simp_all
    rw [hadd, HI.out.cellAt j (by omega), List.getElem?_append_left (by rw [bv_length]; exact hj)]; exact hu
  go_wp2_with fail
  refine (new_any _ O _ (by omega) hRI).mono ?_
  rintro e w3 ⟨b, vo, rfl, hBf, hb⟩
  have HB3 : Hid (BufAt w3 w2.heap.size b vo (.slice none 0 0) O []) := hBf
  have HB23 : Hid (Below w2.heap.size w2 w3) := hb
  clear hBf hb hRI
  go_wp2_with fail
  refine (new_any _ [] _ (by simp) (.inl ⟨rfl, rfl⟩)).mono ?_
  rintro e w4 ⟨b2, vo2, rfl, hBf, hb⟩
  have HB4 : Hid (BufAt w4 w3.heap.size b2 vo2 (.slice none 0 0) [] []) := hBf
  have HB34 : Hid (Below w3.heap.size w3 w4) := hb
  have HB24 : Hid (Below w2.heap.size w2 w4) := HB23.out.trans (hb.mono HB23.out.size)
  have HL4 : Hid (Below w.heap.size w w4) := HL2.out.trans (HB24.out.mono HL2.out.size)
  have HI4 : Hid (w4.ownsRow w1.heap.size 5 1 (.slice (some ⟨gi, 0, none⟩) (O.length + 2) ci) (O.length + 2) (bv O ++ mk2)) := own_keep HI.out HB24.out
  clear hBf hb
  go_wp2_with fail
  refine (whole_any gi ci a0 c0 w1.heap.size O _ (by omega) (hO.out.keep HL4.out) HI4).mono ?_
  rintro e w5 ⟨rfl, rfl⟩
  go_wp2_with fail
  go_loopw [40] (fun x wr => ∃ (j : Nat) (ys : List Value), j ≤ O.length ∧ x = .int .i64 j ∧ wr.ownsRow w1.heap.size 5 1 (.slice (some ⟨gi, 0, none⟩) (O.length + 2) ci) (O.length + 2) ys ∧ (∀ u ∈ ys, ∃ z, u = .int .u8 z) ∧ w5.grownBy wr (some gi)) (fun x _ => O.length - (intOf x).toNat)
  case atStart => exact ⟨0, _, Nat.zero_le _, rfl, HI4.out, mk_bytes O, ⟨rfl, rfl, rfl, Nat.le_refl _, fun _ _ _ => rfl⟩⟩
  case round =>
    obtain ⟨j, ys, hj, rfl, hw, hu, hg⟩ := hrel
    have HW : Hid (wr.ownsRow w1.heap.size 5 1 (.slice (some ⟨gi, 0, none⟩) (O.length + 2) ci) (O.length + 2) ys) := hw
    have HU : Hid (∀ u ∈ ys, ∃ z, u = .int .u8 z) := hu
    have HG : Hid (w5.grownBy wr (some gi)) := hg
    clear hw hu hg
    by_cases hlt : j < O.length
    · have hyl : ys.length = O.length + 2 := by have := HW.out.1; omega
      obtain ⟨z, hz⟩ : ∃ z, wr.cell? ⟨gi, j, none⟩ = some (.int .u8 z) := by
        obtain ⟨z, hz⟩ := HU.out (ys[j]'(by omega)) (List.getElem_mem _)
        exact ⟨z, by rw [HW.out.cellAt j (by omega), List.getElem?_eq_getElem (by omega), hz]⟩
      have hf := HW.out.frozenAt j
      have hj0 : (0 : Int) ≤ (j : Int) := by omega
      have hj1 : (j : Int) < (O.length : Int) := by omega
      go_wp2
      go_roundw
      case rel => exact ⟨j + 1, _, by omega, by go_num, (HW.out.stored j _).1, u8_set HU.out j _, grown_trans HG.out (HW.out.stored j _).2⟩
      case measure => simp [intOf]; omega
    · obtain ⟨w6, hw6⟩ : ∃ w6 : World, w6 = wr := ⟨_, rfl⟩
      subst hw6
      have hgi := (HI.out.lt gi rfl)
      have zz1 := HL1.out.size
      have zz2 := HB23.out.size
      have zz3 := HB34.out.size
      have B6 : Hid (BufAt w6 w2.heap.size b vo (.slice none 0 0) O []) := (HB3.out.keep HB34.out).off HG.out hgi.2
      have C6 : Hid (BufAt w6 w3.heap.size b2 vo2 (.slice none 0 0) [] []) := HB4.out.off HG.out (by omega)
      have HL6 : Hid (Below w.heap.size w w6) := HL4.out.grown HG.out HL4.out.size (by intro k hk; simp at hk; omega)
      have hbb : b < w3.heap.size := HB3.out.lt
      have hvo : Hid (∀ g, vo.ownBlock = some g → g < w3.heap.size) := fun g hg => (HB3.out.orig.lt g hg).2
      clear HW HU HG HI HI4 HB3 HB4 HB23 HB34 HB24 HL1 HL2 HL4
      obtain ⟨i0, hi, hz0, hz1, hz2⟩ := info_parts info5
      go_wp2_with (at_builtin; refine append_src rfl (.tmp 50) (.tmp 51) 22 rfl w6.heap.size 5 i0 (.int .u8 0) 1 1 Try.underlying22 hi hz0 hz1 hz2 rfl (by decide) (.slice (some ⟨w6.heap.size, 0, none⟩) 0 0) 0 [] rfl (World.ownsRow_made w6 #[] 0 (Nat.le_refl _) (Nat.zero_le _) rfl) a0 O.length c0 (bv O) rfl ?qc1 ?qc2 ?qc3 ?qc4 ?qc5 ?qc6 ?_)
      case qc1 => simp [bv_length]
      case qc2 => exact rd_src ((hO.out.keep HL6.out).keep (bAlloc (Below.refl _ _) _))
      case qc3 => exact bv_one O
      case qc4 => unfold maxLen; omega
      case qc5 => omega
      case qc6 => simp
      intro vk w7 hown hgrow
      have HK7 : Hid (w7.ownsRow w6.heap.size 5 1 vk O.length (bv O)) := by unfold Hid; simpa using hown
      have B67 : Hid (Below w6.heap.size w6 w7) := ((Below.refl _ w6).alloc (Nat.le_refl _) _).grown hgrow (by simp) (by intro k hk; simp [Value.ownBlock] at hk; omega)
      clear hown hgrow
      obtain ⟨ak, ck, rfl⟩ := own_shape HK7.out
      go_wp2_with fail
      have HS0 : Hid (Sta w ((w7.alloc (.cells #[.slice ak O.length ck, .slice none 0 0] 30)).alloc (.cells #[.slice none 0 0] 31)) b b2 w7.heap.size (w7.heap.size + 1) (.slice none 0 0) 0 0 [] (gof vo vo2 (.slice ak O.length ck)) (mof O.length) (zof O) O [] [] []) := Sta.init B6.out C6.out HL6.out (by omega) (by omega) hbb hvo.out HK7.out B67.out
      have hSw : Hid (ScAt w as' n kd s o l i P) := hS
      clear B6 C6 HK7 B67 hvo hgi zz1 zz2 zz3 hi hz0 hz1 hz2 hbb HL6
      generalize (w7.alloc (.cells #[.slice ak O.length ck, .slice none 0 0] 30)).alloc (.cells #[.slice none 0 0] 31) = W0 at HS0 ⊢
      generalize w7.heap.size = bk at HS0 ⊢
      go_loopw [11, 56] (fun x y wr => Mid w wr b b2 bk (bk + 1) O P n x y) (fun x y _ => n - (intOf y).toNat)
      case atStart => exact ⟨0, 0, 0, 0, _, _, _, [], [], _, [], Nat.zero_le _, rfl, rfl, by omega, by omega, by omega, by simp, by simp, ⟨rfl, rfl⟩, HS0.out⟩
      case round =>
        obtain ⟨t, r, cnt, nn, G, M, Z, A, A2, vl, xs, ht, rfl, rfl, r0, r1, hnn, hA, hA2, hrow, hst⟩ := hrel
        have HST : Hid (Sta w wr b b2 bk (bk + 1) vl cnt nn xs G M Z O A A2 A) := hst
        have HROW : Hid (InRow cnt nn xs G) := hrow
        clear hst hrow HS0
        by_cases htn : t < n
        · obtain ⟨g, off, ap, cp, rfl, d0, d1, d2, d3, d4, d5, HP⟩ := (hSw.out.keep HST.out.bel).step t htn
          have HPP : Hid (Rd wr (.slice ap (P t).length cp) (P t)) := HP
          clear HP
          have ht0 : (0 : Int) ≤ (t : Int) := by omega
          have ht1 : (t : Int) < (n : Int) := by omega
          obtain ⟨bb1, bb2, bb3, bb4, bb5⟩ := hB.out t htn
          have hsum := Nat.le_trans hA (sumP_mono P ht)
          obtain ⟨a4, c4, e4⟩ := own_shape (by have := HST.out.own 4 (by omega); rw [HST.out.z4.1] at this; exact this)
          obtain ⟨a5, c5, e5⟩ := own_shape (by have := HST.out.own 5 (by omega); rw [HST.out.z5.1] at this; exact this)
          have hk4 : ∀ x : Obj, (wr.alloc x).cell? ⟨bk, 0, none⟩ = some (.slice a4 O.length c4) := fun x => by rw [(HST.out.hk.alloc x).cell, ← e4]; rfl
          have hk5 : ∀ x : Obj, (wr.alloc x).cell? ⟨bk, 1, none⟩ = some (.slice a5 A.length c5) := fun x => by rw [(HST.out.hk.alloc x).cell, ← e5]; rfl
          by_cases hk : kd t = 0
          · rw [hk] at d0
            have hPt : (P t).length + sumP P t ≤ 1048576 := by have := sumP_mono P (show t + 1 ≤ n from htn); have e : sumP P (t + 1) = sumP P t + (P t).length := rfl; omega
            have HPw : Hid (∀ W, Below w.heap.size w W → Rd W (.slice ap (P t).length cp) (P t)) := by
              obtain ⟨g', off', ap', cp', q0, q1, q2, -, -, -, -, q7⟩ := hSw.out.step t htn
              intro W hW
              have q2' := cell_later' HST.out.bel q2
              simp only [Option.some.injEq, Addr.mk.injEq] at q0
              obtain ⟨rfl, rfl, -⟩ := q0
              rw [d1] at q2'
              simp only [Option.some.injEq, Value.slice.injEq] at q2'
              obtain ⟨rfl, -, rfl⟩ := q2'
              exact q7.keep hW
            have hw : wrap64 (r + wrap64 (((P t).length : Int) + (A.length : Int))) = r + (((P t).length : Int) + (A.length : Int)) := by rw [Go.IntWalk.wrap64_in (((P t).length : Int) + (A.length : Int)) (by omega), Go.IntWalk.wrap64_in _ (by omega)]
            by_cases hr : r + (((P t).length : Int) + (A.length : Int)) > 16777216
            · go_wp2_with fail
              go_ret
              exact ⟨rfl, bAlloc HST.out.bel _⟩
            · go_wp2_with fail
              refine (lent_any ap cp (P t) _ (by omega) (HPw.out _ (bAlloc HST.out.bel _))).mono ?_
              rintro e w2 ⟨gp, cap, rfl, hown, hb⟩
              have S2 : Hid (RowAt w2 wr.heap.size #[.int .i64 0, .slice ap (P t).length cp, .int .i64 (s t), .int .i64 (o t), .int .i64 (l t), .int .i64 (i t)] 35) := (RowAt.new wr _ 35).keep hb
              have ST2 : Hid (Sta w w2 b b2 bk (bk + 1) vl cnt nn xs G M Z O A A2 A) := (HST.out.below (bAlloc (Below.refl _ _) _)).below hb
              have OW2 : Hid (w2.ownsRow (wr.heap.size + 1) 5 1 (.slice (some ⟨gp, 0, none⟩) ((P t).length + 2) cap) ((P t).length + 2) (bv (P t) ++ mk2)) := by unfold Hid; simpa using hown
              clear hown hb
              go_wp2_with fail
              refine (add_any _ b (G 0) (G 1) O A w.heap.size (P t) _ ST2.out.buf (by omega) (rd_mk OW2.out)).mono ?_
              rintro e w3 ⟨va', rfl, hbuf, ht3, hf⟩
              have S3 : Hid (RowAt w3 wr.heap.size #[.int .i64 0, .slice ap (P t).length cp, .int .i64 (s t), .int .i64 (o t), .int .i64 (l t), .int .i64 (i t)] 35) := touch_row ht3 S2.out (ne_type S2.out ST2.out.hb (by decide)) (block_apart (ST2.out.own 1 (by omega)) S2.out (by decide))
              have OW3 : Hid (w3.ownsRow (wr.heap.size + 1) 5 1 (.slice (some ⟨gp, 0, none⟩) ((P t).length + 2) cap) ((P t).length + 2) (bv (P t) ++ mk2)) := touch_own ht3 OW2.out (block_apart OW2.out ST2.out.hb (by decide)) (fun k hk1 hk2 => by
                have q1 := ((HST.out.own 1 (by omega)).lt k hk1).2
                have q2 := (OW2.out.lt k hk2).1
                omega)
              have ST3 : Hid (Sta w w3 b b2 bk (bk + 1) vl cnt nn xs (upd G 1 va') (upd M 1 (A ++ P t).length) (upd Z 1 (bv (A ++ P t))) O (A ++ P t) A2 A) := ST2.out.add hbuf ht3 hf
              have hfr : Hid (∀ k, k < cnt + 6 → (upd G 1 va' k).ownBlock ≠ some gp) := fun k hk e => by
                by_cases e1 : k = 1
                · subst e1
                  rw [upd_same] at e
                  rcases hf with h1 | ⟨q, h1, h2⟩
                  · have q1 := ((HST.out.own 1 (by omega)).lt gp (by rw [← h1]; exact e)).2
                    have q2 := (OW2.out.lt gp rfl).1
                    omega
                  · rw [h1] at e
                    have q2 := (OW2.out.lt gp rfl).2
                    simp at e
                    omega
                · rw [upd_ne _ _ e1] at e
                  have q1 := ((HST.out.own k hk).lt gp e).2
                  have q2 := (OW2.out.lt gp rfl).1
                  omega
              have hgp : wr.heap.size < gp := (OW2.out.lt gp rfl).1
              clear hbuf ht3 hf S2 OW2 ST2
              go_wp2_with fail
              have ST3' : Hid (Sta w ((w3.alloc (.cells #[.int .i64 1, .int .i64 A.length, .int .i64 (P t).length] 33)).alloc (.cells #[.int .u8 1] 5)) b b2 bk (bk + 1) vl cnt nn xs (upd G 1 va') (upd M 1 (A ++ P t).length) (upd Z 1 (bv (A ++ P t))) O (A ++ P t) A2 A) := ST3.out.below (bAlloc (bAlloc (Below.refl _ _) _) _)
              refine (add_any _ b2 (G 2) (G 3) [] A2 w.heap.size [1] _ ST3'.out.buf2 (by simp; omega) ?rdl).mono ?_
              case rdl => exact .inr ⟨_, _, rfl, fun k u hk => by have := lit_cells (w3.alloc (.cells #[.int .i64 1, .int .i64 A.length, .int .i64 (P t).length] 33)) #[.int .u8 1] 5 k u hk; simpa using this⟩
              rintro e w4 ⟨va2, rfl, hbuf, ht4, hf⟩
              have S4 : Hid (RowAt w4 wr.heap.size #[.int .i64 0, .slice ap (P t).length cp, .int .i64 (s t), .int .i64 (o t), .int .i64 (l t), .int .i64 (i t)] 35) := touch_row ht4 ((S3.out.alloc _).alloc _) (ne_type ((S3.out.alloc _).alloc _) ST3'.out.hb2 (by decide)) (block_apart (ST3'.out.own 3 (by omega)) ((S3.out.alloc _).alloc _) (by decide))
              have SP3 := (RowAt.new w3 #[.int .i64 1, .int .i64 A.length, .int .i64 (P t).length] 33).alloc (.cells #[.int .u8 1] 5)
              have SP4 : Hid (RowAt w4 w3.heap.size #[.int .i64 1, .int .i64 A.length, .int .i64 (P t).length] 33) := touch_row ht4 SP3 (ne_type SP3 ST3'.out.hb2 (by decide)) (block_apart (ST3'.out.own 3 (by omega)) SP3 (by decide))
              have OW4 : Hid (w4.ownsRow (wr.heap.size + 1) 5 1 (.slice (some ⟨gp, 0, none⟩) ((P t).length + 2) cap) ((P t).length + 2) (bv (P t) ++ mk2)) := touch_own ht4 ((OW3.out.alloc _).alloc _) (block_apart ((OW3.out.alloc _).alloc _) ST3'.out.hb2 (by decide)) (fun k hk1 hk2 => by
                have e : gp = k := by simpa [Value.ownBlock] using hk2
                subst e
                exact hfr.out 3 (by omega) hk1)
              have ST4 : Hid (Sta w w4 b b2 bk (bk + 1) vl cnt nn xs (upd (upd G 1 va') 3 va2) (upd (upd M 1 (A ++ P t).length) 3 (A2 ++ [1]).length) (upd (upd Z 1 (bv (A ++ P t))) 3 (bv (A2 ++ [1]))) O (A ++ P t) (A2 ++ [1]) A) := ST3'.out.add2 hbuf ht4 hf
              have hfr4 : Hid (∀ k, k < cnt + 6 → (upd (upd G 1 va') 3 va2 k).ownBlock ≠ some gp) := fun k hk e => by
                by_cases e1 : k = 3
                · subst e1
                  rw [upd_same] at e
                  rcases hf with h1 | ⟨q, h1, h2⟩
                  · exact hfr.out 3 hk (by rw [← e, h1]; rfl)
                  · rw [h1] at e
                    have q2 := (OW3.out.lt gp rfl).2
                    simp at e h2
                    omega
                · rw [upd_ne _ _ e1] at e
                  exact hfr.out k hk e
              clear hbuf ht4 hf S3 SP3 OW3 ST3 ST3' hfr
              obtain ⟨m0, m1, m2⟩ : w4.cell? ⟨w3.heap.size, 0, none⟩ = some (.int .i64 1) ∧ w4.cell? ⟨w3.heap.size, 1, none⟩ = some (.int .i64 A.length) ∧ w4.cell? ⟨w3.heap.size, 2, none⟩ = some (.int .i64 (P t).length) := ⟨by rw [SP4.out.cell]; rfl, by rw [SP4.out.cell]; rfl, by rw [SP4.out.cell]; rfl⟩
              have m3 : w4.cell? ⟨bk, 1, none⟩ = some (.slice a5 A.length c5) := by rw [ST4.out.hk.cell, ← e5]; rfl
              have m4 : w4.cell? ⟨wr.heap.size, 1, none⟩ = some (.slice ap (P t).length cp) := by rw [S4.out.cell]; rfl
              go_wp2_with fail
              refine (whole_any gp cap ap cp (wr.heap.size + 1) (P t) _ (by omega) (HPw.out _ ST4.out.bel) OW4).mono ?_
              rintro e w5 ⟨rfl, rfl⟩
              obtain ⟨wz, hwz⟩ : ∃ wz : World, wz = wr := ⟨_, rfl⟩
              subst hwz
              go_wp2_with fail
              go_loopw [123] (fun x wr => ∃ (j : Nat) (ys : List Value), j ≤ (P t).length ∧ x = .int .i64 j ∧ wr.ownsRow (wz.heap.size + 1) 5 1 (.slice (some ⟨gp, 0, none⟩) ((P t).length + 2) cap) ((P t).length + 2) ys ∧ (∀ u ∈ ys, ∃ z, u = .int .u8 z) ∧ w5.grownBy wr (some gp)) (fun x _ => (P t).length - (intOf x).toNat)
              case atStart => exact ⟨0, _, Nat.zero_le _, rfl, OW4.out, mk_bytes (P t), ⟨rfl, rfl, rfl, Nat.le_refl _, fun _ _ _ => rfl⟩⟩
              case round =>
                obtain ⟨j2, ys2, hj2, rfl, hw2, hu2, hg2⟩ := hrel
                have HW : Hid (wr.ownsRow (wz.heap.size + 1) 5 1 (.slice (some ⟨gp, 0, none⟩) ((P t).length + 2) cap) ((P t).length + 2) ys2) := hw2
                have HU : Hid (∀ u ∈ ys2, ∃ z, u = .int .u8 z) := hu2
                have HG : Hid (w5.grownBy wr (some gp)) := hg2
                clear hw2 hu2 hg2
                by_cases hlt2 : j2 < (P t).length
                · have hyl : ys2.length = (P t).length + 2 := by have := HW.out.1; omega
                  obtain ⟨z, hz⟩ : ∃ z, wr.cell? ⟨gp, j2, none⟩ = some (.int .u8 z) := by
                    obtain ⟨z, hz⟩ := HU.out (ys2[j2]'(by omega)) (List.getElem_mem _)
                    exact ⟨z, by rw [HW.out.cellAt j2 (by omega), List.getElem?_eq_getElem (by omega), hz]⟩
                  have hf := HW.out.frozenAt j2
                  have hj0 : (0 : Int) ≤ (j2 : Int) := by omega
                  have hj1 : (j2 : Int) < ((P t).length : Int) := by omega
                  go_wp2
                  go_roundw
                  case rel => exact ⟨j2 + 1, _, by omega, by go_num, (HW.out.stored j2 _).1, u8_set HU.out j2 _, grown_trans HG.out (HW.out.stored j2 _).2⟩
                  case measure => simp [intOf]; omega
                · obtain ⟨w8, hw8⟩ : ∃ w8 : World, w8 = wr := ⟨_, rfl⟩
                  subst hw8
                  obtain ⟨cur, hcur⟩ : ∃ cur, w5.heap[gp]? = some (.cells cur 5 (0, 0)) := by
                    rcases OW4.out.2 with ⟨h0, -⟩ | ⟨q, cc, cur, h0, -, h2, -⟩
                    · simp at h0
                    · simp at h0
                      exact ⟨cur, by rw [h0.1]; exact h2⟩
                  have hgz : w.heap.size ≤ gp := by have := HST.out.bel.size; omega
                  have ST8 : Hid (Sta w w8 b b2 bk (bk + 1) vl cnt nn xs (upd (upd G 1 va') 3 va2) (upd (upd M 1 (A ++ P t).length) 3 (A2 ++ [1]).length) (upd (upd Z 1 (bv (A ++ P t))) 3 (bv (A2 ++ [1]))) O (A ++ P t) (A2 ++ [1]) A) := ST4.out.tmp HG.out hcur hgz hfr4.out
                  have S8 : RowAt w8 wz.heap.size #[.int .i64 0, .slice ap (P t).length cp, .int .i64 (s t), .int .i64 (o t), .int .i64 (l t), .int .i64 (i t)] 35 := by
                    unfold RowAt; rw [HG.out.block _ S4.out.lt (by intro e; simp at e; exact (ne_type S4.out hcur (by decide)) e)]; exact S4.out
                  have m3 : w8.cell? ⟨bk, 1, none⟩ = some (.slice a5 A.length c5) := by rw [ST8.out.hk.cell, ← e5]; rfl
                  have m4 : w8.cell? ⟨wz.heap.size, 1, none⟩ = some (.slice ap (P t).length cp) := by rw [S8.cell]; rfl
                  obtain ⟨i1, hi, hz0, hz1, hz2⟩ := info_parts info5
                  have ow5 : Hid (w8.ownsRow w.heap.size 5 1 (.slice a5 A.length c5) A.length (bv A)) := by
                    have := ST8.out.own 5 (by omega)
                    rw [ST8.out.z5.1, ST8.out.z5.2] at this
                    rw [← e5]; exact this
                  clear S8 HW HU HG OW4 S4 SP4
                  go_wp2_with (at_builtin; refine append_src_at rfl (.tmp 134) (.tmp 136) 22 rfl w.heap.size 5 i1 (.int .u8 0) 1 1 Try.underlying22 hi hz0 hz1 hz2 rfl (by decide) (.slice a5 A.length c5) A.length (bv A) rfl ow5.out ap (P t).length cp (bv (P t)) rfl ?qc1 ?qc2 ?qc3 ?qc4 ?qc5 ?qc6 ?_)
                  case qc1 => simp [bv_length]
                  case qc2 => exact rd_src (HPw.out _ ST8.out.bel)
                  case qc3 => exact bv_one (P t)
                  case qc4 => unfold maxLen; omega
                  case qc5 => omega
                  case qc6 => exact ST8.out.bel.size
                  intro vk w9 hown hgrow hat
                  obtain ⟨BK, ck1, ck2⟩ := ST8.out.book (v' := vk) (P := P t) (by rw [List.length_append, bv_append]; exact hown) (by rw [show upd (upd G 1 va') 3 va2 5 = G 5 from rfl, e5]; exact hgrow) (by rw [show upd (upd G 1 va') 3 va2 5 = G 5 from rfl, e5]; exact hat)
                  have HBK : Hid (Sta _ _ _ _ _ _ _ _ _ _ _ _ _ _ _ _ _) := BK
                  obtain ⟨ao', cap', rfl⟩ := own_shape hown
                  clear BK hown hgrow hat hi hz0 hz1 hz2 m3 m4
                  go_wp2_with fail
                  exact ⟨⟨t + 1, _, cnt, nn, _, _, _, A ++ P t, A2 ++ [1], vl, xs, by omega, rfl, by go_num, by omega, by omega, by omega, by have e : sumP P (t + 1) = sumP P t + (P t).length := rfl; rw [List.length_append]; omega, by simp; omega, ((HROW.out.upd (by omega) _).upd (by omega) _).upd (by omega) _, HBK.out⟩, by simp [intOf]; omega⟩
          · have hkb : (kd t == 0) = false := by simpa using hk
            have HST' : Hid (Sta w (wr.alloc (.cells #[.int .i64 (kd t), .slice ap (P t).length cp, .int .i64 (s t), .int .i64 (o t), .int .i64 (l t), .int .i64 (i t)] 35)) b b2 bk (bk + 1) vl cnt nn xs G M Z O A A2 A) := HST.out.below (bAlloc (Below.refl _ _) _)
            by_cases hl1 : 0 < l t
            · have hl1' : decide (0 < l t) = true := by simpa using hl1
              by_cases hl2 : l t < 1099511627776
              · have hl2' : decide (l t < 1099511627776) = true := by simpa using hl2
                have hw : wrap64 (r + l t) = r + l t := Go.IntWalk.wrap64_in _ (by omega)
                by_cases hr : 4194304 < r + l t
                · have hr' : decide (4194304 < r + l t) = true := by simpa using hr
                  go_wp2_with fail
                  go_ret
                  exact ⟨rfl, bAlloc HST.out.bel _⟩
                · have hr' : decide (4194304 < r + l t) = false := by simpa using hr
                  go_wp2_with fail
                  refine (tell HST' (kd t) (.slice ap (P t).length cp) (s t) (o t) (l t) (i t) bb1 bb2 bb3 bb4 bb5 (by omega) (by omega) (by omega) _ _ e4 e5).mono ?_
                  rintro e w2 ⟨rfl, vl', cnt', nn', xs', G', M', Z', hS', hn', hR'⟩
                  have HS' : Hid (Sta w w2 b b2 bk (bk + 1) vl' cnt' nn' xs' G' M' Z' O A A2 A) := hS'
                  have HR' : Hid (InRow cnt' nn' xs' G') := hR' HROW.out
                  clear hS' hR' hk4 hk5
                  go_wp2_with fail
                  exact ⟨⟨t + 1, _, cnt', nn', G', M', Z', A, A2, vl', xs', by omega, rfl, by go_num, by omega, by omega, by omega, Nat.le_trans hA (sumP_mono P (by omega)), by omega, HR'.out, HS'.out⟩, by simp [intOf]; omega⟩
              · have hl2' : decide (l t < 1099511627776) = false := by simpa using hl2
                by_cases hr : 4194304 < r
                · have hr' : decide (4194304 < r) = true := by simpa using hr
                  go_wp2_with fail
                  go_ret
                  exact ⟨rfl, bAlloc HST.out.bel _⟩
                · have hr' : decide (4194304 < r) = false := by simpa using hr
                  go_wp2_with fail
                  refine (tell HST' (kd t) (.slice ap (P t).length cp) (s t) (o t) (l t) (i t) bb1 bb2 bb3 bb4 bb5 (by omega) (by omega) (by omega) _ _ e4 e5).mono ?_
                  rintro e w2 ⟨rfl, vl', cnt', nn', xs', G', M', Z', hS', hn', hR'⟩
                  have HS' : Hid (Sta w w2 b b2 bk (bk + 1) vl' cnt' nn' xs' G' M' Z' O A A2 A) := hS'
                  have HR' : Hid (InRow cnt' nn' xs' G') := hR' HROW.out
                  clear hS' hR' hk4 hk5
                  go_wp2_with fail
                  exact ⟨⟨t + 1, _, cnt', nn', G', M', Z', A, A2, vl', xs', by omega, rfl, by go_num, by omega, by omega, by omega, Nat.le_trans hA (sumP_mono P (by omega)), by omega, HR'.out, HS'.out⟩, by simp [intOf]; omega⟩
            · have hl1' : decide (0 < l t) = false := by simpa using hl1
              by_cases hr : 4194304 < r
              · have hr' : decide (4194304 < r) = true := by simpa using hr
                go_wp2_with fail
                go_ret
                exact ⟨rfl, bAlloc HST.out.bel _⟩
              · have hr' : decide (4194304 < r) = false := by simpa using hr
                go_wp2_with fail
                refine (tell HST' (kd t) (.slice ap (P t).length cp) (s t) (o t) (l t) (i t) bb1 bb2 bb3 bb4 bb5 (by omega) (by omega) (by omega) _ _ e4 e5).mono ?_
                rintro e w2 ⟨rfl, vl', cnt', nn', xs', G', M', Z', hS', hn', hR'⟩
                have HS' : Hid (Sta w w2 b b2 bk (bk + 1) vl' cnt' nn' xs' G' M' Z' O A A2 A) := hS'
                have HR' : Hid (InRow cnt' nn' xs' G') := hR' HROW.out
                clear hS' hR' hk4 hk5
                go_wp2_with fail
                exact ⟨⟨t + 1, _, cnt', nn', G', M', Z', A, A2, vl', xs', by omega, rfl, by go_num, by omega, by omega, by omega, Nat.le_trans hA (sumP_mono P (by omega)), by omega, HR'.out, HS'.out⟩, by simp [intOf]; omega⟩
        · obtain ⟨al, cl, rfl⟩ := own_shape HST.out.ls
          have hk5 : wr.cell? ⟨bk + 1, 0, none⟩ = some (.slice al nn cl) := by rw [HST.out.hl.cell]; rfl
          go_wp2_with fail
          obtain ⟨hc1, hc2⟩ := HROW.out
          subst hc1 hc2
          refine (apart_walk al cl nn (fun k => G (6 + k)) (fun k => M (6 + k)) (fun k => Z (6 + k)) w.heap.size wr (by omega) HST.out.nb HST.out.bel.size HST.out.ls HST.out.many).mono ?_
          rintro e w2 ⟨rfl, h1, h2, h3, h4, h5⟩
          have HS2 : Hid (Sta w w2 b b2 bk (bk + 1) (.slice al nn cl) 0 nn ((List.range nn).map (fun k => G (6 + k))) G M Z O A A2 A) := HST.out.apart h1 h2 h3 h4 h5
          have hsum := Nat.le_trans hA (sumP_mono P ht)
          clear h1 h2 h3 h4 h5 HST HROW hk5
          go_wp2_with fail
          obtain ⟨t', ht'⟩ : ∃ t' : Nat, t' = t := ⟨_, rfl⟩
          subst ht'
          go_loopw [145] (fun x wr => ∃ (t : Nat) (cnt nn : Nat) (G : Nat → Value) (M : Nat → Nat) (Z : Nat → List Value) (vl : Value) (xs : List Value), t ≤ n ∧ x = .int .i64 t ∧ nn ≤ 2 * n + 2 * t ∧ Sta w wr b b2 bk (bk + 1) vl cnt nn xs G M Z O A A2 A) (fun x _ => n - (intOf x).toNat)
          case atStart => exact ⟨0, _, _, _, _, _, _, _, Nat.zero_le _, rfl, by omega, HS2.out⟩
          case round =>
            obtain ⟨t, cnt, nn, G, M, Z, vl, xs, ht, rfl, hnn, hst⟩ := hrel
            have HST : Hid (Sta w wr b b2 bk (bk + 1) vl cnt nn xs G M Z O A A2 A) := hst
            clear hst HS2
            obtain ⟨a4, c4, e4⟩ := own_shape (by have := HST.out.own 4 (by omega); rw [HST.out.z4.1] at this; exact this)
            obtain ⟨a5, c5, e5⟩ := own_shape (by have := HST.out.own 5 (by omega); rw [HST.out.z5.1] at this; exact this)
            by_cases htn : t < n
            · obtain ⟨g, off, ap, cp, rfl, d0, d1, d2, d3, d4, d5, -⟩ := (hSw.out.keep HST.out.bel).step t htn
              have ht0 : (0 : Int) ≤ (t : Int) := by omega
              have ht1 : (t : Int) < (n : Int) := by omega
              obtain ⟨bb1, bb2, bb3, bb4, bb5⟩ := hB.out t htn
              have hk4 : ∀ x : Obj, (wr.alloc x).cell? ⟨bk, 0, none⟩ = some (.slice a4 O.length c4) := fun x => by rw [(HST.out.hk.alloc x).cell, ← e4]; rfl
              have hk5 : ∀ x : Obj, (wr.alloc x).cell? ⟨bk, 1, none⟩ = some (.slice a5 A.length c5) := fun x => by rw [(HST.out.hk.alloc x).cell, ← e5]; rfl
              by_cases hk : kd t = 0
              · rw [hk] at d0
                go_wp2_with fail
                exact ⟨⟨t + 1, _, _, _, _, _, _, _, by omega, by go_num, by omega, HST.out.below (bAlloc (Below.refl _ _) _)⟩, by simp [intOf]; omega⟩
              · have hkb : (kd t == 0) = false := by simpa using hk
                have HST' : Hid (Sta w (wr.alloc (.cells #[.int .i64 (kd t), .slice ap (P t).length cp, .int .i64 (s t), .int .i64 (o t), .int .i64 (l t), .int .i64 (i t)] 35)) b b2 bk (bk + 1) vl cnt nn xs G M Z O A A2 A) := HST.out.below (bAlloc (Below.refl _ _) _)
                go_wp2_with fail
                refine (tell HST' (kd t) (.slice ap (P t).length cp) (s t) (o t) (l t) (i t) bb1 bb2 bb3 bb4 bb5 (by omega) (by omega) (by omega) _ _ e4 e5).mono ?_
                rintro e w2 ⟨rfl, vl', cnt', nn', xs', G', M', Z', hS', hn', -⟩
                have HS' : Hid (Sta w w2 b b2 bk (bk + 1) vl' cnt' nn' xs' G' M' Z' O A A2 A) := hS'
                clear hS' hk4 hk5
                go_wp2_with fail
                exact ⟨⟨t + 1, cnt', nn', G', M', Z', vl', xs', by omega, by go_num, by omega, HS'.out⟩, by simp [intOf]; omega⟩
            · have HZ0 : Hid (∀ W, Below wr.heap.size wr W → Calls Try.prog 15 #[.pointer (some ⟨b, 0, none⟩), .int .i64 0] W fun e w' => e = .returned (.int .i64 (O.length : Int)) ∧ w' = W) := fun W hW => size_any (some ⟨b, 0, none⟩) 0 O A w.heap.size W (.inr ⟨_, _, _, rfl, (HST.out.below hW).buf⟩)
              have HZ1 : Hid (∀ W, Below wr.heap.size wr W → Calls Try.prog 15 #[.pointer (some ⟨b, 0, none⟩), .int .i64 1] W fun e w' => e = .returned (.int .i64 (A.length : Int)) ∧ w' = W) := fun W hW => size_any (some ⟨b, 0, none⟩) 1 O A w.heap.size W (.inr ⟨_, _, _, rfl, (HST.out.below hW).buf⟩)
              have hk5 : wr.cell? ⟨bk, 1, none⟩ = some (.slice a5 A.length c5) := by rw [HST.out.hk.cell, ← e5]; rfl
              go_wp2_with fail
              go_quiet (first | (go_at_call 15; exact Calls.quiet_of_same (HZ0.out _ (below_drewN _ _))) | (go_at_call 15; exact Calls.quiet_of_same (HZ1.out _ (below_drewN _ _))))
              go_wp2
              go_ret
              exact ⟨rfl, HST.out.bel.trans ((below_drewN _ _).mono HST.out.bel.size)⟩
end Go.Proofs.Ytfjfflkdcmpgnaa
