/- ObjectRuns, walked. -/
import Derived.Test.YtgdhdegmjljbfaaRpw
import Derived.Test.YtgdhdegmjljbfaaAwk
import Derived.Deep.CutRange
namespace Go.Proofs.Ytgdhdegmjljbfaa
open Go.RowKit
/-- the key of a word, as a byte -/
def kb (big : Bool) : UInt8 := if big then 87 else 119
set_option maxRecDepth 8000 in
set_option maxHeartbeats 40000000 in
theorem objectRuns_at (big : Bool) (k0 : UInt8) (hk0 : kb big = k0) (w : World) (ao : Option Addr) (n c : Nat) (l : List UInt8) (i : Int) (hn : n ≤ 4398046511103) (hi1 : -9223372036854775808 ≤ i) (hi2 : i ≤ 9223372036854775807) (HT : Hid (Tx w ao n c l)) :
    Calls Try.prog 6 #[.slice ao n c, .int .i64 i, .bool big] w fun e w' => e = .returned (.bool true) ∧ Below w.heap.size w w' := by
  have hlen := HT.out.len
  have hcap := HT.out.cap
  have hw0 : IntKind.i64.wrap ((n : Int) + 1) = ((n + 1 : Nat) : Int) := by rw [IntKind.wrap_i64]; omega
  have hky : ky 105 k0 = true := by subst hk0; cases big <;> decide
  have hks : isS (k0.toNat : Int) := by subst hk0; cases big; exact .inl rfl; exact .inr (.inl rfl)
  have hkw : (k0.toNat : Int) = kw big := by subst hk0; cases big <;> rfl
  have CS := Hid.mk' (fun W (hb : Below w.heap.size w W) q cnt (hq : q ≤ n) (h1 : 1 ≤ cnt) (h2 : cnt ≤ 9999) => select_yes ao n c q cnt 105 k0 false l W hn hq h1 h2 hky (by decide) hks (HT.out.keep hb))
  have CP := Hid.mk' (fun W (hb : Below w.heap.size w W) q (hq : q ≤ n) => select_yes ao n c q 1 105 112 false l W hn hq (by omega) (by omega) (by decide) (by decide) (.inr (.inr (.inl rfl))) (HT.out.keep hb))
  have hkp : (((112 : UInt8).toNat : Nat) : Int) = 112 := rfl
  rw [hkw] at CS
  rw [hkp] at CP
  have HRD : Hid (∀ W, Below w.heap.size w W → ∀ x, x < n → ∃ gt ot, ao = some ⟨gt, ot, none⟩ ∧ W.cell? ⟨gt, ot + x, none⟩ = some (.int .u8 (bi l x)) ∧ gt < W.heap.size) := fun W hW x hx => by
    obtain ⟨gt, ot, e, hc⟩ := (HT.out.keep hW).at (by omega)
    have := hc x hx
    exact ⟨gt, ot, e, this, lt_of_cell this⟩
  have HRW := Hid.mk' (fun P (hP : P ≤ l.length) => runs_w l P big hP)
  have HRP := Hid.mk' (fun P (hP : P ≤ l.length) => runs_p l P hP)
  have COF := Hid.mk' (fun b W => of_any b big W)
  clear hky hks hkw hkp
  have hkk : (big = true ∧ k0 = 87) ∨ (big = false ∧ k0 = 119) := by subst hk0; cases big; exact .inr ⟨rfl, rfl⟩; exact .inl ⟨rfl, rfl⟩
  clear hk0
  go_enter Try.func6, Try.ntmps6
  go_wp2_with fail
  refine (awake_any w).mono ?_
  rintro e w1 ⟨rfl, hb1⟩
  have B1 := Hid.mk' hb1
  clear hb1
  go_wp2_with fail
  refine (place_any i (n + 1) w1 hi1 hi2 (by omega) (by omega)).mono ?_
  rintro e w2 ⟨⟨P, hP, rfl⟩, hw⟩
  have hq := hw.symm
  subst hq
  clear hw
  have hPn : P ≤ n := by omega
  have HW1 := Hid.mk' (HRW.out P (by omega))
  obtain ⟨F9, T9, hS9, hp1, hp2, hp3, hp4⟩ := HRP.out P (by omega)
  have HP4 := Hid.mk' hp4
  have S9 : Hid (sel l P 1 112 false = tg (F9 : Int) (T9 : Int) 3 0) := by unfold Hid; rw [sel_s4, hS9]
  clear HRW HRP hp4 hS9
  have SEL : Hid (∀ q cnt, sel l q cnt (kw big) false = tg (s4 l q cnt (kw big) false).1 (s4 l q cnt (kw big) false).2.1 (s4 l q cnt (kw big) false).2.2.1 (s4 l q cnt (kw big) false).2.2.2) := fun q cnt => sel_s4 _ _ _ _ _
  generalize kw big = kk at *
  go_upto_if 28 with fail
  go_cut [8] from 23 to 28 (fun x8 wx => x8 = .string ⟨#[105, k0]⟩ ∧ w1 = wx)
  case first =>
    rcases hkk with ⟨rfl, rfl⟩ | ⟨rfl, rfl⟩
    · go_wp2_with fail
      go_meet
      exact ⟨rfl, rfl⟩
    · go_wp2_with fail
      go_meet
      exact ⟨rfl, rfl⟩
  case rest =>
  obtain ⟨rfl, rfl⟩ := hcut
  clear hkk
  obtain ⟨⟨gF, gT, gK, ge⟩, HG4⟩ : ∃ x, Hid (s4 l P 1 kk false = x) := ⟨_, rfl⟩
  have S1 : Hid (sel l P 1 kk false = tg gF gT gK ge) := by unfold Hid; rw [SEL.out, HG4.out]
  go_wp2_with fail
  refine (CS.out _ B1.out P 1 hPn (by omega) (by omega)).mono ?_
  rintro e w3 ⟨he, hb3⟩
  rw [S1.out] at he
  unfold tg at he
  subst he
  have B3 := Hid.mk' (bT B1.out hb3)
  clear hb3
  have B4 := Hid.mk' (bAlloc B3.out (.cells #[.int .i64 gF, .int .i64 gT, .int .i64 gK] 29))
  have P0 : (0 : Int) ≤ (P : Int) := by omega
  go_upto_region 8 with fail
  go_cut [49] from 29 to 49 (fun x49 wx => x49 = .bool false ∧ w3.alloc (.cells #[.int .i64 gF, .int .i64 gT, .int .i64 gK] 29) = wx)
  case first =>
    rcases HW1.out with ⟨hA1, hA2⟩ | ⟨hB1, hB2, F, T, hB3, _⟩
    · rw [HG4.out] at hA1
      injection hA1 with x1 x2
      injection x2 with x2 x3
      injection x3 with x3 x4
      subst x1 x2 x3 x4
      rcases hA2 with h | ⟨h, h2⟩
      · have hAB : ((P : Int) == (n : Int)) = true := by simp; omega
        go_wp2_with fail
        go_meet
        exact ⟨rfl, rfl⟩
      · have hAB : ((P : Int) == (n : Int)) = false := by simp; omega
        have hAB2 : (P : Int) < (n : Int) := by omega
        obtain ⟨gt0, ot0, et0, ct0, lt0⟩ := HRD.out _ B3.out P (by omega)
        subst et0
        rw [h2] at ct0
        go_wp2_with fail
        go_meet
        exact ⟨rfl, rfl⟩
    · rw [HG4.out] at hB3
      injection hB3 with x1 x2
      injection x2 with x2 x3
      injection x3 with x3 x4
      subst x1 x2 x3 x4
      have hAB : ((P : Int) == (n : Int)) = false := by simp; omega
      have hAB2 : (P : Int) < (n : Int) := by omega
      have hAB3 : (bi l P == 10) = false := by simpa using hB2
      obtain ⟨gt0, ot0, et0, ct0, lt0⟩ := HRD.out _ B3.out P (by omega)
      subst et0
      generalize bi l P = bP at *
      go_wp2_with fail
      go_meet
      exact ⟨rfl, rfl⟩
  case rest =>
  obtain ⟨rfl, rfl⟩ := hcut
  go_upto_if 51 with fail
  go_cut [10] from 29 to 191 (fun _ wx => Hid (Below w.heap.size w wx))
  case first =>
    rcases HW1.out with ⟨hA1, hA2⟩ | ⟨hB1, hB2, F, T, hB3, hB4, hB5, hB6, hB7, hB8, hB9, hB10⟩
    · rw [HG4.out] at hA1
      injection hA1 with x1 x2
      injection x2 with x2 x3
      injection x3 with x3 x4
      subst x1 x2 x3 x4
      go_wp2_with fail
      go_meet
      exact B4.out
    · rw [HG4.out] at hB3
      injection hB3 with x1 x2
      injection x2 with x2 x3
      injection x3 with x3 x4
      subst x1 x2 x3 x4
      have HB7 := Hid.mk' hB7
      have HB8 := Hid.mk' hB8
      have HB9 := Hid.mk' hB9
      have HB10 := Hid.mk' hB10
      clear hB7 hB8 hB9 hB10 HW1 HG4 S1
      obtain ⟨gt0, ot0, et0, ct0, lt0⟩ := HRD.out _ B3.out P (by omega)
      subst et0
      have hPn2 : (P : Int) < (n : Int) := by omega
      obtain ⟨k9, Hk9⟩ : ∃ k9, Hid (kd (bi l P) big = k9) := ⟨_, rfl⟩
      have CK := Hid.mk' (COF.out (bi l P))
      rw [Hk9.out] at CK HB7 HB8 HB9
      have hc1 : (F : Int) ≤ (P : Int) := by omega
      have hc2 : (P : Int) < (T : Int) := by omega
      have hc3 : (0 : Int) ≤ (F : Int) := by omega
      have hc4 : (T : Int) ≤ (n : Int) := by omega
      have hc5 : (F : Int) ≤ (T : Int) := by omega
      have hc6 : (T : Int) ≤ (c : Int) := by omega
      have hc7 : ¬ c = F := by omega
      have d1 : decide (P < F) = false := decide_eq_false (by omega)
      have d2 : decide (T ≤ P) = false := decide_eq_false (by omega)
      have d3 : decide ((F : Int) < 0) = false := decide_eq_false (by omega)
      have d4 : decide (n < T) = false := decide_eq_false (by omega)
      have KG := Hid.mk' (Blk.new w3 29 #[.int .i64 (F : Int), .int .i64 (T : Int), .int .i64 1])
      go_wp2_with (go_at_call 15; refine (CK.out _).mono ?_; rintro e w' ⟨rfl, hw⟩; have hq := hw.symm; subst hq; clear hw)
      go_loopg [13, 87] (T - F) (fun g x13 x87 wx => ∃ x : Nat, x87 = .int .i64 (x : Int) ∧ x + g = T - F ∧ w3.alloc (.cells #[.int .i64 (F : Int), .int .i64 (T : Int), .int .i64 1] 29) = wx)
      case atStart => exact ⟨0, rfl, by omega, rfl⟩
      case round =>
        obtain ⟨x, rfl, hx, rfl⟩ := hrel
        cases gk with
        | succ g =>
          have y1 : (x : Int) < ((T - F : Nat) : Int) := by omega
          have y0 : (0 : Int) ≤ (x : Int) := by omega
          obtain ⟨gt2, ot2, et2, ct2, lt2⟩ := HRD.out _ B3.out (F + x) (by omega)
          cases et2
          rw [← Nat.add_assoc] at ct2
          have CX := Hid.mk' (COF.out (bi l (F + x)))
          rw [HB7.out (F + x) (by omega) (by omega)] at CX
          generalize bi l (F + x) = bX at *
          have y2 : (k9 != k9) = false := by simp
          have yw : IntKind.i64.wrap ((x : Int) + 1) = ((x + 1 : Nat) : Int) := by rw [IntKind.wrap_i64]; omega
          go_wp2_with (go_at_call 15; refine (CX.out _).mono ?_; rintro e w' ⟨rfl, hw⟩; have hq := hw.symm; subst hq; clear hw)
          go_roundg g
          case measure => omega
          case rel => exact ⟨x + 1, rfl, by omega, rfl⟩
        | zero =>
          have y1 : ¬ ((x : Int) < ((T - F : Nat) : Int)) := by omega
          go_upto_region 20 with fail
          go_cut [129] from 88 to 129 (fun x129 wx => x129 = .bool false ∧ w3.alloc (.cells #[.int .i64 (F : Int), .int .i64 (T : Int), .int .i64 1] 29) = wx)
          case first =>
            have hwF : IntKind.i64.wrap ((F : Int) - 1) = ((F - 1 : Nat) : Int) ∨ F = 0 := by
              rcases Nat.eq_zero_or_pos F with h | h
              · exact .inr h
              · left; rw [IntKind.wrap_i64]; omega
            have HLO : Hid ((F = 0) ∨ ∃ D : Nat, (0 : Int) < (F : Int) ∧ IntKind.i64.wrap ((F : Int) - 1) = (D : Int) ∧ (0 : Int) ≤ (D : Int) ∧ (D : Int) < (n : Int) ∧ D < n ∧ (kd (bi l D) big == k9) = false) := by
              rcases Nat.eq_zero_or_pos F with h | h
              · exact .inl h
              · right; exact ⟨F - 1, by omega, by rw [IntKind.wrap_i64]; omega, by omega, by omega, by omega, by simpa using HB8.out h⟩
            have HHI : Hid (¬ ((T : Int) < (n : Int)) ∨ ((T : Int) < (n : Int) ∧ (0 : Int) ≤ (T : Int) ∧ T < n ∧ (kd (bi l T) big == k9) = false)) := by
              rcases Nat.lt_or_ge T n with h | h
              · right; exact ⟨by omega, by omega, h, by simpa using HB9.out (by omega)⟩
              · exact .inl (by omega)
            clear hwF
            rcases HLO.out with l1 | ⟨D, l1, l2, l3, l4, l5, l6⟩
            · subst l1
              rcases HHI.out with h1 | ⟨h1, h2, h3, h4⟩
              · go_wp2_with fail
                go_meet
                exact ⟨rfl, rfl⟩
              · obtain ⟨gt4, ot4, et4, ct4, lt4⟩ := HRD.out _ B3.out T h3
                cases et4
                have CT := Hid.mk' (COF.out (bi l T))
                generalize kd (bi l T) big = kT at *
                go_wp2_with (go_at_call 15; refine (CT.out _).mono ?_; rintro e w' ⟨rfl, hw⟩; have hq := hw.symm; subst hq; clear hw)
                go_meet
                exact ⟨rfl, rfl⟩
            · obtain ⟨gt3, ot3, et3, ct3, lt3⟩ := HRD.out _ B3.out D l5
              cases et3
              have CD := Hid.mk' (COF.out (bi l D))
              generalize kd (bi l D) big = kD at *
              rcases HHI.out with h1 | ⟨h1, h2, h3, h4⟩
              · go_wp2_with (go_at_call 15; refine (CD.out _).mono ?_; rintro e w' ⟨rfl, hw⟩; have hq := hw.symm; subst hq; clear hw)
                go_meet
                exact ⟨rfl, rfl⟩
              · obtain ⟨gt4, ot4, et4, ct4, lt4⟩ := HRD.out _ B3.out T h3
                cases et4
                have CT := Hid.mk' (COF.out (bi l T))
                generalize kd (bi l T) big = kT at *
                generalize bi l T = bTT at *
                generalize bi l D = bDD at *
                go_wp2_with (first | (go_at_call 15; with_reducible (refine (CD.out _).mono ?_); rintro e w' ⟨rfl, hw⟩; have hq := hw.symm; subst hq; clear hw) | (go_at_call 15; with_reducible (refine (CT.out _).mono ?_); rintro e w' ⟨rfl, hw⟩; have hq := hw.symm; subst hq; clear hw))
                go_meet
                exact ⟨rfl, rfl⟩
          case rest =>
          obtain ⟨rfl, rfl⟩ := hcut
          obtain ⟨⟨aF, aT, aK, ae⟩, HA4⟩ : ∃ x, Hid (s4 l P 2 kk false = x) := ⟨_, rfl⟩
          have S2 : Hid (sel l P 2 kk false = tg aF aT aK ae) := by unfold Hid; rw [SEL.out, HA4.out]
          go_wp2_with fail
          refine (CS.out _ B4.out P 2 hPn (by omega) (by omega)).mono ?_
          rintro e w5 ⟨he, hb5⟩
          rw [S2.out] at he
          unfold tg at he
          subst he
          have B5 := Hid.mk' (bT B4.out hb5)
          have KG5 := Hid.mk' (KG.out.keep hb5)
          have g0 : w5.cell? ⟨w3.heap.size, 0, none⟩ = some (.int .i64 (F : Int)) := KG5.out.cell (j := 0) rfl
          have g1 : w5.cell? ⟨w3.heap.size, 1, none⟩ = some (.int .i64 (T : Int)) := KG5.out.cell (j := 1) rfl
          have gz : w3.heap.size < w5.heap.size := KG5.out.lt
          have B6 := Hid.mk' (bAlloc B5.out (.cells #[.int .i64 aF, .int .i64 aT, .int .i64 aK] 29))
          have KG6 := Hid.mk' (KG5.out.keep (bAlloc (Below.refl _ w5) (.cells #[.int .i64 aF, .int .i64 aT, .int .i64 aK] 29)))
          have KA6 := Hid.mk' (Blk.new w5 29 #[.int .i64 aF, .int .i64 aT, .int .i64 aK])
          clear hb5
          have T0 : (0 : Int) ≤ (T : Int) := by omega
          rcases HB10.out with ⟨hT1, hT2⟩ | ⟨hT1, hT2, T2, hT3, hT4⟩
          · rw [HA4.out] at hT2
            injection hT2 with x1 x2
            injection x2 with x2 x3
            injection x3 with x3 x4
            subst x1 x2 x3 x4
            rcases hT1 with h | ⟨h, h2⟩
            · have hAB : ((T : Int) == (n : Int)) = true := by simp; omega
              go_wp2
              all_goals go_ret
              all_goals exact ⟨rfl, B6.out⟩
            · have hAB : ((T : Int) == (n : Int)) = false := by simp; omega
              have hAB2 : (T : Int) < (n : Int) := by omega
              obtain ⟨gt5, ot5, et5, ct5, lt5⟩ := HRD.out _ B5.out T (by omega)
              cases et5
              rw [h2] at ct5
              go_wp2
              all_goals go_ret
              all_goals exact ⟨rfl, B6.out⟩
          · rw [HA4.out] at hT3
            injection hT3 with x1 x2
            injection x2 with x2 x3
            injection x3 with x3 x4
            subst x1 x2 x3 x4
            have S3 : Hid (sel l T 1 kk false = tg (T : Int) (T2 : Int) 1 0) := by unfold Hid; rw [SEL.out, hT4]
            have hAB : ((T : Int) == (n : Int)) = false := by simp; omega
            have hAB2 : (T : Int) < (n : Int) := by omega
            have hAB3 : (bi l T == 10) = false := by simpa using hT2
            obtain ⟨gt5, ot5, et5, ct5, lt5⟩ := HRD.out _ B5.out T (by omega)
            cases et5
            generalize bi l T = bTT at *
            go_wp2_with fail
            refine (CS.out _ B6.out T 1 (by omega) (by omega) (by omega)).mono ?_
            rintro e w6 ⟨he, hb6⟩
            rw [S3.out] at he
            unfold tg at he
            subst he
            have B7 := Hid.mk' (bT B6.out hb6)
            have KG7 := Hid.mk' (KG6.out.keep hb6)
            have KA7 := Hid.mk' (KA6.out.keep hb6)
            have e0 : w6.cell? ⟨w3.heap.size, 0, none⟩ = some (.int .i64 (F : Int)) := KG7.out.cell (j := 0) rfl
            have e1 : w6.cell? ⟨w3.heap.size, 1, none⟩ = some (.int .i64 (T : Int)) := KG7.out.cell (j := 1) rfl
            have e2 : w6.cell? ⟨w5.heap.size, 0, none⟩ = some (.int .i64 (F : Int)) := KA7.out.cell (j := 0) rfl
            have e3 : w6.cell? ⟨w5.heap.size, 1, none⟩ = some (.int .i64 (T2 : Int)) := KA7.out.cell (j := 1) rfl
            have ez : w3.heap.size < w6.heap.size := KG7.out.lt
            have ez2 : w5.heap.size < w6.heap.size := KA7.out.lt
            have B8 := Hid.mk' (bAlloc B7.out (.cells #[.int .i64 (T : Int), .int .i64 (T2 : Int), .int .i64 1] 29))
            clear hb6 g0 g1 gz ct5 lt5
            go_wp2_with fail
            go_meet
            exact B8.out
  case rest =>
  have BC := Hid.mk' hcut.out
  clear hcut HW1 CS SEL COF HG4 S1 B3 B4
  go_wp2_with fail
  refine (CP.out _ BC.out P hPn).mono ?_
  rintro e w7 ⟨he, hb7⟩
  rw [S9.out] at he
  unfold tg at he
  subst he
  have B7 := Hid.mk' (bT BC.out hb7)
  clear hb7
  have B8 := Hid.mk' (bAlloc B7.out (.cells #[.int .i64 (F9 : Int), .int .i64 (T9 : Int), .int .i64 3] 29))
  have q1 : (F9 : Int) ≤ (P : Int) := by omega
  have q2 : (0 : Int) ≤ (T9 : Int) := by omega
  have q3 : (T9 : Int) ≤ (n : Int) := by omega
  have q4 : (0 : Int) ≤ (F9 : Int) := by omega
  obtain ⟨EE, HEE⟩ : ∃ E, Hid (em l F9 = E) := ⟨_, rfl⟩
  have HF9 : Hid ((((F9 : Int) == (n : Int)) = true ∧ EE = true) ∨ (((F9 : Int) == (n : Int)) = false ∧ (F9 : Int) < (n : Int) ∧ F9 < n ∧ (bi l F9 == 10) = EE)) := by
    unfold Hid
    have h := HEE.out
    unfold em at h
    rcases Nat.lt_or_ge F9 n with h1 | h1
    · right
      rw [decide_eq_false (by omega)] at h
      exact ⟨by simp; omega, by omega, h1, by simpa using h⟩
    · left
      rw [decide_eq_true (by omega)] at h
      exact ⟨by simp; omega, by simpa using h.symm⟩
  have LOOPX : Hid (∀ x, F9 ≤ x → x ≤ T9 → (x = 0 ∨ bi l (x - 1) = 10) → em l x = EE) := by unfold Hid; rw [← HEE.out]; exact HP4.out
  rcases HF9.out with ⟨z1, rfl⟩ | ⟨z1, z2, z3, z4⟩
  · clear HF9
    go_wp2_with fail
    go_loopg [20] (T9 + 1 - F9) (fun g x20 wx => ∃ x : Nat, x20 = .int .i64 (x : Int) ∧ x + g = T9 + 1 ∧ F9 ≤ x ∧ w7.alloc (.cells #[.int .i64 (F9 : Int), .int .i64 (T9 : Int), .int .i64 3] 29) = wx)
    case atStart => exact ⟨F9, rfl, by omega, Nat.le_refl _, rfl⟩
    case round =>
      obtain ⟨x, rfl, hx, hx1, rfl⟩ := hrel
      cases gk with
      | zero =>
        have y1 : ¬ ((x : Int) ≤ (T9 : Int)) := by omega
        go_wp2
        go_ret
        exact ⟨rfl, B8.out⟩
      | succ g =>
        have y1 : (x : Int) ≤ (T9 : Int) := by omega
        have yw : IntKind.i64.wrap ((x : Int) + 1) = ((x + 1 : Nat) : Int) := by rw [IntKind.wrap_i64]; omega
        have HST : Hid ((((x : Int) == 0) = true) ∨ (((x : Int) == 0) = false ∧ ∃ D : Nat, x - 1 = D ∧ IntKind.i64.wrap ((x : Int) - 1) = (D : Int) ∧ (0 : Int) ≤ (D : Int) ∧ (D : Int) < (n : Int) ∧ D < n)) := by
          unfold Hid
          rcases Nat.eq_zero_or_pos x with h | h
          · left; simp [h]
          · right; exact ⟨by simp; omega, x - 1, rfl, by rw [IntKind.wrap_i64]; omega, by omega, by omega, by omega⟩
        have HEN : Hid ((x = 0 ∨ bi l (x - 1) = 10) → (((x : Int) == (n : Int)) = true ∧ true = true) ∨ (((x : Int) == (n : Int)) = false ∧ (x : Int) < (n : Int) ∧ x < n ∧ (bi l x == 10) = true)) := fun hs => by
          have h := LOOPX.out x hx1 (by omega) hs
          unfold em at h
          rcases Nat.lt_or_ge x n with h1 | h1
          · right
            rw [decide_eq_false (by omega)] at h
            exact ⟨by simp; omega, by omega, h1, by simpa using h⟩
          · left
            exact ⟨by simp; omega, rfl⟩
        have x0 : (0 : Int) ≤ (x : Int) := by omega
        rcases HST.out with s1 | ⟨s1, D, hD, s2, s3, s4', s5⟩
        · have hstart := HEN.out (.inl (by simpa using s1))
          clear HST HEN
          rcases hstart with ⟨t1, t2⟩ | ⟨t1, t2, t3, t4⟩
          · first | (subst t2) | (clear t2)
            go_wp2
            go_roundg g
            case measure => omega
            case rel => exact ⟨x + 1, rfl, by omega, by omega, rfl⟩
          · obtain ⟨gt2, ot2, et2, ct2, lt2⟩ := HRD.out _ B7.out x t3
            first | subst et2 | cases et2
            have t5 : (true != true) = false := by simp
            go_wp2
            go_roundg g
            case measure => omega
            case rel => exact ⟨x + 1, rfl, by omega, by omega, rfl⟩
        · obtain ⟨gt3, ot3, et3, ct3, lt3⟩ := HRD.out _ B7.out D s5
          first | subst et3 | cases et3
          cases hbD : (bi l D == 10) with
          | false =>
            clear HST HEN hD
            generalize bi l D = bD at *
            go_wp2
            go_roundg g
            case measure => omega
            case rel => exact ⟨x + 1, rfl, by omega, by omega, rfl⟩
          | true =>
            have hstart := HEN.out (.inr (by rw [hD]; simpa using hbD))
            clear HST HEN hD
            rcases hstart with ⟨t1, t2⟩ | ⟨t1, t2, t3, t4⟩
            · first | (subst t2) | (clear t2)
              generalize bi l D = bD at *
              go_wp2
              go_roundg g
              case measure => omega
              case rel => exact ⟨x + 1, rfl, by omega, by omega, rfl⟩
            · obtain ⟨gt4, ot4, et4, ct4, lt4⟩ := HRD.out _ B7.out x t3
              cases et4
              have t5 : (true != true) = false := by simp
              go_wp2
              go_roundg g
              case measure => omega
              case rel => exact ⟨x + 1, rfl, by omega, by omega, rfl⟩
  · clear HF9
    obtain ⟨gt, ot, et, ct, lt⟩ := HRD.out _ B7.out F9 z3
    first | subst et | cases et
    go_wp2_with fail
    go_loopg [20] (T9 + 1 - F9) (fun g x20 wx => ∃ x : Nat, x20 = .int .i64 (x : Int) ∧ x + g = T9 + 1 ∧ F9 ≤ x ∧ w7.alloc (.cells #[.int .i64 (F9 : Int), .int .i64 (T9 : Int), .int .i64 3] 29) = wx)
    case atStart => exact ⟨F9, rfl, by omega, Nat.le_refl _, rfl⟩
    case round =>
      obtain ⟨x, rfl, hx, hx1, rfl⟩ := hrel
      cases gk with
      | zero =>
        have y1 : ¬ ((x : Int) ≤ (T9 : Int)) := by omega
        go_wp2
        go_ret
        exact ⟨rfl, B8.out⟩
      | succ g =>
        have y1 : (x : Int) ≤ (T9 : Int) := by omega
        have yw : IntKind.i64.wrap ((x : Int) + 1) = ((x + 1 : Nat) : Int) := by rw [IntKind.wrap_i64]; omega
        have HST : Hid ((((x : Int) == 0) = true) ∨ (((x : Int) == 0) = false ∧ ∃ D : Nat, x - 1 = D ∧ IntKind.i64.wrap ((x : Int) - 1) = (D : Int) ∧ (0 : Int) ≤ (D : Int) ∧ (D : Int) < (n : Int) ∧ D < n)) := by
          unfold Hid
          rcases Nat.eq_zero_or_pos x with h | h
          · left; simp [h]
          · right; exact ⟨by simp; omega, x - 1, rfl, by rw [IntKind.wrap_i64]; omega, by omega, by omega, by omega⟩
        have HEN : Hid ((x = 0 ∨ bi l (x - 1) = 10) → (((x : Int) == (n : Int)) = true ∧ EE = true) ∨ (((x : Int) == (n : Int)) = false ∧ (x : Int) < (n : Int) ∧ x < n ∧ (bi l x == 10) = EE)) := fun hs => by
          have h := LOOPX.out x hx1 (by omega) hs
          unfold em at h
          rcases Nat.lt_or_ge x n with h1 | h1
          · right
            rw [decide_eq_false (by omega)] at h
            exact ⟨by simp; omega, by omega, h1, by simpa using h⟩
          · left
            rw [decide_eq_true (by omega)] at h
            exact ⟨by simp; omega, by simpa using h.symm⟩
        have x0 : (0 : Int) ≤ (x : Int) := by omega
        rcases HST.out with s1 | ⟨s1, D, hD, s2, s3, s4', s5⟩
        · have hstart := HEN.out (.inl (by simpa using s1))
          clear HST HEN
          rcases hstart with ⟨t1, t2⟩ | ⟨t1, t2, t3, t4⟩
          · first | (subst t2) | (clear t2)
            go_wp2
            go_roundg g
            case measure => omega
            case rel => exact ⟨x + 1, rfl, by omega, by omega, rfl⟩
          · obtain ⟨gt2, ot2, et2, ct2, lt2⟩ := HRD.out _ B7.out x t3
            first | subst et2 | cases et2
            have t5 : (EE != EE) = false := by simp
            go_wp2
            go_roundg g
            case measure => omega
            case rel => exact ⟨x + 1, rfl, by omega, by omega, rfl⟩
        · obtain ⟨gt3, ot3, et3, ct3, lt3⟩ := HRD.out _ B7.out D s5
          first | subst et3 | cases et3
          cases hbD : (bi l D == 10) with
          | false =>
            clear HST HEN hD
            generalize bi l D = bD at *
            go_wp2
            go_roundg g
            case measure => omega
            case rel => exact ⟨x + 1, rfl, by omega, by omega, rfl⟩
          | true =>
            have hstart := HEN.out (.inr (by rw [hD]; simpa using hbD))
            clear HST HEN hD
            rcases hstart with ⟨t1, t2⟩ | ⟨t1, t2, t3, t4⟩
            · first | (subst t2) | (clear t2)
              generalize bi l D = bD at *
              go_wp2
              go_roundg g
              case measure => omega
              case rel => exact ⟨x + 1, rfl, by omega, by omega, rfl⟩
            · obtain ⟨gt4, ot4, et4, ct4, lt4⟩ := HRD.out _ B7.out x t3
              cases et4
              have t5 : (EE != EE) = false := by simp
              go_wp2
              go_roundg g
              case measure => omega
              case rel => exact ⟨x + 1, rfl, by omega, by omega, rfl⟩
theorem objectRuns_walk (w : World) (ao : Option Addr) (n c : Nat) (l : List UInt8) (i : Int) (big : Bool) (hn : n ≤ 4398046511103) (hi1 : -9223372036854775808 ≤ i) (hi2 : i ≤ 9223372036854775807) (HT : Hid (Tx w ao n c l)) :
    Calls Try.prog 6 #[.slice ao n c, .int .i64 i, .bool big] w fun e w' => e = .returned (.bool true) ∧ Below w.heap.size w w' := objectRuns_at big _ rfl w ao n c l i hn hi1 hi2 HT
end Go.Proofs.Ytgdhdegmjljbfaa
