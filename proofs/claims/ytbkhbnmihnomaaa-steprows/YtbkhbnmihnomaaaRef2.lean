/- The contracts of quoinref05.Of, begin, Column, First, At and Rest. -/
import Derived.Test.YtbkhbnmihnomaaaRef
namespace Go.Proofs.Ytbkhbnmihnomaaa
open Go.RowKit

theorem pl_no {l : List UInt8} {n : Nat} {i : Int} (hl : l.length = n) (h : plB l i = false) : i < 0 ∨ (n : Int) < i := by
  have h := of_decide_eq_false h
  omega

set_option maxHeartbeats 1000000 in
theorem refOf_any (ao : Option Addr) (n c : Nat) (i : Int) (l : List UInt8) (w : World) (HT : Hid (Tx w ao n c l)) :
    Calls Try.prog 21 #[.slice ao n c, .int .i64 i] w fun e w' => e = pr (aOf l i) ∧ w' = w := by
  have hlen := HT.out.len
  have hbig : (n : Int) ≤ 140737488355328 := by have := HT.out.big; omega
  cases hb : plB l i with
  | true =>
    obtain ⟨k, rfl, hk⟩ := pl_yes hb
    have HA : Hid (pr (aOf l (k : Int)) = .returned (.tuple #[.int .i64 (nl (l.take k)), .int .i64 0])) := by unfold Hid pr aOf ans; rw [hb]; rfl
    have hkn : k ≤ n := by omega
    have hk0 : ¬ (k : Int) < 0 := by omega
    have hk1 : ¬ (k : Int) > (n : Int) := by omega
    have hcap := HT.out.cap
    have hq : (nl (l.take k) : Int) ≤ k := by have h1 := nl_le (l.take k); have h2 : (l.take k).length ≤ k := List.length_take_le _ _; omega
    have hq0 : (0 : Int) ≤ (nl (l.take k) : Int) := by omega
    clear hb hlen
    cases ao with
    | none =>
      obtain ⟨rfl, rfl, rfl⟩ := HT.out.none
      obtain rfl : k = 0 := by omega
      have hz : nl [] = 0 := rfl
      go_enter Try.func21, Try.ntmps21
      go_wp2_with (go_at_call 22; refine (refCount_any _ _ _ [] _ (tx_nil _)).mono ?_; rintro e w2 ⟨rfl, hw⟩; subst hw)
      go_ret2
      exact ⟨by rw [HA.out]; rfl, rfl⟩
    | some a =>
      go_enter Try.func21, Try.ntmps21
      go_wp2_with (go_at_call 22; refine (refCount_any _ _ _ (l.take k) _ (HT.out.head hkn)).mono ?_; rintro e w2 ⟨rfl, hw⟩; subst hw)
      go_ret2
      exact ⟨by rw [HA.out]; rfl, rfl⟩
  | false =>
    have hno := pl_no hlen hb
    have HA : Hid (pr (aOf l i) = .returned (.tuple #[.int .i64 0, .int .i64 2])) := by unfold Hid pr aOf ans; rw [hb]; rfl
    clear hb
    by_cases h0 : i < 0
    · go_enter Try.func21, Try.ntmps21
      go_wp2
      go_ret2
      exact ⟨by rw [HA.out]; rfl, rfl⟩
    · have h1 : (n : Int) < i := by omega
      clear hno
      go_enter Try.func21, Try.ntmps21
      go_wp2
      go_ret2
      exact ⟨by rw [HA.out]; rfl, rfl⟩

set_option maxHeartbeats 1000000 in
theorem begin_any (ao : Option Addr) (n c k : Nat) (l : List UInt8) (w : World) (hk : k ≤ n) (HT : Hid (Tx w ao n c l)) :
    Calls Try.prog 53 #[.slice ao n c, .int .i64 k] w fun e w' => e = .returned (.int .i64 (bg l k)) ∧ w' = w := by
  have hbig : (n : Int) ≤ 140737488355328 := by have := HT.out.big; omega
  go_enter Try.func53, Try.ntmps53
  go_wp2_with fail
  go_loopw [1] (fun u wr => ∃ j : Nat, u = .int .i64 (j : Int) ∧ j ≤ n ∧ bg l k = bg l j ∧ wr = w) (fun u _ => (intOf u).toNat)
  case atStart => exact ⟨k, rfl, hk, rfl, rfl⟩
  case round =>
    obtain ⟨j, rfl, hj, hbg, rfl⟩ := hrel
    have HG : Hid (bg l k = bg l j) := hbg
    clear hbg
    by_cases hz : j = 0
    · subst hz
      go_wp2
      go_ret
      exact ⟨by rw [HG.out]; rfl, rfl⟩
    · obtain ⟨g, o, rfl, hc⟩ := HT.out.at (by omega)
      have hc0 := hc (j - 1) (by omega)
      have hi0 : (1 : Int) ≤ (j : Int) := by omega
      have hi1 : (0 : Int) < (j : Int) := by omega
      have hin : (j : Int) - 1 < (n : Int) := by omega
      clear hc
      cases h10 : (((at8 l (j - 1)).toNat : Int) == 10) with
      | true =>
        have hne : (((at8 l (j - 1)).toNat : Int) != 10) = false := by simp only [bne, h10]; rfl
        have HB : Hid (bg l j = j) := bg_yes (by omega) h10
        go_wp2
        go_ret
        exact ⟨by rw [HG.out, HB.out]; rfl, rfl⟩
      | false =>
        have hne : (((at8 l (j - 1)).toNat : Int) != 10) = true := by simp only [bne, h10]; rfl
        have HB : Hid (bg l j = bg l (j - 1)) := by
          unfold Hid
          obtain ⟨i, rfl⟩ : ∃ i, j = i + 1 := ⟨j - 1, by omega⟩
          conv => lhs; unfold bg
          rw [if_neg (by rw [show le (at8 l i) = false from h10]; simp)]
          rfl
        go_wp2
        go_roundw
        case rel => exact ⟨j - 1, by congr 1; omega, by omega, by rw [HG.out, HB.out], by trivial⟩
        case measure => first | (simp [intOf]; done) | (simp [intOf]; omega)

set_option maxHeartbeats 400000 in
theorem refColumn_any (ao : Option Addr) (n c : Nat) (i : Int) (l : List UInt8) (w : World) (HT : Hid (Tx w ao n c l)) :
    Calls Try.prog 39 #[.slice ao n c, .int .i64 i] w fun e w' => e = pr (aCol l i) ∧ w' = w := by
  have hlen := HT.out.len
  have hbig : (n : Int) ≤ 140737488355328 := by have := HT.out.big; omega
  cases hb : plB l i with
  | true =>
    obtain ⟨k, rfl, hk⟩ := pl_yes hb
    have HA : Hid (pr (aCol l (k : Int)) = .returned (.tuple #[.int .i64 ((k - bg l k : Nat) : Int), .int .i64 0])) := by unfold Hid pr aCol ans; rw [hb]; rfl
    have hkn : k ≤ n := by omega
    have hk0 : ¬ (k : Int) < 0 := by omega
    have hk1 : ¬ (k : Int) > (n : Int) := by omega
    have hbk : (bg l k : Int) ≤ k := by have := bg_le l k; omega
    have hb0 : (0 : Int) ≤ (bg l k : Int) := by omega
    clear hb hlen
    go_enter Try.func39, Try.ntmps39
    go_wp2_with (go_at_call 53; refine (begin_any _ _ _ k l _ hkn HT).mono ?_; rintro e w2 ⟨rfl, hw⟩; subst hw)
    go_ret2
    refine ⟨?_, rfl⟩
    rw [HA.out]
    have e1 : ((k - bg l k : Nat) : Int) = (k : Int) - bg l k := by omega
    rw [e1]
    rfl
  | false =>
    have hno := pl_no hlen hb
    have HA : Hid (pr (aCol l i) = .returned (.tuple #[.int .i64 0, .int .i64 2])) := by unfold Hid pr aCol ans; rw [hb]; rfl
    clear hb
    by_cases h0 : i < 0
    · go_enter Try.func39, Try.ntmps39
      go_wp2
      go_ret2
      exact ⟨by rw [HA.out]; rfl, rfl⟩
    · have h1 : (n : Int) < i := by omega
      clear hno
      go_enter Try.func39, Try.ntmps39
      go_wp2
      go_ret2
      exact ⟨by rw [HA.out]; rfl, rfl⟩

theorem lb_lt {s e : Nat} (h : s < e) : (lb s e : Int) = (e : Int) - 1 := by unfold lb; omega
theorem lb_eq {s e : Nat} (h : s = e) : lb s e = s := by unfold lb; omega

set_option maxHeartbeats 1000000 in
theorem refAt_any (ao : Option Addr) (n c : Nat) (L C : Int) (l : List UInt8) (w : World) (h63 : L ≤ 9223372036854775807) (hC : C ≤ 9223372036854775807) (HT : Hid (Tx w ao n c l)) :
    Calls Try.prog 26 #[.slice ao n c, .int .i64 L, .int .i64 C] w fun e w' => e = pr (aAt l L C) ∧ w' = w := by
  have C0 := refStart_any ao n c L l w h63 HT
  have D0 := refEnd_any ao n c L l w h63 HT
  cases hb : lnB l L with
  | true =>
    obtain ⟨k, rfl, hk⟩ := ln_yes hb
    have HB : pr (aStart l (k : Int)) = .returned (.tuple #[.int .i64 (sp l k), .int .i64 0]) := by unfold pr aStart ans; rw [hb]; rfl
    have HD : pr (aEnd l (k : Int)) = .returned (.tuple #[.int .i64 (en l (sp l k)), .int .i64 0]) := by unfold pr aEnd ans; rw [hb]; rfl
    rw [HB] at C0
    rw [HD] at D0
    by_cases hlow : C < -1
    · have HA : Hid (pr (aAt l (k : Int) C) = .returned (.tuple #[.int .i64 0, .int .i64 2])) := by
        unfold Hid pr aAt ans
        rw [hb, decide_eq_false (show ¬ (-1 ≤ C) by omega)]; rfl
      have C1 := Hid.mk' C0
      clear hb C0 D0 HB HD
      go_enter Try.func26, Try.ntmps26
      go_wp2_with (go_at_call 40; refine C1.out.mono ?_; rintro e w' ⟨rfl, hw⟩; subst hw)
      go_ret2
      exact ⟨by rw [HA.out]; rfl, rfl⟩
    · have HA : Hid (pr (aAt l (k : Int) C) = .returned (.tuple #[.int .i64 (pc (sp l k) (en l (sp l k)) C), .int .i64 0])) := by
        unfold Hid pr aAt ans
        rw [hb, decide_eq_true (show -1 ≤ C by omega)]; rfl
      have he : en l (sp l k) ≤ n := by have := en_le (sp_le hk); rw [HT.out.len] at this; exact this
      have hse := en_ge l (sp l k)
      have hbig : (n : Int) ≤ 140737488355328 := by have := HT.out.big; omega
      clear HB HD
      generalize en l (sp l k) = E at *
      generalize sp l k = S at *
      have hE : (E : Int) ≤ 140737488355328 := by omega
      have hSE : (S : Int) ≤ (E : Int) := by omega
      have hS0 : (0 : Int) ≤ (S : Int) := by omega
      have C1 := Hid.mk' C0
      have C2 := Hid.mk' D0
      clear hb C0 D0
      by_cases hin : 0 ≤ C ∧ C < (E : Int) - S
      · obtain ⟨j, rfl⟩ := Int.eq_ofNat_of_zero_le hin.1
        have HP : Hid (pc S E (j : Int) = S + j) := by unfold Hid pc; rw [if_pos hin]; simp
        have hin1 := hin.1
        have hin2 := hin.2
        clear hin
        go_enter Try.func26, Try.ntmps26
        go_wp2_with (first | (go_at_call 40; refine C1.out.mono ?_; rintro e w' ⟨rfl, hw⟩; have hq := hw.symm; subst hq) | (go_at_call 25; refine C2.out.mono ?_; rintro e w' ⟨rfl, hw⟩; have hq := hw.symm; subst hq))
        go_ret2
        refine ⟨?_, rfl⟩
        rw [HA.out, HP.out]
        push_cast
        rfl
      · have HP : Hid (pc S E C = lb S E) := by unfold Hid pc; rw [if_neg hin]
        have hC1 : -1 ≤ C := by omega
        have hout : C < 0 ∨ (0 ≤ C ∧ (E : Int) - S ≤ C) := by omega
        clear hin
        by_cases hlt : S < E
        · have hlt' : (S : Int) < E := by omega
          have HQ : Hid ((lb S E : Int) = (E : Int) - 1) := lb_lt hlt
          rcases hout with h0 | ⟨h0, h1⟩
          · go_enter Try.func26, Try.ntmps26
            go_wp2_with (first | (go_at_call 40; refine C1.out.mono ?_; rintro e w' ⟨rfl, hw⟩; have hq := hw.symm; subst hq) | (go_at_call 25; refine C2.out.mono ?_; rintro e w' ⟨rfl, hw⟩; have hq := hw.symm; subst hq))
            go_ret2
            exact ⟨by rw [HA.out, HP.out, HQ.out]; rfl, rfl⟩
          · go_enter Try.func26, Try.ntmps26
            go_wp2_with (first | (go_at_call 40; refine C1.out.mono ?_; rintro e w' ⟨rfl, hw⟩; have hq := hw.symm; subst hq) | (go_at_call 25; refine C2.out.mono ?_; rintro e w' ⟨rfl, hw⟩; have hq := hw.symm; subst hq))
            go_ret2
            exact ⟨by rw [HA.out, HP.out, HQ.out]; rfl, rfl⟩
        · have hlt' : ¬ (S : Int) < E := by omega
          have HQ : Hid (lb S E = S) := lb_eq (by omega)
          rcases hout with h0 | ⟨h0, h1⟩
          · go_enter Try.func26, Try.ntmps26
            go_wp2_with (first | (go_at_call 40; refine C1.out.mono ?_; rintro e w' ⟨rfl, hw⟩; have hq := hw.symm; subst hq) | (go_at_call 25; refine C2.out.mono ?_; rintro e w' ⟨rfl, hw⟩; have hq := hw.symm; subst hq))
            go_ret2
            exact ⟨by rw [HA.out, HP.out, HQ.out]; rfl, rfl⟩
          · go_enter Try.func26, Try.ntmps26
            go_wp2_with (first | (go_at_call 40; refine C1.out.mono ?_; rintro e w' ⟨rfl, hw⟩; have hq := hw.symm; subst hq) | (go_at_call 25; refine C2.out.mono ?_; rintro e w' ⟨rfl, hw⟩; have hq := hw.symm; subst hq))
            go_ret2
            exact ⟨by rw [HA.out, HP.out, HQ.out]; rfl, rfl⟩
  | false =>
    have HA : Hid (pr (aAt l L C) = .returned (.tuple #[.int .i64 0, .int .i64 2])) := by unfold Hid pr aAt ans; rw [hb]; rfl
    have HB : pr (aStart l L) = .returned (.tuple #[.int .i64 0, .int .i64 2]) := by unfold pr aStart ans; rw [hb]; rfl
    rw [HB] at C0
    have C1 := Hid.mk' C0
    clear hb C0 D0 HB
    go_enter Try.func26, Try.ntmps26
    go_wp2_with (go_at_call 40; refine C1.out.mono ?_; rintro e w' ⟨rfl, hw⟩; subst hw)
    go_ret2
    exact ⟨by rw [HA.out]; rfl, rfl⟩

set_option maxHeartbeats 1000000 in
theorem refFirst_any (ao : Option Addr) (n c : Nat) (L : Int) (l : List UInt8) (w : World) (h63 : L ≤ 9223372036854775807) (HT : Hid (Tx w ao n c l)) :
    Calls Try.prog 38 #[.slice ao n c, .int .i64 L] w fun e w' => e = pr (aFirst l L) ∧ w' = w := by
  have C0 := refStart_any ao n c L l w h63 HT
  have D0 := refEnd_any ao n c L l w h63 HT
  cases hb : lnB l L with
  | true =>
    obtain ⟨k, rfl, hk⟩ := ln_yes hb
    have HA : Hid (pr (aFirst l (k : Int)) = .returned (.tuple #[.int .i64 (fb l (lb (sp l k) (en l (sp l k))) (en l (sp l k) - sp l k) (sp l k)), .int .i64 0])) := by unfold Hid pr aFirst ans; rw [hb]; rfl
    have HB : pr (aStart l (k : Int)) = .returned (.tuple #[.int .i64 (sp l k), .int .i64 0]) := by unfold pr aStart ans; rw [hb]; rfl
    have HD : pr (aEnd l (k : Int)) = .returned (.tuple #[.int .i64 (en l (sp l k)), .int .i64 0]) := by unfold pr aEnd ans; rw [hb]; rfl
    rw [HB] at C0
    rw [HD] at D0
    have he : en l (sp l k) ≤ n := by have := en_le (sp_le hk); rw [HT.out.len] at this; exact this
    have hse := en_ge l (sp l k)
    have hbig : (n : Int) ≤ 140737488355328 := by have := HT.out.big; omega
    clear HB HD
    generalize en l (sp l k) = E at *
    generalize sp l k = S at *
    have hE : (E : Int) ≤ 140737488355328 := by omega
    have C1 := Hid.mk' C0
    have C2 := Hid.mk' D0
    clear hb C0 D0
    go_enter Try.func38, Try.ntmps38
    go_wp2_with (first | (go_at_call 40; refine C1.out.mono ?_; rintro e w' ⟨rfl, hw⟩; have hq := hw.symm; subst hq) | (go_at_call 25; refine C2.out.mono ?_; rintro e w' ⟨rfl, hw⟩; have hq := hw.symm; subst hq))
    go_loopw [10] (fun u wr => ∃ i : Nat, u = .int .i64 i ∧ S ≤ i ∧ i ≤ E ∧ fb l (lb S E) (E - S) S = fb l (lb S E) (E - i) i ∧ wr = w) (fun u _ => E - (intOf u).toNat)
    case atStart => exact ⟨S, rfl, Nat.le_refl _, hse, rfl, by first | rfl | trivial⟩
    case round =>
      obtain ⟨i, rfl, hSi, hiE, hfb, hw0⟩ := hrel
      have HF : Hid (fb l (lb S E) (E - S) S = fb l (lb S E) (E - i) i) := hfb
      clear hfb
      by_cases hlt : i < E
      · obtain ⟨g, o, rfl, hc⟩ := HT.out.at (by omega)
        have hc0 := hc i (by omega)
        have hi0 : (0 : Int) ≤ (i : Int) := by omega
        have hin : (i : Int) < (n : Int) := by omega
        have hiE' : (i : Int) < (E : Int) := by omega
        clear hc
        have HN0 : Hid (bl (at8 l i) = (((at8 l i).toNat : Int) == 32 || ((at8 l i).toNat : Int) == 9)) := rfl
        cases h32 : (((at8 l i).toNat : Int) == 32) with
        | true =>
          have hne : (((at8 l i).toNat : Int) != 32) = false := by simp only [bne, h32]; rfl
          have HN : Hid (fb l (lb S E) (E - i) i = fb l (lb S E) (E - (i + 1)) (i + 1)) := by
            unfold Hid
            rw [show E - i = (E - (i + 1)) + 1 from by omega]
            conv => lhs; unfold fb
            rw [if_pos (by rw [HN0.out, h32]; rfl)]
          go_wp2
          go_roundw
          case rel => exact ⟨i + 1, by go_num, by omega, by omega, by rw [HF.out, HN.out], by first | trivial | exact hw0⟩
          case measure => first | (simp [intOf]; done) | (simp [intOf]; omega)
        | false =>
          have hne : (((at8 l i).toNat : Int) != 32) = true := by simp only [bne, h32]; rfl
          cases h9 : (((at8 l i).toNat : Int) == 9) with
          | true =>
            have hne9 : (((at8 l i).toNat : Int) != 9) = false := by simp only [bne, h9]; rfl
            have HN : Hid (fb l (lb S E) (E - i) i = fb l (lb S E) (E - (i + 1)) (i + 1)) := by
              unfold Hid
              rw [show E - i = (E - (i + 1)) + 1 from by omega]
              conv => lhs; unfold fb
              rw [if_pos (by rw [HN0.out, h32, h9]; rfl)]
            go_wp2
            go_roundw
            case rel => exact ⟨i + 1, by go_num, by omega, by omega, by rw [HF.out, HN.out], by first | trivial | exact hw0⟩
            case measure => first | (simp [intOf]; done) | (simp [intOf]; omega)
          | false =>
            have hne9 : (((at8 l i).toNat : Int) != 9) = true := by simp only [bne, h9]; rfl
            have HN : Hid (fb l (lb S E) (E - i) i = i) := by
              unfold Hid
              rw [show E - i = (E - (i + 1)) + 1 from by omega]
              conv => lhs; unfold fb
              rw [if_neg (by rw [HN0.out, h32, h9]; simp)]
            go_wp2
            go_ret2
            exact ⟨by rw [HA.out, HF.out, HN.out]; rfl, by first | trivial | exact hw0⟩
      · obtain rfl : i = E := by omega
        have HN : Hid (fb l (lb S i) (i - i) i = lb S i) := by unfold Hid; rw [Nat.sub_self]; rfl
        by_cases hlt2 : S < i
        · have hlt' : (S : Int) < i := by omega
          have HQ : Hid ((lb S i : Int) = (i : Int) - 1) := lb_lt hlt2
          go_wp2
          go_ret2
          exact ⟨by rw [HA.out, HF.out, HN.out, HQ.out]; rfl, by first | trivial | exact hw0⟩
        · have hlt' : ¬ (S : Int) < i := by omega
          have HQ : Hid (lb S i = S) := lb_eq (by omega)
          go_wp2
          go_ret2
          exact ⟨by rw [HA.out, HF.out, HN.out, HQ.out]; rfl, by first | trivial | exact hw0⟩
  | false =>
    have HA : Hid (pr (aFirst l L) = .returned (.tuple #[.int .i64 0, .int .i64 2])) := by unfold Hid pr aFirst ans; rw [hb]; rfl
    have HB : pr (aStart l L) = .returned (.tuple #[.int .i64 0, .int .i64 2]) := by unfold pr aStart ans; rw [hb]; rfl
    rw [HB] at C0
    have C1 := Hid.mk' C0
    clear hb C0 D0 HB
    go_enter Try.func38, Try.ntmps38
    go_wp2_with (go_at_call 40; refine C1.out.mono ?_; rintro e w' ⟨rfl, hw⟩; subst hw)
    go_ret2
    exact ⟨by rw [HA.out]; rfl, rfl⟩

set_option maxHeartbeats 1000000 in
theorem refRest_any (ao : Option Addr) (n c : Nat) (i : Int) (l : List UInt8) (w : World) (_h1 : -9223372036854775808 ≤ i) (_h2 : i ≤ 9223372036854775807) (HT : Hid (Tx w ao n c l)) :
    Calls Try.prog 54 #[.slice ao n c, .int .i64 i] w fun e w' => e = .returned (.int .i64 (rs l (cl l i))) ∧ w' = w := by
  have hl := HT.out.len
  have hcl := cl_le l i
  have hi := cl_eq l i
  rw [hl] at hi
  have hbig : (n : Int) ≤ 140737488355328 := by have := HT.out.big; omega
  have C1 : Hid (Calls Try.prog 53 #[.slice ao n c, .int .i64 (cl l i : Nat)] w fun e w' => e = .returned (.int .i64 (bg l (cl l i))) ∧ w' = w) := begin_any ao n c (cl l i) l w (by omega) HT
  have HL := Hid.mk' hl
  generalize cl l i = k at *
  have hk : (k : Int) ≤ n := by omega
  have hk0 : (0 : Int) ≤ k := by omega
  clear hl
  have HR0 : Hid (bg l k = k → rs l k = k) := fun h => by unfold rs; rw [if_pos (.inr h)]
  have HB : Hid (bg l k ≤ k) := bg_le l k
  by_cases hkn : k < n
  · obtain ⟨g, o, rfl, hc⟩ := HT.out.at (by omega)
    have c1 := hc k hkn
    have hkn' : (k : Int) < n := by omega
    clear hc
    cases h10 : (((at8 l k).toNat : Int) == 10) with
    | false =>
      have HR : Hid (rs l k = k) := by unfold Hid rs; rw [if_pos (.inl ⟨by rw [HL.out]; exact hkn, h10⟩)]
      have hne : (((at8 l k).toNat : Int) != 10) = true := by simp only [bne, h10]; rfl
      go_enter Try.func54, Try.ntmps54
      go_wp2_with (go_at_call 53; refine C1.out.mono ?_; rintro e w' ⟨rfl, hw⟩; have hq := hw.symm; subst hq)
      go_ret
      exact ⟨by rw [HR.out]; rfl, rfl⟩
    | true =>
      have hne : (((at8 l k).toNat : Int) != 10) = false := by simp only [bne, h10]; rfl
      by_cases hbg : bg l k = k
      · have HR : Hid (rs l k = k) := HR0.out hbg
        rw [hbg] at C1
        go_enter Try.func54, Try.ntmps54
        go_wp2_with (go_at_call 53; refine C1.out.mono ?_; rintro e w' ⟨rfl, hw⟩; have hq := hw.symm; subst hq)
        go_ret
        exact ⟨by rw [HR.out]; rfl, rfl⟩
      · have hb2 : ((k : Int) == (bg l k : Int)) = false := by rw [beq_eq_false_iff_ne]; omega
        have HR : Hid ((rs l k : Int) = (k : Int) - 1) := by
          unfold Hid rs
          rw [if_neg (fun h => by rcases h with h | h; (rw [le_of h10] at h; simp at h); exact hbg h)]
          have := HB.out
          omega
        have hk1 : (1 : Int) ≤ k := by have := HB.out; omega
        go_enter Try.func54, Try.ntmps54
        go_wp2_with (go_at_call 53; refine C1.out.mono ?_; rintro e w' ⟨rfl, hw⟩; have hq := hw.symm; subst hq)
        go_ret
        exact ⟨by rw [HR.out]; rfl, rfl⟩
  · have hkn' : ¬ (k : Int) < n := by omega
    by_cases hbg : bg l k = k
    · have HR : Hid (rs l k = k) := HR0.out hbg
      rw [hbg] at C1
      go_enter Try.func54, Try.ntmps54
      go_wp2_with (go_at_call 53; refine C1.out.mono ?_; rintro e w' ⟨rfl, hw⟩; have hq := hw.symm; subst hq)
      go_ret
      exact ⟨by rw [HR.out]; rfl, rfl⟩
    · have hb2 : ((k : Int) == (bg l k : Int)) = false := by rw [beq_eq_false_iff_ne]; omega
      have HR : Hid ((rs l k : Int) = (k : Int) - 1) := by
        unfold Hid rs
        rw [if_neg (fun h => by rcases h with h | h; (have h3 := HL.out; omega); exact hbg h)]
        have := HB.out
        omega
      have hk1 : (1 : Int) ≤ k := by have := HB.out; omega
      go_enter Try.func54, Try.ntmps54
      go_wp2_with (go_at_call 53; refine C1.out.mono ?_; rintro e w' ⟨rfl, hw⟩; have hq := hw.symm; subst hq)
      go_ret
      exact ⟨by rw [HR.out]; rfl, rfl⟩
end Go.Proofs.Ytbkhbnmihnomaaa
