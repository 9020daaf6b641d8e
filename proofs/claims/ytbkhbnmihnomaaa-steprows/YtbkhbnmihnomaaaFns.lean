/- The contracts of lines.Start, End, Of, Column, At and First. -/
import Derived.Test.YtbkhbnmihnomaaaLine
namespace Go.Proofs.Ytbkhbnmihnomaaa
open Go.RowKit

/-- is there a line of this number -/
def lnB (l : List UInt8) (L : Int) : Bool := decide (0 ≤ L ∧ L ≤ nl l)
/-- is there a place of this number -/
def plB (l : List UInt8) (i : Int) : Bool := decide (0 ≤ i ∧ i ≤ l.length)
/-- an answer and its error -/
def ans (b : Bool) (x : Nat) : Int × Int := if b then (x, 0) else (0, 2)
def aStart (l : List UInt8) (L : Int) : Int × Int := ans (lnB l L) (sp l L.toNat)
def aEnd (l : List UInt8) (L : Int) : Int × Int := ans (lnB l L) (en l (sp l L.toNat))
def aOf (l : List UInt8) (i : Int) : Int × Int := ans (plB l i) (nl (l.take i.toNat))
def aCol (l : List UInt8) (i : Int) : Int × Int := ans (plB l i) (i.toNat - bg l i.toNat)
/-- the first byte that is no blank, of the next d from i on; else z -/
def fb (l : List UInt8) (z : Nat) : Nat → Nat → Nat
  | 0, _ => z
  | d + 1, i => if bl (at8 l i) then fb l z d (i + 1) else i
def aFirst (l : List UInt8) (L : Int) : Int × Int := ans (lnB l L) (fb l (lb (sp l L.toNat) (en l (sp l L.toNat))) (en l (sp l L.toNat) - sp l L.toNat) (sp l L.toNat))
/-- the place of a column of the line from s to e -/
def pc (s e : Nat) (c : Int) : Nat := if 0 ≤ c ∧ c < (e : Int) - s then s + c.toNat else lb s e
def aAt (l : List UInt8) (L c : Int) : Int × Int := ans (lnB l L && decide (-1 ≤ c)) (pc (sp l L.toNat) (en l (sp l L.toNat)) c)
/-- a pair as a call gives it -/
def pr (x : Int × Int) : Ending := .returned (.tuple #[.int .i64 x.1, .int .i64 x.2])

theorem ln_yes {l : List UInt8} {L : Int} (h : lnB l L = true) : ∃ k : Nat, L = k ∧ k ≤ nl l := by
  have h := of_decide_eq_true h
  obtain ⟨k, rfl⟩ := Int.eq_ofNat_of_zero_le h.1
  exact ⟨k, rfl, by omega⟩
theorem ln_no {l : List UInt8} {L : Int} (h : lnB l L = false) : L < 0 ∨ (nl l : Int) < L := by
  have h := of_decide_eq_false h
  omega
theorem pl_yes {l : List UInt8} {L : Int} (h : plB l L = true) : ∃ k : Nat, L = k ∧ k ≤ l.length := by
  have h := of_decide_eq_true h
  obtain ⟨k, rfl⟩ := Int.eq_ofNat_of_zero_le h.1
  exact ⟨k, rfl, by omega⟩
theorem lb_le {s e : Nat} (h : s ≤ e) : lb s e ≤ e := by unfold lb; omega

set_option maxHeartbeats 400000 in
theorem start_any (ao : Option Addr) (n c : Nat) (L : Int) (l : List UInt8) (w : World) (h63 : L ≤ 9223372036854775807) (HT : Hid (Tx w ao n c l)) :
    Calls Try.prog 48 #[.slice ao n c, .int .i64 L] w fun e w' => e = pr (aStart l L) ∧ w' = w := by
  cases hb : lnB l L with
  | true =>
    obtain ⟨k, rfl, hk⟩ := ln_yes hb
    have HA : Hid (pr (aStart l (k : Int)) = .returned (.tuple #[.int .i64 (sp l k), .int .i64 0])) := by unfold Hid pr aStart ans; rw [hb]; rfl
    clear hb
    go_enter Try.func48, Try.ntmps48
    go_wp2_with (go_at_call 34; refine (startOf_yes ao n c k l _ hk HT).mono ?_; rintro e w' ⟨rfl, hw⟩; subst hw)
    go_ret2
    exact ⟨by rw [HA.out]; rfl, rfl⟩
  | false =>
    have HA : Hid (pr (aStart l L) = .returned (.tuple #[.int .i64 0, .int .i64 2])) := by unfold Hid pr aStart ans; rw [hb]; rfl
    have hn : Hid (L < 0 ∨ (nl l : Int) < L) := ln_no hb
    clear hb
    go_enter Try.func48, Try.ntmps48
    go_wp2_with (go_at_call 34; refine (startOf_no ao n c L l _ h63 hn.out HT).mono ?_; rintro e w' ⟨rfl, hw⟩; subst hw)
    go_ret2
    exact ⟨by rw [HA.out]; rfl, rfl⟩

set_option maxHeartbeats 400000 in
theorem end_any (ao : Option Addr) (n c : Nat) (L : Int) (l : List UInt8) (w : World) (h63 : L ≤ 9223372036854775807) (HT : Hid (Tx w ao n c l)) :
    Calls Try.prog 17 #[.slice ao n c, .int .i64 L] w fun e w' => e = pr (aEnd l L) ∧ w' = w := by
  cases hb : lnB l L with
  | true =>
    obtain ⟨k, rfl, hk⟩ := ln_yes hb
    have HA : Hid (pr (aEnd l (k : Int)) = .returned (.tuple #[.int .i64 (en l (sp l k)), .int .i64 0])) := by unfold Hid pr aEnd ans; rw [hb]; rfl
    have hs : sp l k ≤ n := by have := sp_le hk; rw [HT.out.len] at this; exact this
    clear hb
    go_enter Try.func17, Try.ntmps17
    go_wp2_with (first | (go_at_call 34; refine (startOf_yes ao n c k l _ hk HT).mono ?_; rintro e w' ⟨rfl, hw⟩; subst hw) | (go_at_call 35; refine (endFrom_any ao n c (sp l k) l _ hs HT).mono ?_; rintro e w' ⟨rfl, hw⟩; subst hw))
    go_ret2
    exact ⟨by rw [HA.out]; rfl, rfl⟩
  | false =>
    have HA : Hid (pr (aEnd l L) = .returned (.tuple #[.int .i64 0, .int .i64 2])) := by unfold Hid pr aEnd ans; rw [hb]; rfl
    have hn : Hid (L < 0 ∨ (nl l : Int) < L) := ln_no hb
    clear hb
    go_enter Try.func17, Try.ntmps17
    go_wp2_with (go_at_call 34; refine (startOf_no ao n c L l _ h63 hn.out HT).mono ?_; rintro e w' ⟨rfl, hw⟩; subst hw)
    go_ret2
    exact ⟨by rw [HA.out]; rfl, rfl⟩

theorem Tx.head {w : World} {ao : Option Addr} {n c i : Nat} {l : List UInt8} (h : Tx w ao n c l) (hi : i ≤ n) : Tx w ao i c (l.take i) := by
  refine ⟨by rw [List.length_take, h.len]; omega, by have := h.cap; omega, by have := h.big; omega, h.nil, fun a ha j hj => ?_⟩
  rw [h.cells a ha j (by omega)]
  have : at8 (l.take i) j = at8 l j := by simp [at8, List.getD, hj]
  rw [this]

set_option maxHeartbeats 400000 in
theorem of_any (ao : Option Addr) (n c : Nat) (i : Int) (l : List UInt8) (w : World) (HT : Hid (Tx w ao n c l)) :
    Calls Try.prog 14 #[.slice ao n c, .int .i64 i] w fun e w' => e = pr (aOf l i) ∧ Below w.heap.size w w' := by
  have hlen := HT.out.len
  cases hb : plB l i with
  | true =>
    obtain ⟨k, rfl, hk⟩ := pl_yes hb
    have hp : decide ((0 : Int) ≤ (k : Int) ∧ (k : Int) ≤ n) = true := decide_eq_true (by omega)
    have HA : Hid (pr (aOf l (k : Int)) = .returned (.tuple #[.int .i64 (nl (l.take k)), .int .i64 0])) := by unfold Hid pr aOf ans; rw [hb]; rfl
    have hkn : k ≤ n := by omega
    have hcap := HT.out.cap
    clear hb hlen
    cases ao with
    | none =>
      obtain ⟨rfl, rfl, rfl⟩ := HT.out.none
      obtain rfl : k = 0 := by omega
      go_enter Try.func14, Try.ntmps14
      go_wp2_with (first | (go_at_call 31; refine (isPlace_any _ _ _ _ _).mono ?_; rintro e w' ⟨rfl, hw⟩; subst hw) | (go_at_call 32; refine (lineEnds_any _ _ _ [] _ (tx_nil _)).mono ?_; rintro e w2 ⟨rfl, hw⟩))
      go_ret2
      exact ⟨by rw [HA.out]; rfl, hw⟩
    | some a =>
      go_enter Try.func14, Try.ntmps14
      go_wp2_with (first | (go_at_call 31; refine (isPlace_any _ _ _ _ _).mono ?_; rintro e w' ⟨rfl, hw⟩; subst hw; rw [hp]) | (go_at_call 32; refine (lineEnds_any _ _ _ (l.take k) _ (HT.out.head hkn)).mono ?_; rintro e w2 ⟨rfl, hw⟩))
      go_ret2
      exact ⟨by rw [HA.out]; rfl, hw⟩
  | false =>
    have hp : decide ((0 : Int) ≤ i ∧ i ≤ (n : Int)) = false := by rw [← hlen]; exact hb
    have HA : Hid (pr (aOf l i) = .returned (.tuple #[.int .i64 0, .int .i64 2])) := by unfold Hid pr aOf ans; rw [hb]; rfl
    clear hb
    go_enter Try.func14, Try.ntmps14
    go_wp2_with (go_at_call 31; refine (isPlace_any _ _ _ _ _).mono ?_; rintro e w' ⟨rfl, hw⟩; subst hw; rw [hp])
    go_ret2
    exact ⟨by rw [HA.out]; rfl, Below.refl _ _⟩

theorem bg_take (l : List UInt8) (m : Nat) : ∀ i, i ≤ m → bg (l.take m) i = bg l i
  | 0, _ => rfl
  | i + 1, h => by
    have e : at8 (l.take m) i = at8 l i := by simp [at8, List.getD, show i < m by omega]
    unfold bg
    rw [e, bg_take l m i (by omega)]

set_option maxHeartbeats 1000000 in
theorem lastIndex_any (ao : Option Addr) (n c : Nat) (l : List UInt8) (w : World) (HT : Hid (Tx w ao n c l)) :
    Calls Try.prog 59 #[.slice ao n c, .int .u8 10] w fun e w' => e = .returned (.int .i64 ((bg l n : Int) - 1)) ∧ w' = w := by
  have hbig : (n : Int) ≤ 140737488355328 := by have := HT.out.big; omega
  go_enter Try.func59, Try.ntmps59
  go_wp2_with fail
  go_loopw [5] (fun u wr => ∃ j : Nat, u = .int .i64 ((j : Int) - 1) ∧ j ≤ n ∧ bg l n = bg l j ∧ wr = w) (fun u _ => (intOf u + 1).toNat)
  case atStart => exact ⟨n, rfl, Nat.le_refl _, rfl, rfl⟩
  case round =>
    obtain ⟨j, rfl, hj, hbg, rfl⟩ := hrel
    have HG : Hid (bg l n = bg l j) := hbg
    clear hbg
    cases j with
    | zero =>
      go_wp2
      go_ret
      exact ⟨by rw [HG.out]; rfl, rfl⟩
    | succ i =>
      obtain ⟨g, o, rfl, hc⟩ := HT.out.at (by omega)
      have hc0 := hc i (by omega)
      have hi0 : (0 : Int) ≤ (i : Int) := by omega
      have hin : (i : Int) < (n : Int) := by omega
      have e0 : ((i + 1 : Nat) : Int) - 1 = (i : Int) := by omega
      rw [e0]
      clear hc
      cases h10 : (((at8 l i).toNat : Int) == 10) with
      | true =>
        have HB : Hid (bg l (i + 1) = i + 1) := by unfold Hid bg; rw [if_pos (show le (at8 l i) = true from h10)]
        go_wp2
        go_ret
        refine ⟨?_, rfl⟩
        rw [HG.out, HB.out]
        rw [e0]
        rfl
      | false =>
        have HB : Hid (bg l (i + 1) = bg l i) := by unfold Hid; conv => lhs; unfold bg
                                                    rw [if_neg (by unfold le; rw [h10]; simp)]
        go_wp2
        go_roundw
        case rel => exact ⟨i, by go_num, by omega, by rw [HG.out, HB.out], by trivial⟩
        case measure => first | (simp [intOf]; done) | (simp [intOf]; omega)

set_option maxHeartbeats 400000 in
theorem lastIndexB_any (ao : Option Addr) (n c : Nat) (l : List UInt8) (w : World) (HT : Hid (Tx w ao n c l)) :
    Calls Try.prog 51 #[.slice ao n c, .int .u8 10] w fun e w' => e = .returned (.int .i64 ((bg l n : Int) - 1)) ∧ w' = w := by
  go_enter Try.func51, Try.ntmps51
  go_wp2_with (go_at_call 59; refine (lastIndex_any _ _ _ l _ HT).mono ?_; rintro e w' ⟨rfl, hw⟩; subst hw)
  go_ret
  exact ⟨rfl, rfl⟩

set_option maxHeartbeats 400000 in
theorem column_any (ao : Option Addr) (n c : Nat) (i : Int) (l : List UInt8) (w : World) (HT : Hid (Tx w ao n c l)) :
    Calls Try.prog 33 #[.slice ao n c, .int .i64 i] w fun e w' => e = pr (aCol l i) ∧ w' = w := by
  have hlen := HT.out.len
  cases hb : plB l i with
  | true =>
    obtain ⟨k, rfl, hk⟩ := pl_yes hb
    have hp : decide ((0 : Int) ≤ (k : Int) ∧ (k : Int) ≤ n) = true := decide_eq_true (by omega)
    have HA : Hid (pr (aCol l (k : Int)) = .returned (.tuple #[.int .i64 ((k - bg l k : Nat) : Int), .int .i64 0])) := by unfold Hid pr aCol ans; rw [hb]; rfl
    have hkn : k ≤ n := by omega
    have hcap := HT.out.cap
    have hbig : (n : Int) ≤ 140737488355328 := by have := HT.out.big; omega
    have hbk : (bg (l.take k) k : Int) ≤ k := by have := bg_le (l.take k) k; omega
    have hb0 : (0 : Int) ≤ (bg (l.take k) k : Int) := by omega
    have HB : Hid (bg (l.take k) k = bg l k) := bg_take l k k (Nat.le_refl _)
    clear hb hlen
    cases ao with
    | none =>
      obtain ⟨rfl, rfl, rfl⟩ := HT.out.none
      obtain rfl : k = 0 := by omega
      have hz : bg [] 0 = 0 := rfl
      go_enter Try.func33, Try.ntmps33
      go_wp2_with (first | (go_at_call 31; refine (isPlace_any _ _ _ _ _).mono ?_; rintro e w' ⟨rfl, hw⟩; subst hw) | (go_at_call 51; refine (lastIndexB_any _ _ _ [] _ (tx_nil _)).mono ?_; rintro e w2 ⟨rfl, hw⟩; subst hw))
      go_ret2
      exact ⟨by rw [HA.out]; rfl, rfl⟩
    | some a =>
      go_enter Try.func33, Try.ntmps33
      go_wp2_with (first | (go_at_call 31; refine (isPlace_any _ _ _ _ _).mono ?_; rintro e w' ⟨rfl, hw⟩; subst hw; rw [hp]) | (go_at_call 51; refine (lastIndexB_any _ _ _ (l.take k) _ (HT.out.head hkn)).mono ?_; rintro e w2 ⟨rfl, hw⟩; subst hw))
      go_ret2
      refine ⟨?_, rfl⟩
      rw [HA.out]
      have h1 := HB.out
      have e1 : ((k - bg l k : Nat) : Int) = (k : Int) - bg (l.take k) k := by omega
      rw [e1]
      rfl
  | false =>
    have hp : decide ((0 : Int) ≤ i ∧ i ≤ (n : Int)) = false := by rw [← hlen]; exact hb
    have HA : Hid (pr (aCol l i) = .returned (.tuple #[.int .i64 0, .int .i64 2])) := by unfold Hid pr aCol ans; rw [hb]; rfl
    clear hb
    go_enter Try.func33, Try.ntmps33
    go_wp2_with (go_at_call 31; refine (isPlace_any _ _ _ _ _).mono ?_; rintro e w' ⟨rfl, hw⟩; subst hw; rw [hp])
    go_ret2
    exact ⟨by rw [HA.out]; rfl, rfl⟩

set_option maxHeartbeats 1000000 in
theorem at_any (ao : Option Addr) (n c : Nat) (L C : Int) (l : List UInt8) (w : World) (h63 : L ≤ 9223372036854775807) (hC : C ≤ 9223372036854775807) (HT : Hid (Tx w ao n c l)) :
    Calls Try.prog 18 #[.slice ao n c, .int .i64 L, .int .i64 C] w fun e w' => e = pr (aAt l L C) ∧ w' = w := by
  cases hb : lnB l L with
  | true =>
    obtain ⟨k, rfl, hk⟩ := ln_yes hb
    by_cases hlow : C < -1
    · have HA : Hid (pr (aAt l (k : Int) C) = .returned (.tuple #[.int .i64 0, .int .i64 2])) := by
        unfold Hid pr aAt ans
        rw [hb, decide_eq_false (show ¬ (-1 ≤ C) by omega)]; rfl
      clear hb
      go_enter Try.func18, Try.ntmps18
      go_wp2_with (go_at_call 34; refine (startOf_yes ao n c k l _ hk HT).mono ?_; rintro e w' ⟨rfl, hw⟩; subst hw)
      go_ret2
      exact ⟨by rw [HA.out]; rfl, rfl⟩
    · have HA : Hid (pr (aAt l (k : Int) C) = .returned (.tuple #[.int .i64 (pc (sp l k) (en l (sp l k)) C), .int .i64 0])) := by
        unfold Hid pr aAt ans
        rw [hb, decide_eq_true (show -1 ≤ C by omega)]; rfl
      have hs : sp l k ≤ n := by have := sp_le hk; rw [HT.out.len] at this; exact this
      have he : en l (sp l k) ≤ n := by have := en_le (sp_le hk); rw [HT.out.len] at this; exact this
      have hse := en_ge l (sp l k)
      have hbig : (n : Int) ≤ 140737488355328 := by have := HT.out.big; omega
      have C1 := startOf_yes ao n c k l w hk HT
      have C2 := endFrom_any ao n c (sp l k) l w hs HT
      generalize en l (sp l k) = E at *
      generalize sp l k = S at *
      have hE : (E : Int) ≤ 140737488355328 := by omega
      have hSE : (S : Int) ≤ (E : Int) := by omega
      have hS0 : (0 : Int) ≤ (S : Int) := by omega
      have C1 := Hid.mk' C1
      have C2 := Hid.mk' C2
      clear hb
      by_cases hin : 0 ≤ C ∧ C < (E : Int) - S
      · obtain ⟨j, rfl⟩ := Int.eq_ofNat_of_zero_le hin.1
        have HP : Hid (pc S E (j : Int) = S + j) := by unfold Hid pc; rw [if_pos hin]; simp
        have hin1 := hin.1
        have hin2 := hin.2
        clear hin
        go_enter Try.func18, Try.ntmps18
        go_wp2_with (first | (go_at_call 34; refine C1.out.mono ?_; rintro e w' ⟨rfl, hw⟩; subst hw) | (go_at_call 35; refine C2.out.mono ?_; rintro e w' ⟨rfl, hw⟩; subst hw))
        go_ret2
        refine ⟨?_, rfl⟩
        rw [HA.out, HP.out]
        push_cast
        rfl
      · have HP : Hid (pc S E C = lb S E) := by unfold Hid pc; rw [if_neg hin]
        have hC1 : -1 ≤ C := by omega
        by_cases h0 : 0 ≤ C
        · have h1 : (E : Int) - S ≤ C := by omega
          clear hin
          go_enter Try.func18, Try.ntmps18
          go_wp2_with (first | (go_at_call 34; refine C1.out.mono ?_; rintro e w' ⟨rfl, hw⟩; subst hw) | (go_at_call 35; refine C2.out.mono ?_; rintro e w' ⟨rfl, hw⟩; subst hw) | (go_at_call 36; refine (lastByte_any S E _ hse hE).mono ?_; rintro e w' ⟨rfl, hw⟩; subst hw))
          go_ret2
          refine ⟨?_, rfl⟩
          rw [HA.out, HP.out]
          rfl
        · have h1 : C < 0 := by omega
          clear hin h0
          go_enter Try.func18, Try.ntmps18
          go_wp2_with (first | (go_at_call 34; refine C1.out.mono ?_; rintro e w' ⟨rfl, hw⟩; subst hw) | (go_at_call 35; refine C2.out.mono ?_; rintro e w' ⟨rfl, hw⟩; subst hw) | (go_at_call 36; refine (lastByte_any S E _ hse hE).mono ?_; rintro e w' ⟨rfl, hw⟩; subst hw))
          go_ret2
          refine ⟨?_, rfl⟩
          rw [HA.out, HP.out]
          rfl
  | false =>
    have HA : Hid (pr (aAt l L C) = .returned (.tuple #[.int .i64 0, .int .i64 2])) := by unfold Hid pr aAt ans; rw [hb]; rfl
    have hn : Hid (L < 0 ∨ (nl l : Int) < L) := ln_no hb
    clear hb
    go_enter Try.func18, Try.ntmps18
    go_wp2_with (go_at_call 34; refine (startOf_no ao n c L l _ h63 hn.out HT).mono ?_; rintro e w' ⟨rfl, hw⟩; subst hw)
    go_ret2
    exact ⟨by rw [HA.out]; rfl, rfl⟩

set_option maxHeartbeats 1000000 in
theorem first_any (ao : Option Addr) (n c : Nat) (L : Int) (l : List UInt8) (w : World) (h63 : L ≤ 9223372036854775807) (HT : Hid (Tx w ao n c l)) :
    Calls Try.prog 19 #[.slice ao n c, .int .i64 L] w fun e w' => e = pr (aFirst l L) ∧ w' = w := by
  cases hb : lnB l L with
  | true =>
    obtain ⟨k, rfl, hk⟩ := ln_yes hb
    have HA : Hid (pr (aFirst l (k : Int)) = .returned (.tuple #[.int .i64 (fb l (lb (sp l k) (en l (sp l k))) (en l (sp l k) - sp l k) (sp l k)), .int .i64 0])) := by unfold Hid pr aFirst ans; rw [hb]; rfl
    have hs : sp l k ≤ n := by have := sp_le hk; rw [HT.out.len] at this; exact this
    have he : en l (sp l k) ≤ n := by have := en_le (sp_le hk); rw [HT.out.len] at this; exact this
    have hse := en_ge l (sp l k)
    have hbig : (n : Int) ≤ 140737488355328 := by have := HT.out.big; omega
    have C1 := startOf_yes ao n c k l w hk HT
    have C2 := endFrom_any ao n c (sp l k) l w hs HT
    generalize en l (sp l k) = E at *
    generalize sp l k = S at *
    have hE : (E : Int) ≤ 140737488355328 := by omega
    have C1 := Hid.mk' C1
    have C2 := Hid.mk' C2
    clear hb
    go_enter Try.func19, Try.ntmps19
    go_wp2_with (first | (go_at_call 34; refine C1.out.mono ?_; rintro e w' ⟨rfl, hw⟩; have hq := hw.symm; subst hq) | (go_at_call 35; refine C2.out.mono ?_; rintro e w' ⟨rfl, hw⟩; have hq := hw.symm; subst hq))
    go_loopw [9] (fun u wr => ∃ i : Nat, u = .int .i64 i ∧ S ≤ i ∧ i ≤ E ∧ fb l (lb S E) (E - S) S = fb l (lb S E) (E - i) i ∧ wr = w) (fun u _ => E - (intOf u).toNat)
    case atStart => exact ⟨S, rfl, Nat.le_refl _, hse, rfl, by first | rfl | trivial⟩
    case round =>
      obtain ⟨i, rfl, hSi, hiE, hfb, hw0⟩ := hrel
      have HF : Hid (fb l (lb S E) (E - S) S = fb l (lb S E) (E - i) i) := hfb
      clear hfb
      by_cases hlt : i < E
      · obtain ⟨g, o, rfl, hc⟩ := HT.out.at (by omega)
        have hc0 := hc i (by omega)
        have hi0 : (0 : Int) ≤ (i : Int) := by omega
        have hin : (i : Int) < (n : Int) := by omega
        have hiE' : (i : Int) < (E : Int) := by omega
        clear hc
        cases hbl : bl (at8 l i) with
        | true =>
          have HN : Hid (fb l (lb S E) (E - i) i = fb l (lb S E) (E - (i + 1)) (i + 1)) := by
            unfold Hid
            rw [show E - i = (E - (i + 1)) + 1 from by omega]
            conv => lhs; unfold fb
            rw [if_pos hbl]
          go_wp2_with (go_at_call 37; refine (isBlank_any (at8 l i) _).mono ?_; rintro e w' ⟨rfl, hw⟩; have hq := hw.symm; subst hq; rw [hbl])
          go_roundw
          case rel => exact ⟨i + 1, by go_num, by omega, by omega, by rw [HF.out, HN.out], by first | trivial | exact hw0⟩
          case measure => first | (simp [intOf]; done) | (simp [intOf]; omega)
        | false =>
          have HN : Hid (fb l (lb S E) (E - i) i = i) := by
            unfold Hid
            rw [show E - i = (E - (i + 1)) + 1 from by omega]
            conv => lhs; unfold fb
            rw [if_neg (by rw [hbl]; simp)]
          go_wp2_with (go_at_call 37; refine (isBlank_any (at8 l i) _).mono ?_; rintro e w' ⟨rfl, hw⟩; have hq := hw.symm; subst hq; rw [hbl])
          go_ret2
          exact ⟨by rw [HA.out, HF.out, HN.out]; rfl, by first | trivial | exact hw0⟩
      · obtain rfl : i = E := by omega
        have HN : Hid (fb l (lb S i) (i - i) i = lb S i) := by unfold Hid; rw [Nat.sub_self]; rfl
        go_wp2_with (go_at_call 36; refine (lastByte_any S i _ hse hE).mono ?_; rintro e w' ⟨rfl, hw⟩; have hq := hw.symm; subst hq)
        go_ret2
        exact ⟨by rw [HA.out, HF.out, HN.out]; rfl, by first | trivial | exact hw0⟩
  | false =>
    have HA : Hid (pr (aFirst l L) = .returned (.tuple #[.int .i64 0, .int .i64 2])) := by unfold Hid pr aFirst ans; rw [hb]; rfl
    have hn : Hid (L < 0 ∨ (nl l : Int) < L) := ln_no hb
    clear hb
    go_enter Try.func19, Try.ntmps19
    go_wp2_with (go_at_call 34; refine (startOf_no ao n c L l _ h63 hn.out HT).mono ?_; rintro e w' ⟨rfl, hw⟩; have hq := hw.symm; subst hq)
    go_ret2
    exact ⟨by rw [HA.out]; rfl, rfl⟩
end Go.Proofs.Ytbkhbnmihnomaaa
