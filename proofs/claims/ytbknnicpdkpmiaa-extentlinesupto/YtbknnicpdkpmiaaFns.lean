/- The contracts of lines.Start, End, Of, Column, At and First. -/
import Derived.Test.YtbknnicpdkpmiaaLine
namespace Go.Proofs.Ytbknnicpdkpmiaa
open Go.RowKit

/-- is there a line of this number -/
def lnB (l : List UInt8) (L : Int) : Bool := decide (0 ≤ L ∧ L ≤ nl l)
/-- is there a place of this number -/
def plB (l : List UInt8) (i : Int) : Bool := decide (0 ≤ i ∧ i ≤ l.length)
/-- an answer and its error -/
def ans (b : Bool) (x : Nat) : Int × Int := if b then (x, 0) else (0, 2)
def aStart (l : List UInt8) (L : Int) : Int × Int := ans (lnB l L) (sp l L.toNat)
def aEnd (l : List UInt8) (L : Int) : Int × Int := ans (lnB l L) (en l (sp l L.toNat))
def aOf (l : List UInt8) (i : Int) : Int × Int := ans (plB l i) (nl (l.take i.toNat))
def aCol (l : List UInt8) (i : Int) : Int × Int := ans (plB l i) (i.toNat - bg l i.toNat)
/-- the first byte that is no blank, of the next d from i on; else z -/
def fb (l : List UInt8) (z : Nat) : Nat → Nat → Nat
  | 0, _ => z
  | d + 1, i => if bl (at8 l i) then fb l z d (i + 1) else i
def aFirst (l : List UInt8) (L : Int) : Int × Int := ans (lnB l L) (fb l (lb (sp l L.toNat) (en l (sp l L.toNat))) (en l (sp l L.toNat) - sp l L.toNat) (sp l L.toNat))
/-- the place of a column of the line from s to e -/
def pc (s e : Nat) (c : Int) : Nat := if 0 ≤ c ∧ c < (e : Int) - s then s + c.toNat else lb s e
def aAt (l : List UInt8) (L c : Int) : Int × Int := ans (lnB l L && decide (-1 ≤ c)) (pc (sp l L.toNat) (en l (sp l L.toNat)) c)
/-- a pair as a call gives it -/
def pr (x : Int × Int) : Ending := .returned (.tuple #[.int .i64 x.1, .int .i64 x.2])

theorem ln_yes {l : List UInt8} {L : Int} (h : lnB l L = true) : ∃ k : Nat, L = k ∧ k ≤ nl l := by
  have h := of_decide_eq_true h
  obtain ⟨k, rfl⟩ := Int.eq_ofNat_of_zero_le h.1
  exact ⟨k, rfl, by omega⟩
theorem ln_no {l : List UInt8} {L : Int} (h : lnB l L = false) : L < 0 ∨ (nl l : Int) < L := by
  have h := of_decide_eq_false h
  omega
theorem pl_yes {l : List UInt8} {L : Int} (h : plB l L = true) : ∃ k : Nat, L = k ∧ k ≤ l.length := by
  have h := of_decide_eq_true h
  obtain ⟨k, rfl⟩ := Int.eq_ofNat_of_zero_le h.1
  exact ⟨k, rfl, by omega⟩
theorem lb_le {s e : Nat} (h : s ≤ e) : lb s e ≤ e := by unfold lb; omega

set_option maxHeartbeats 400000 in
theorem start_any (ao : Option Addr) (n c : Nat) (L : Int) (l : List UInt8) (w : World) (h63 : L ≤ 9223372036854775807) (HT : Hid (Tx w ao n c l)) :
    Calls Try.prog 28 #[.slice ao n c, .int .i64 L] w fun e w' => e = pr (aStart l L) ∧ w' = w := by
  cases hb : lnB l L with
  | true =>
    obtain ⟨k, rfl, hk⟩ := ln_yes hb
    have HA : Hid (pr (aStart l (k : Int)) = .returned (.tuple #[.int .i64 (sp l k), .int .i64 0])) := by unfold Hid pr aStart ans; rw [hb]; rfl
    clear hb
    go_enter Try.func28, Try.ntmps28
    go_wp2_with (go_at_call 36; refine (startOf_yes ao n c k l _ hk HT).mono ?_; rintro e w' ⟨rfl, hw⟩; subst hw)
    go_ret2
    exact ⟨by rw [HA.out]; rfl, rfl⟩
  | false =>
    have HA : Hid (pr (aStart l L) = .returned (.tuple #[.int .i64 0, .int .i64 2])) := by unfold Hid pr aStart ans; rw [hb]; rfl
    have hn : Hid (L < 0 ∨ (nl l : Int) < L) := ln_no hb
    clear hb
    go_enter Try.func28, Try.ntmps28
    go_wp2_with (go_at_call 36; refine (startOf_no ao n c L l _ h63 hn.out HT).mono ?_; rintro e w' ⟨rfl, hw⟩; subst hw)
    go_ret2
    exact ⟨by rw [HA.out]; rfl, rfl⟩

set_option maxHeartbeats 400000 in
theorem end_any (ao : Option Addr) (n c : Nat) (L : Int) (l : List UInt8) (w : World) (h63 : L ≤ 9223372036854775807) (HT : Hid (Tx w ao n c l)) :
    Calls Try.prog 29 #[.slice ao n c, .int .i64 L] w fun e w' => e = pr (aEnd l L) ∧ w' = w := by
  cases hb : lnB l L with
  | true =>
    obtain ⟨k, rfl, hk⟩ := ln_yes hb
    have HA : Hid (pr (aEnd l (k : Int)) = .returned (.tuple #[.int .i64 (en l (sp l k)), .int .i64 0])) := by unfold Hid pr aEnd ans; rw [hb]; rfl
    have hs : sp l k ≤ n := by have := sp_le hk; rw [HT.out.len] at this; exact this
    clear hb
    go_enter Try.func29, Try.ntmps29
    go_wp2_with (first | (go_at_call 36; refine (startOf_yes ao n c k l _ hk HT).mono ?_; rintro e w' ⟨rfl, hw⟩; subst hw) | (go_at_call 32; refine (endFrom_any ao n c (sp l k) l _ hs HT).mono ?_; rintro e w' ⟨rfl, hw⟩; subst hw))
    go_ret2
    exact ⟨by rw [HA.out]; rfl, rfl⟩
  | false =>
    have HA : Hid (pr (aEnd l L) = .returned (.tuple #[.int .i64 0, .int .i64 2])) := by unfold Hid pr aEnd ans; rw [hb]; rfl
    have hn : Hid (L < 0 ∨ (nl l : Int) < L) := ln_no hb
    clear hb
    go_enter Try.func29, Try.ntmps29
    go_wp2_with (go_at_call 36; refine (startOf_no ao n c L l _ h63 hn.out HT).mono ?_; rintro e w' ⟨rfl, hw⟩; subst hw)
    go_ret2
    exact ⟨by rw [HA.out]; rfl, rfl⟩

theorem Tx.head {w : World} {ao : Option Addr} {n c i : Nat} {l : List UInt8} (h : Tx w ao n c l) (hi : i ≤ n) : Tx w ao i c (l.take i) := by
  refine ⟨by rw [List.length_take, h.len]; omega, by have := h.cap; omega, by have := h.big; omega, h.nil, fun a ha j hj => ?_⟩
  rw [h.cells a ha j (by omega)]
  have : at8 (l.take i) j = at8 l j := by simp [at8, List.getD, hj]
  rw [this]

set_option maxHeartbeats 400000 in
theorem lof_any (ao : Option Addr) (n c : Nat) (i : Int) (l : List UInt8) (w : World) (HT : Hid (Tx w ao n c l)) :
    Calls Try.prog 34 #[.slice ao n c, .int .i64 i] w fun e w' => e = pr (aOf l i) ∧ Below w.heap.size w w' := by
  have hlen := HT.out.len
  cases hb : plB l i with
  | true =>
    obtain ⟨k, rfl, hk⟩ := pl_yes hb
    have hp : decide ((0 : Int) ≤ (k : Int) ∧ (k : Int) ≤ n) = true := decide_eq_true (by omega)
    have HA : Hid (pr (aOf l (k : Int)) = .returned (.tuple #[.int .i64 (nl (l.take k)), .int .i64 0])) := by unfold Hid pr aOf ans; rw [hb]; rfl
    have hkn : k ≤ n := by omega
    have hcap := HT.out.cap
    clear hb hlen
    cases ao with
    | none =>
      obtain ⟨rfl, rfl, rfl⟩ := HT.out.none
      obtain rfl : k = 0 := by omega
      go_enter Try.func34, Try.ntmps34
      go_wp2_with (first | (go_at_call 39; refine (isPlace_any _ _ _ _ _).mono ?_; rintro e w' ⟨rfl, hw⟩; subst hw) | (go_at_call 37; refine (lineEnds_any _ _ _ [] _ (tx_nil _)).mono ?_; rintro e w2 ⟨rfl, hw⟩))
      go_ret2
      exact ⟨by rw [HA.out]; rfl, hw⟩
    | some a =>
      go_enter Try.func34, Try.ntmps34
      go_wp2_with (first | (go_at_call 39; refine (isPlace_any _ _ _ _ _).mono ?_; rintro e w' ⟨rfl, hw⟩; subst hw; rw [hp]) | (go_at_call 37; refine (lineEnds_any _ _ _ (l.take k) _ (HT.out.head hkn)).mono ?_; rintro e w2 ⟨rfl, hw⟩))
      go_ret2
      exact ⟨by rw [HA.out]; rfl, hw⟩
  | false =>
    have hp : decide ((0 : Int) ≤ i ∧ i ≤ (n : Int)) = false := by rw [← hlen]; exact hb
    have HA : Hid (pr (aOf l i) = .returned (.tuple #[.int .i64 0, .int .i64 2])) := by unfold Hid pr aOf ans; rw [hb]; rfl
    clear hb
    go_enter Try.func34, Try.ntmps34
    go_wp2_with (go_at_call 39; refine (isPlace_any _ _ _ _ _).mono ?_; rintro e w' ⟨rfl, hw⟩; subst hw; rw [hp])
    go_ret2
    exact ⟨by rw [HA.out]; rfl, Below.refl _ _⟩

theorem bg_take (l : List UInt8) (m : Nat) : ∀ i, i ≤ m → bg (l.take m) i = bg l i
  | 0, _ => rfl
  | i + 1, h => by
    have e : at8 (l.take m) i = at8 l i := by simp [at8, List.getD, show i < m by omega]
    unfold bg
    rw [e, bg_take l m i (by omega)]

end Go.Proofs.Ytbknnicpdkpmiaa