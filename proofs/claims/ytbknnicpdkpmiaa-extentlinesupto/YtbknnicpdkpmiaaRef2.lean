/- The contracts of quoinref05.Of, begin, Column, First, At and Rest. -/
import Derived.Test.YtbknnicpdkpmiaaRef
namespace Go.Proofs.Ytbknnicpdkpmiaa
open Go.RowKit

theorem pl_no {l : List UInt8} {n : Nat} {i : Int} (hl : l.length = n) (h : plB l i = false) : i < 0 ∨ (n : Int) < i := by
  have h := of_decide_eq_false h
  omega

set_option maxHeartbeats 1000000 in
theorem refOf_any (ao : Option Addr) (n c : Nat) (i : Int) (l : List UInt8) (w : World) (HT : Hid (Tx w ao n c l)) :
    Calls Try.prog 18 #[.slice ao n c, .int .i64 i] w fun e w' => e = pr (aOf l i) ∧ w' = w := by
  have hlen := HT.out.len
  have hbig : (n : Int) ≤ 140737488355328 := by have := HT.out.big; omega
  cases hb : plB l i with
  | true =>
    obtain ⟨k, rfl, hk⟩ := pl_yes hb
    have HA : Hid (pr (aOf l (k : Int)) = .returned (.tuple #[.int .i64 (nl (l.take k)), .int .i64 0])) := by unfold Hid pr aOf ans; rw [hb]; rfl
    have hkn : k ≤ n := by omega
    have hk0 : ¬ (k : Int) < 0 := by omega
    have hk1 : ¬ (k : Int) > (n : Int) := by omega
    have hcap := HT.out.cap
    have hq : (nl (l.take k) : Int) ≤ k := by have h1 := nl_le (l.take k); have h2 : (l.take k).length ≤ k := List.length_take_le _ _; omega
    have hq0 : (0 : Int) ≤ (nl (l.take k) : Int) := by omega
    clear hb hlen
    cases ao with
    | none =>
      obtain ⟨rfl, rfl, rfl⟩ := HT.out.none
      obtain rfl : k = 0 := by omega
      have hz : nl [] = 0 := rfl
      go_enter Try.func18, Try.ntmps18
      go_wp2_with (go_at_call 33; refine (refCount_any _ _ _ [] _ (tx_nil _)).mono ?_; rintro e w2 ⟨rfl, hw⟩; subst hw)
      go_ret2
      exact ⟨by rw [HA.out]; rfl, rfl⟩
    | some a =>
      go_enter Try.func18, Try.ntmps18
      go_wp2_with (go_at_call 33; refine (refCount_any _ _ _ (l.take k) _ (HT.out.head hkn)).mono ?_; rintro e w2 ⟨rfl, hw⟩; subst hw)
      go_ret2
      exact ⟨by rw [HA.out]; rfl, rfl⟩
  | false =>
    have hno := pl_no hlen hb
    have HA : Hid (pr (aOf l i) = .returned (.tuple #[.int .i64 0, .int .i64 2])) := by unfold Hid pr aOf ans; rw [hb]; rfl
    clear hb
    by_cases h0 : i < 0
    · go_enter Try.func18, Try.ntmps18
      go_wp2
      go_ret2
      exact ⟨by rw [HA.out]; rfl, rfl⟩
    · have h1 : (n : Int) < i := by omega
      clear hno
      go_enter Try.func18, Try.ntmps18
      go_wp2
      go_ret2
      exact ⟨by rw [HA.out]; rfl, rfl⟩

theorem lb_lt {s e : Nat} (h : s < e) : (lb s e : Int) = (e : Int) - 1 := by unfold lb; omega
theorem lb_eq {s e : Nat} (h : s = e) : lb s e = s := by unfold lb; omega

end Go.Proofs.Ytbknnicpdkpmiaa