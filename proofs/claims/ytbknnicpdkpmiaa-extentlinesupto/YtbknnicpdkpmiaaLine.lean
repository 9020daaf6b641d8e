/- The contracts of lines.isPlace, lastByte, isBlank, endFrom and startOf. -/
import Derived.Test.YtbknnicpdkpmiaaKit
namespace Go.Proofs.Ytbknnicpdkpmiaa
open Go.RowKit

theorem at8_drop (l : List UInt8) (s j : Nat) : at8 (l.drop s) j = at8 l (s + j) := by simp [at8, List.getD]
theorem add_add (a : Addr) (l j : Nat) (hl : 0 < l) : (a.add l).add j = a.add (l + j) := by
  unfold Addr.add
  by_cases hj : j = 0
  · subst hj; simp
  · rw [if_neg hj, if_neg (by omega), if_neg (by omega)]; simp; omega
theorem Tx.tail0 {w : World} {a : Addr} {n c s : Nat} {l : List UInt8} (h : Tx w (some a) n c l) (hs : s ≤ n) (hc : c = s) : Tx w (some a) (n - s) 0 (l.drop s) :=
  ⟨by rw [List.length_drop, h.len], by have := h.cap; omega, by have := h.big; omega, fun _ => rfl, fun _ _ j hj => by have := h.cap; omega⟩
theorem Tx.tail {w : World} {a : Addr} {n c s : Nat} {l : List UInt8} (h : Tx w (some a) n c l) (hs : s ≤ n) : Tx w (some (a.add s)) (n - s) (c - s) (l.drop s) := by
  refine ⟨by rw [List.length_drop, h.len], by have := h.cap; omega, by have := h.big; omega, fun h => by simp at h, fun a' ha j hj => ?_⟩
  have e : a.add s = a' := by simpa using ha
  subst e
  rw [at8_drop]
  rcases Nat.eq_zero_or_pos s with h0 | h0
  · subst h0
    have := h.cells a rfl j (by omega)
    simpa [Addr.add] using this
  · rw [add_add a s j h0]
    exact h.cells a rfl (s + j) (by omega)
theorem ix_cases {n s : Nat} {l : List UInt8} (hl : l.length = n) (hs : s ≤ n) :
    (∃ k : Nat, ixI (l.drop s) (n - s) = k ∧ en l s = s + k ∧ s + k < n) ∨ (ixI (l.drop s) (n - s) = -1 ∧ en l s = n) := by
  have h1 : (l.drop s).findIdx le ≤ (l.drop s).length := List.findIdx_le_length
  rw [List.length_drop, hl] at h1
  unfold ixI en
  by_cases h : (l.drop s).findIdx le < n - s
  · exact .inl ⟨_, if_pos h, rfl, by omega⟩
  · exact .inr ⟨if_neg h, by omega⟩

theorem index_at {ao : Option Addr} {n c s : Nat} {l : List UInt8} (r : Int) (w : World) (h : Tx w ao n c (l.drop s)) (hr : ixI (l.drop s) n = r) :
    Calls Try.prog 38 #[.slice ao n c, .int .u8 10] w fun e w' => e = .returned (.int .i64 r) ∧ w' = w := by
  have := index_any ao n c (l.drop s) w h
  rwa [hr] at this

set_option maxHeartbeats 400000 in
theorem endFrom_any (ao : Option Addr) (n c s : Nat) (l : List UInt8) (w : World) (hs : s ≤ n) (HT : Hid (Tx w ao n c l)) :
    Calls Try.prog 32 #[.slice ao n c, .int .i64 s] w fun e w' => e = .returned (.int .i64 (en l s)) ∧ w' = w := by
  cases ao with
  | none =>
    obtain ⟨rfl, rfl, rfl⟩ := HT.out.none
    obtain rfl : s = 0 := by omega
    have he : en [] 0 = 0 := rfl
    go_enter Try.func32, Try.ntmps32
    go_wp2_with (go_at_call 38; refine (index_at (s := 0) (l := []) (-1) w HT.out rfl).mono ?_; rintro e w' ⟨rfl, hw⟩; subst hw)
    go_ret
    exact ⟨rfl, rfl⟩
  | some a =>
    have hcap := HT.out.cap
    have hbig : (n : Int) ≤ 140737488355328 := by have := HT.out.big; omega
    have hs' : (s : Int) ≤ n := by omega
    rcases ix_cases HT.out.len hs with ⟨k, hi, he, hk⟩ | ⟨hi, he⟩
    · have HI : Hid (ixI (l.drop s) (n - s) = k) := hi
      have HE : Hid (en l s = s + k) := he
      have hk' : (s : Int) + k < n := by omega
      clear hi he
      go_enter Try.func32, Try.ntmps32
      go_wp2_with (go_at_call 38; refine (index_at (s := s) (l := l) (k : Int) w (by first | exact HT.out.tail hs | exact HT.out.tail0 hs rfl | (exact HT.out.tail0 hs (by assumption))) HI.out).mono ?_; rintro e w' ⟨rfl, hw⟩; subst hw)
      all_goals go_ret
      all_goals (refine ⟨?_, rfl⟩; rw [HE.out]; push_cast; first | rfl | (congr 2; omega))
    · have HI : Hid (ixI (l.drop s) (n - s) = -1) := hi
      have HE : Hid (en l s = n) := he
      clear hi he
      go_enter Try.func32, Try.ntmps32
      go_wp2_with (go_at_call 38; refine (index_at (s := s) (l := l) (-1) w (by first | exact HT.out.tail hs | exact HT.out.tail0 hs rfl | (exact HT.out.tail0 hs (by assumption))) HI.out).mono ?_; rintro e w' ⟨rfl, hw⟩; subst hw)
      all_goals go_ret
      all_goals (refine ⟨?_, rfl⟩; rw [HE.out]; rfl)

set_option maxHeartbeats 400000 in
theorem startOf_neg (ao : Option Addr) (n c : Nat) (L : Int) (w : World) (hL : L < 0) :
    Calls Try.prog 36 #[.slice ao n c, .int .i64 L] w fun e w' => e = .returned (.tuple #[.int .i64 0, .bool false]) ∧ w' = w := by
  go_enter Try.func36, Try.ntmps36
  go_wp2
  go_ret2
  exact ⟨rfl, rfl⟩

set_option maxHeartbeats 1000000 in
theorem startOf_some (a : Addr) (n c L : Nat) (l : List UInt8) (w : World) (hL63 : (L : Int) ≤ 9223372036854775807) (HT : Hid (Tx w (some a) n c l)) :
    Calls Try.prog 36 #[.slice (some a) n c, .int .i64 L] w fun e w' => ((L ≤ nl l ∧ e = .returned (.tuple #[.int .i64 (sp l L), .bool true])) ∨ (nl l < L ∧ e = .returned (.tuple #[.int .i64 0, .bool false]))) ∧ w' = w := by
  have hcap := HT.out.cap
  have hbig : (n : Int) ≤ 140737488355328 := by have := HT.out.big; omega
  go_enter Try.func36, Try.ntmps36
  go_wp2_with fail
  go_loopw [1, 6] (fun u v wr => ∃ m s k : Nat, u = .int .i64 m ∧ v = .int .i64 s ∧ k + m = L ∧ St l k s ∧ wr = w) (fun u _ _ => (intOf u).toNat)
  case atStart => exact ⟨L, 0, 0, rfl, rfl, by omega, St.zero l, rfl⟩
  case round =>
    obtain ⟨m, s, k, rfl, rfl, hk, hst, rfl⟩ := hrel
    have HK : Hid (k + m = L) := hk
    have HS : Hid (St l k s) := hst
    have hs : s ≤ n := by have := hst.low'; rw [HT.out.len] at this; exact this
    have hs' : (s : Int) ≤ n := by omega
    have hmL : (m : Int) ≤ 9223372036854775807 := by omega
    clear hk hst
    rcases Nat.eq_zero_or_pos m with h0 | h0
    · subst h0
      go_wp2
      go_ret2
      refine ⟨.inl ⟨?_, ?_⟩, rfl⟩
      · have := HS.out.low; have := HK.out; omega
      · have e1 : sp l L = s := by rw [← HK.out]; exact sp_eq HS.out
        rw [e1]; rfl
    · have hm1 : (1 : Int) ≤ m := by omega
      rcases ix_cases HT.out.len hs with ⟨j, hi, he, hj⟩ | ⟨hi, he⟩
      · have HI : Hid (ixI (l.drop s) (n - s) = j) := hi
        have HE : Hid (en l s = s + j) := he
        have hj' : (s : Int) + j < n := by omega
        clear hi he
        go_wp2_with (go_at_call 38; refine (index_at (s := s) (l := l) (j : Int) _ (by first | exact HT.out.tail hs | exact HT.out.tail0 hs rfl | (exact HT.out.tail0 hs (by assumption))) HI.out).mono ?_; rintro e w' ⟨rfl, hw⟩; subst hw)
        all_goals go_roundw
        case rel =>
          refine ⟨m - 1, s + j + 1, k + 1, by go_num, by go_num, by have := HK.out; omega, ?_, by trivial⟩
          have h1 := HS.out.next (by rw [HE.out, HT.out.len]; exact hj)
          rwa [HE.out] at h1
        case measure => simp [intOf]; omega
      · have HI : Hid (ixI (l.drop s) (n - s) = -1) := hi
        have HE : Hid (en l s = n) := he
        clear hi he
        go_wp2_with (go_at_call 38; refine (index_at (s := s) (l := l) (-1) _ (by first | exact HT.out.tail hs | exact HT.out.tail0 hs rfl | (exact HT.out.tail0 hs (by assumption))) HI.out).mono ?_; rintro e w' ⟨rfl, hw⟩; subst hw)
        all_goals go_ret2
        all_goals (refine ⟨.inr ⟨?_, rfl⟩, rfl⟩; have h1 := HS.out.last (by rw [HE.out, HT.out.len]); have h2 := HK.out; omega)

set_option maxHeartbeats 1000000 in
theorem startOf_none (L : Nat) (w : World) (hL63 : (L : Int) ≤ 9223372036854775807) :
    Calls Try.prog 36 #[.slice none 0 0, .int .i64 L] w fun e w' => ((L ≤ nl [] ∧ e = .returned (.tuple #[.int .i64 (sp [] L), .bool true])) ∨ (nl [] < L ∧ e = .returned (.tuple #[.int .i64 0, .bool false]))) ∧ w' = w := by
  go_enter Try.func36, Try.ntmps36
  go_wp2_with fail
  go_loopw [1, 6] (fun u v wr => u = .int .i64 L ∧ v = .int .i64 0 ∧ wr = w) (fun u _ _ => (intOf u).toNat)
  case atStart => exact ⟨rfl, rfl, rfl⟩
  case round =>
    obtain ⟨rfl, rfl, rfl⟩ := hrel
    rcases Nat.eq_zero_or_pos L with h0 | h0
    · subst h0
      go_wp2
      go_ret2
      exact ⟨.inl ⟨Nat.zero_le _, rfl⟩, rfl⟩
    · have hm1 : (1 : Int) ≤ L := by omega
      go_wp2_with (go_at_call 38; refine (index_at (s := 0) (l := []) (-1) _ (tx_nil _) rfl).mono ?_; rintro e w' ⟨rfl, hw⟩; subst hw)
      all_goals go_ret2
      exact ⟨.inr ⟨h0, rfl⟩, rfl⟩

theorem startOf_yes (ao : Option Addr) (n c L : Nat) (l : List UInt8) (w : World) (hL : L ≤ nl l) (HT : Hid (Tx w ao n c l)) :
    Calls Try.prog 36 #[.slice ao n c, .int .i64 L] w fun e w' => e = .returned (.tuple #[.int .i64 (sp l L), .bool true]) ∧ w' = w := by
  have h63 : (L : Int) ≤ 9223372036854775807 := by have := nl_le l; have := HT.out.len; have := HT.out.big; omega
  cases ao with
  | none =>
    obtain ⟨rfl, rfl, rfl⟩ := HT.out.none
    refine (startOf_none L w h63).mono ?_
    rintro e w' ⟨⟨_, rfl⟩ | ⟨h, _⟩, hw⟩
    · exact ⟨rfl, hw⟩
    · omega
  | some a =>
    refine (startOf_some a n c L l w h63 HT).mono ?_
    rintro e w' ⟨⟨_, rfl⟩ | ⟨h, _⟩, hw⟩
    · exact ⟨rfl, hw⟩
    · omega
theorem startOf_no (ao : Option Addr) (n c : Nat) (L : Int) (l : List UInt8) (w : World) (h63 : L ≤ 9223372036854775807) (hL : L < 0 ∨ (nl l : Int) < L) (HT : Hid (Tx w ao n c l)) :
    Calls Try.prog 36 #[.slice ao n c, .int .i64 L] w fun e w' => e = .returned (.tuple #[.int .i64 0, .bool false]) ∧ w' = w := by
  rcases hL with hL | hL
  · exact startOf_neg ao n c L w hL
  obtain ⟨L, rfl⟩ := Int.eq_ofNat_of_zero_le (show 0 ≤ L by omega)
  cases ao with
  | none =>
    obtain ⟨rfl, rfl, rfl⟩ := HT.out.none
    refine (startOf_none L w h63).mono ?_
    rintro e w' ⟨⟨_, rfl⟩ | ⟨h, rfl⟩, hw⟩
    · omega
    · exact ⟨rfl, hw⟩
  | some a =>
    refine (startOf_some a n c L l w h63 HT).mono ?_
    rintro e w' ⟨⟨_, rfl⟩ | ⟨h, rfl⟩, hw⟩
    · omega
    · exact ⟨rfl, hw⟩

set_option maxHeartbeats 400000 in
theorem isPlace_any (ao : Option Addr) (n c : Nat) (i : Int) (w : World) :
    Calls Try.prog 39 #[.slice ao n c, .int .i64 i] w fun e w' => e = .returned (.bool (decide (0 ≤ i ∧ i ≤ n))) ∧ w' = w := by
  by_cases h0 : 0 ≤ i
  · by_cases h1 : i ≤ n
    · have hd : decide (0 ≤ i ∧ i ≤ n) = true := decide_eq_true ⟨h0, h1⟩
      rw [hd]
      go_enter Try.func39, Try.ntmps39
      go_wp2
      go_ret
      exact ⟨rfl, rfl⟩
    · have hd : decide (0 ≤ i ∧ i ≤ n) = false := decide_eq_false (fun h => h1 h.2)
      rw [hd]
      go_enter Try.func39, Try.ntmps39
      go_wp2
      go_ret
      exact ⟨rfl, rfl⟩
  · have hd : decide (0 ≤ i ∧ i ≤ n) = false := decide_eq_false (fun h => h0 h.1)
    rw [hd]
    go_enter Try.func39, Try.ntmps39
    go_wp2
    go_ret
    exact ⟨rfl, rfl⟩

/-- the last byte of a line, or its start -/
def lb (s e : Nat) : Nat := max s (e - 1)
/-- is a byte a blank -/
def bl (b : UInt8) : Bool := ((b.toNat : Int) == 32) || ((b.toNat : Int) == 9)
end Go.Proofs.Ytbknnicpdkpmiaa