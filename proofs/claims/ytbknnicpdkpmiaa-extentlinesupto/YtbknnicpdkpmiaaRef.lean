/- The contracts of quoinref05.Count, Start, End, Of, begin and Column. -/
import Derived.Test.YtbknnicpdkpmiaaFns
namespace Go.Proofs.Ytbknnicpdkpmiaa
open Go.RowKit

theorem le_of {l : List UInt8} {i : Nat} {b : Bool} (h : (((at8 l i).toNat : Int) == 10) = b) : le (at8 l i) = b := h

set_option maxHeartbeats 1000000 in
theorem refCount_any (ao : Option Addr) (n c : Nat) (l : List UInt8) (w : World) (HT : Hid (Tx w ao n c l)) :
    Calls Try.prog 33 #[.slice ao n c] w fun e w' => e = .returned (.int .i64 ((nl l : Int) + 1)) ∧ w' = w := by
  have hbig : (n : Int) ≤ 140737488355328 := by have := HT.out.big; omega
  have HL : Hid (l.length = n) := HT.out.len
  go_enter Try.func33, Try.ntmps33
  go_wp2_with fail
  go_loopw [3, 4] (fun u v wr => ∃ i : Nat, u = .int .i64 ((nl (l.take i) : Int) + 1) ∧ v = .int .i64 i ∧ i ≤ n ∧ wr = w) (fun _ v _ => n - (intOf v).toNat)
  case atStart => exact ⟨0, by rw [List.take_zero]; rfl, rfl, Nat.zero_le _, rfl⟩
  case round =>
    obtain ⟨i, rfl, rfl, hi, rfl⟩ := hrel
    by_cases hlt : i < n
    · obtain ⟨g, o, rfl, hc⟩ := HT.out.at (by omega)
      have hc0 := hc i hlt
      have hi0 : (0 : Int) ≤ (i : Int) := by omega
      have hin : (i : Int) < (n : Int) := by omega
      have hq : (nl (l.take i) : Int) ≤ i := by have h1 := nl_le (l.take i); have h2 : (l.take i).length ≤ i := List.length_take_le _ _; omega
      have hq0 : (0 : Int) ≤ (nl (l.take i) : Int) := by omega
      have HN := Hid.mk' (nl_take l i (by rw [HL.out]; exact hlt))
      clear hc
      cases h10 : (((at8 l i).toNat : Int) == 10) with
      | false =>
        have HN2 : Hid (nl (l.take (i + 1)) = nl (l.take i)) := by unfold Hid; rw [HN.out, le_of h10]; rfl
        go_wp2
        go_roundw
        case rel => exact ⟨i + 1, by rw [HN2.out], by go_num, by omega, by trivial⟩
        case measure => first | (simp [intOf]; done) | (simp [intOf]; omega)
      | true =>
        have HN2 : Hid (nl (l.take (i + 1)) = nl (l.take i) + 1) := by unfold Hid; rw [HN.out, le_of h10]; rfl
        go_wp2
        go_roundw
        case rel => exact ⟨i + 1, by rw [HN2.out]; go_num, by go_num, by omega, by trivial⟩
        case measure => first | (simp [intOf]; done) | (simp [intOf]; omega)
    · obtain rfl : i = n := by omega
      have HN : Hid (l.take i = l) := List.take_of_length_le (by rw [HL.out]; exact Nat.le_refl _)
      go_wp2
      go_ret
      exact ⟨by rw [HN.out]; rfl, rfl⟩

set_option maxHeartbeats 1000000 in
theorem refStart_any (ao : Option Addr) (n c : Nat) (L : Int) (l : List UInt8) (w : World) (h63 : L ≤ 9223372036854775807) (HT : Hid (Tx w ao n c l)) :
    Calls Try.prog 27 #[.slice ao n c, .int .i64 L] w fun e w' => e = pr (aStart l L) ∧ w' = w := by
  have hbig : (n : Int) ≤ 140737488355328 := by have := HT.out.big; omega
  have HL : Hid (l.length = n) := HT.out.len
  by_cases hneg : L < 0
  · have HA : Hid (pr (aStart l L) = .returned (.tuple #[.int .i64 0, .int .i64 2])) := by
      unfold Hid pr aStart ans lnB; rw [decide_eq_false (by omega)]; rfl
    go_enter Try.func27, Try.ntmps27
    go_wp2
    go_ret2
    exact ⟨by rw [HA.out]; rfl, rfl⟩
  obtain ⟨K, rfl⟩ := Int.eq_ofNat_of_zero_le (show 0 ≤ L by omega)
  have HY : Hid (∀ s, St l K s → pr (aStart l (K : Int)) = .returned (.tuple #[.int .i64 s, .int .i64 0])) := by
    intro s hs
    have := hs.low
    unfold pr aStart ans lnB
    rw [decide_eq_true (by omega), Int.toNat_natCast, sp_eq hs]; rfl
  have HZ : Hid (nl l < K → pr (aStart l (K : Int)) = .returned (.tuple #[.int .i64 0, .int .i64 2])) := by
    intro h
    unfold pr aStart ans lnB; rw [decide_eq_false (by omega)]; rfl
  clear hneg
  by_cases h0 : K = 0
  · subst h0
    go_enter Try.func27, Try.ntmps27
    go_wp2
    go_ret2
    exact ⟨by rw [HY.out 0 (St.zero l)]; rfl, rfl⟩
  have hK1 : (1 : Int) ≤ (K : Int) := by omega
  go_enter Try.func27, Try.ntmps27
  go_wp2_with fail
  go_loopw [1, 6] (fun u v wr => ∃ (m : Int) (i : Nat), u = .int .i64 m ∧ v = .int .i64 i ∧ m + nl (l.take i) = K ∧ 1 ≤ m ∧ i ≤ n ∧ wr = w) (fun _ v _ => n - (intOf v).toNat)
  case atStart => exact ⟨K, 0, rfl, rfl, by rw [List.take_zero, nl_nil]; omega, hK1, Nat.zero_le _, rfl⟩
  case round =>
    obtain ⟨m, i, rfl, rfl, hm, hm1, hi, rfl⟩ := hrel
    have HM : Hid (m + nl (l.take i) = K) := hm
    have hmb : m ≤ 9223372036854775807 := by omega
    clear hm
    by_cases hlt : i < n
    · obtain ⟨g, o, rfl, hc⟩ := HT.out.at (by omega)
      have hc0 := hc i hlt
      have hi0 : (0 : Int) ≤ (i : Int) := by omega
      have hin : (i : Int) < (n : Int) := by omega
      have HN := Hid.mk' (nl_take l i (by rw [HL.out]; exact hlt))
      clear hc
      cases h10 : (((at8 l i).toNat : Int) == 10) with
      | false =>
        have HN2 : Hid (nl (l.take (i + 1)) = nl (l.take i)) := by unfold Hid; rw [HN.out, le_of h10]; rfl
        go_wp2
        go_roundw
        case rel => exact ⟨m, i + 1, rfl, by go_num, by rw [HN2.out]; exact HM.out, hm1, by omega, by trivial⟩
        case measure => first | (simp [intOf]; done) | (simp [intOf]; omega)
      | true =>
        have HN2 : Hid (nl (l.take (i + 1)) = nl (l.take i) + 1) := by unfold Hid; rw [HN.out, le_of h10]; rfl
        by_cases hz : m = 1
        · subst hz
          have HS : Hid (St l K (i + 1)) := ⟨by rw [HL.out]; exact hlt, by rw [HN2.out]; have := HM.out; omega, .inr ⟨by omega, h10⟩⟩
          go_wp2
          go_ret2
          exact ⟨by rw [HY.out _ HS.out]; rfl, rfl⟩
        · have hz2 : (m - 1 == 0) = false := by rw [beq_eq_false_iff_ne]; omega
          have hz3 : ¬ (m - 1 = 0) := by omega
          go_wp2
          go_roundw
          case rel => exact ⟨m - 1, i + 1, rfl, by go_num, by rw [HN2.out]; have := HM.out; push_cast; omega, by omega, by omega, by trivial⟩
          case measure => first | (simp [intOf]; done) | (simp [intOf]; omega)
    · obtain rfl : i = n := by omega
      have HN : Hid (l.take i = l) := List.take_of_length_le (by rw [HL.out]; exact Nat.le_refl _)
      go_wp2
      go_ret2
      refine ⟨?_, rfl⟩
      rw [HZ.out (by have := HM.out; rw [HN.out] at this; omega)]
      rfl

end Go.Proofs.Ytbknnicpdkpmiaa
