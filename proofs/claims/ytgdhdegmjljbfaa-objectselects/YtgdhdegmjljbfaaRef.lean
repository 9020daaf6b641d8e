/- The contracts of quoinref05.Count, Start, End, Of, begin and Column. -/
import Derived.Test.YtgdhdegmjljbfaaFns
namespace Go.Proofs.Ytgdhdegmjljbfaa
open Go.RowKit

theorem le_of {l : List UInt8} {i : Nat} {b : Bool} (h : (((at8 l i).toNat : Int) == 10) = b) : le (at8 l i) = b := h

set_option maxHeartbeats 1000000 in
theorem refCount_any (ao : Option Addr) (n c : Nat) (l : List UInt8) (w : World) (HT : Hid (Tx w ao n c l)) :
    Calls Try.prog 30 #[.slice ao n c] w fun e w' => e = .returned (.int .i64 ((nl l : Int) + 1)) ∧ w' = w := by
  have hbig : (n : Int) ≤ 140737488355328 := by have := HT.out.big; omega
  have HL : Hid (l.length = n) := HT.out.len
  go_enter Try.func30, Try.ntmps30
  go_wp2_with fail
  go_loopw [3, 4] (fun u v wr => ∃ i : Nat, u = .int .i64 ((nl (l.take i) : Int) + 1) ∧ v = .int .i64 i ∧ i ≤ n ∧ wr = w) (fun _ v _ => n - (intOf v).toNat)
  case atStart => exact ⟨0, by rw [List.take_zero]; rfl, rfl, Nat.zero_le _, rfl⟩
  case round =>
    obtain ⟨i, rfl, rfl, hi, rfl⟩ := hrel
    by_cases hlt : i < n
    · obtain ⟨g, o, rfl, hc⟩ := HT.out.at (by omega)
      have hc0 := hc i hlt
      have hi0 : (0 : Int) ≤ (i : Int) := by omega
      have hin : (i : Int) < (n : Int) := by omega
      have hq : (nl (l.take i) : Int) ≤ i := by have h1 := nl_le (l.take i); have h2 : (l.take i).length ≤ i := List.length_take_le _ _; omega
      have hq0 : (0 : Int) ≤ (nl (l.take i) : Int) := by omega
      have HN := Hid.mk' (nl_take l i (by rw [HL.out]; exact hlt))
      clear hc
      cases h10 : (((at8 l i).toNat : Int) == 10) with
      | false =>
        have HN2 : Hid (nl (l.take (i + 1)) = nl (l.take i)) := by unfold Hid; rw [HN.out, le_of h10]; rfl
        go_wp2
        go_roundw
        case rel => exact ⟨i + 1, by rw [HN2.out], by go_num, by omega, by trivial⟩
        case measure => first | (simp [intOf]; done) | (simp [intOf]; omega)
      | true =>
        have HN2 : Hid (nl (l.take (i + 1)) = nl (l.take i) + 1) := by unfold Hid; rw [HN.out, le_of h10]; rfl
        go_wp2
        go_roundw
        case rel => exact ⟨i + 1, by rw [HN2.out]; go_num, by go_num, by omega, by trivial⟩
        case measure => first | (simp [intOf]; done) | (simp [intOf]; omega)
    · obtain rfl : i = n := by omega
      have HN : Hid (l.take i = l) := List.take_of_length_le (by rw [HL.out]; exact Nat.le_refl _)
      go_wp2
      go_ret
      exact ⟨by rw [HN.out]; rfl, rfl⟩

set_option maxHeartbeats 1000000 in
theorem refStart_any (ao : Option Addr) (n c : Nat) (L : Int) (l : List UInt8) (w : World) (h63 : L ≤ 9223372036854775807) (HT : Hid (Tx w ao n c l)) :
    Calls Try.prog 17 #[.slice ao n c, .int .i64 L] w fun e w' => e = pr (aStart l L) ∧ w' = w := by
  have hbig : (n : Int) ≤ 140737488355328 := by have := HT.out.big; omega
  have HL : Hid (l.length = n) := HT.out.len
  by_cases hneg : L < 0
  · have HA : Hid (pr (aStart l L) = .returned (.tuple #[.int .i64 0, .int .i64 2])) := by
      unfold Hid pr aStart ans lnB; rw [decide_eq_false (by omega)]; rfl
    go_enter Try.func17, Try.ntmps17
    go_wp2
    go_ret2
    exact ⟨by rw [HA.out]; rfl, rfl⟩
  obtain ⟨K, rfl⟩ := Int.eq_ofNat_of_zero_le (show 0 ≤ L by omega)
  have HY : Hid (∀ s, St l K s → pr (aStart l (K : Int)) = .returned (.tuple #[.int .i64 s, .int .i64 0])) := by
    intro s hs
    have := hs.low
    unfold pr aStart ans lnB
    rw [decide_eq_true (by omega), Int.toNat_natCast, sp_eq hs]; rfl
  have HZ : Hid (nl l < K → pr (aStart l (K : Int)) = .returned (.tuple #[.int .i64 0, .int .i64 2])) := by
    intro h
    unfold pr aStart ans lnB; rw [decide_eq_false (by omega)]; rfl
  clear hneg
  by_cases h0 : K = 0
  · subst h0
    go_enter Try.func17, Try.ntmps17
    go_wp2
    go_ret2
    exact ⟨by rw [HY.out 0 (St.zero l)]; rfl, rfl⟩
  have hK1 : (1 : Int) ≤ (K : Int) := by omega
  go_enter Try.func17, Try.ntmps17
  go_wp2_with fail
  go_loopw [1, 6] (fun u v wr => ∃ (m : Int) (i : Nat), u = .int .i64 m ∧ v = .int .i64 i ∧ m + nl (l.take i) = K ∧ 1 ≤ m ∧ i ≤ n ∧ wr = w) (fun _ v _ => n - (intOf v).toNat)
  case atStart => exact ⟨K, 0, rfl, rfl, by rw [List.take_zero, nl_nil]; omega, hK1, Nat.zero_le _, rfl⟩
  case round =>
    obtain ⟨m, i, rfl, rfl, hm, hm1, hi, rfl⟩ := hrel
    have HM : Hid (m + nl (l.take i) = K) := hm
    have hmb : m ≤ 9223372036854775807 := by omega
    clear hm
    by_cases hlt : i < n
    · obtain ⟨g, o, rfl, hc⟩ := HT.out.at (by omega)
      have hc0 := hc i hlt
      have hi0 : (0 : Int) ≤ (i : Int) := by omega
      have hin : (i : Int) < (n : Int) := by omega
      have HN := Hid.mk' (nl_take l i (by rw [HL.out]; exact hlt))
      clear hc
      cases h10 : (((at8 l i).toNat : Int) == 10) with
      | false =>
        have HN2 : Hid (nl (l.take (i + 1)) = nl (l.take i)) := by unfold Hid; rw [HN.out, le_of h10]; rfl
        go_wp2
        go_roundw
        case rel => exact ⟨m, i + 1, rfl, by go_num, by rw [HN2.out]; exact HM.out, hm1, by omega, by trivial⟩
        case measure => first | (simp [intOf]; done) | (simp [intOf]; omega)
      | true =>
        have HN2 : Hid (nl (l.take (i + 1)) = nl (l.take i) + 1) := by unfold Hid; rw [HN.out, le_of h10]; rfl
        by_cases hz : m = 1
        · subst hz
          have HS : Hid (St l K (i + 1)) := ⟨by rw [HL.out]; exact hlt, by rw [HN2.out]; have := HM.out; omega, .inr ⟨by omega, h10⟩⟩
          go_wp2
          go_ret2
          exact ⟨by rw [HY.out _ HS.out]; rfl, rfl⟩
        · have hz2 : (m - 1 == 0) = false := by rw [beq_eq_false_iff_ne]; omega
          have hz3 : ¬ (m - 1 = 0) := by omega
          go_wp2
          go_roundw
          case rel => exact ⟨m - 1, i + 1, rfl, by go_num, by rw [HN2.out]; have := HM.out; push_cast; omega, by omega, by omega, by trivial⟩
          case measure => first | (simp [intOf]; done) | (simp [intOf]; omega)
    · obtain rfl : i = n := by omega
      have HN : Hid (l.take i = l) := List.take_of_length_le (by rw [HL.out]; exact Nat.le_refl _)
      go_wp2
      go_ret2
      refine ⟨?_, rfl⟩
      rw [HZ.out (by have := HM.out; rw [HN.out] at this; omega)]
      rfl

set_option maxHeartbeats 1000000 in
theorem refEnd_any (ao : Option Addr) (n c : Nat) (L : Int) (l : List UInt8) (w : World) (h63 : L ≤ 9223372036854775807) (HT : Hid (Tx w ao n c l)) :
    Calls Try.prog 18 #[.slice ao n c, .int .i64 L] w fun e w' => e = pr (aEnd l L) ∧ w' = w := by
  have hbig : (n : Int) ≤ 140737488355328 := by have := HT.out.big; omega
  have HL : Hid (l.length = n) := HT.out.len
  have C0 := refStart_any ao n c L l w h63 HT
  cases hb : lnB l L with
  | true =>
    obtain ⟨k, rfl, hk⟩ := ln_yes hb
    have HA : Hid (pr (aEnd l (k : Int)) = .returned (.tuple #[.int .i64 (en l (sp l k)), .int .i64 0])) := by unfold Hid pr aEnd ans; rw [hb]; rfl
    have HB : pr (aStart l (k : Int)) = .returned (.tuple #[.int .i64 (sp l k), .int .i64 0]) := by unfold pr aStart ans; rw [hb]; rfl
    rw [HB] at C0
    have C1 := Hid.mk' C0
    have hs : sp l k ≤ n := by have := sp_le hk; rw [HL.out] at this; exact this
    clear hb C0 HB
    generalize sp l k = S at *
    go_enter Try.func18, Try.ntmps18
    go_wp2_with (go_at_call 17; refine C1.out.mono ?_; rintro e w' ⟨rfl, hw⟩; have hq := hw.symm; subst hq)
    go_loopw [6] (fun u wr => ∃ i : Nat, u = .int .i64 i ∧ S ≤ i ∧ i ≤ en l S ∧ wr = w) (fun u _ => n - (intOf u).toNat)
    case atStart => exact ⟨S, rfl, Nat.le_refl _, en_ge l S, by first | rfl | trivial⟩
    case round =>
      obtain ⟨i, rfl, hSi, hiE, hw0⟩ := hrel
      have hE : en l S ≤ n := by have := en_le (t := l) (s := S) (by rw [HL.out]; exact hs); rw [HL.out] at this; exact this
      have hi0 : (0 : Int) ≤ (i : Int) := by omega
      by_cases hlt : i < n
      · obtain ⟨g, o, rfl, hc⟩ := HT.out.at (by omega)
        have hc0 := hc i hlt
        have hin : (i : Int) < (n : Int) := by omega
        clear hc
        cases h10 : (((at8 l i).toNat : Int) == 10) with
        | false =>
          have hne : (((at8 l i).toNat : Int) != 10) = true := by simp only [bne, h10]; rfl
          have HI : Hid (i < en l S) := by
            unfold Hid
            rcases Nat.lt_or_ge i (en l S) with h | h
            · exact h
            · exfalso
              have e0 : en l S = i := by omega
              have := en_edge (t := l) (s := S) (by rw [e0, HL.out]; exact hlt)
              rw [e0, le_of h10] at this
              simp at this
          go_wp2
          go_roundw
          case rel => exact ⟨i + 1, by go_num, by omega, HI.out, by first | trivial | exact hw0⟩
          case measure => first | (simp [intOf]; done) | (simp [intOf]; omega)
        | true =>
          have hne : (((at8 l i).toNat : Int) != 10) = false := by simp only [bne, h10]; rfl
          have HI : Hid (en l S = i) := by
            unfold Hid
            rcases Nat.lt_or_ge i (en l S) with h | h
            · exfalso
              have := en_none hSi h
              rw [le_of h10] at this
              simp at this
            · omega
          go_wp2
          go_ret2
          exact ⟨by rw [HA.out, HI.out]; rfl, by first | trivial | exact hw0⟩
      · have HI : Hid (en l S = i) := by unfold Hid; omega
        have hin : ¬ (i : Int) < (n : Int) := by omega
        go_wp2
        go_ret2
        exact ⟨by rw [HA.out, HI.out]; rfl, by first | trivial | exact hw0⟩
  | false =>
    have HA : Hid (pr (aEnd l L) = .returned (.tuple #[.int .i64 0, .int .i64 2])) := by unfold Hid pr aEnd ans; rw [hb]; rfl
    have HB : pr (aStart l L) = .returned (.tuple #[.int .i64 0, .int .i64 2]) := by unfold pr aStart ans; rw [hb]; rfl
    rw [HB] at C0
    have C1 := Hid.mk' C0
    clear hb C0 HB
    go_enter Try.func18, Try.ntmps18
    go_wp2_with (go_at_call 17; refine C1.out.mono ?_; rintro e w' ⟨rfl, hw⟩; have hq := hw.symm; subst hq)
    go_ret2
    exact ⟨by rw [HA.out]; rfl, rfl⟩
end Go.Proofs.Ytgdhdegmjljbfaa
