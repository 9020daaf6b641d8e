/- extent.blankAhead and the reference's indented: are all bytes ahead of a place in its line blanks. -/
import Derived.Test.YtbknnicpdkpmiaaLno
namespace Go.Proofs.Ytbknnicpdkpmiaa
open Go.RowKit

set_option maxRecDepth 8000
set_option maxHeartbeats 1000000 in
theorem blankAhead_any (ao : Option Addr) (n c k : Nat) (l : List UInt8) (w : World) (hk : k ≤ n) (HT : Hid (Tx w ao n c l)) :
    Calls Try.prog 35 #[.slice ao n c, .int .i64 (k : Int)] w fun e w' => e = .returned (.bool (ba l k)) ∧ w' = w := by
  have C1 := Hid.mk' (col_at (w := w) hk HT)
  have hS := bg_le l k
  obtain ⟨C, hC⟩ : ∃ C, k - bg l k = C := ⟨_, rfl⟩
  rw [hC] at C1
  have hcap := HT.out.cap
  have hbig : (n : Int) ≤ 140737488355328 := by have := HT.out.big; omega
  have hs1 : (k : Int) - (C : Int) = (bg l k : Int) := by omega
  have HI := Hid.mk' (ba_iff l k)
  cases ao with
  | none =>
    obtain ⟨rfl, rfl, rfl⟩ := HT.out.none
    obtain rfl : k = 0 := by omega
    obtain rfl : C = 0 := by omega
    have hr : ba [] 0 = true := rfl
    rw [hr]
    clear HI hs1 hC hS
    go_enter Try.func35, Try.ntmps35
    go_wp2_with (go_at_call 40; refine (C1.out).mono ?_; rintro e w' ⟨rfl, hw⟩; have hq := hw.symm; subst hq; clear hw)
    go_loopw [22] (fun u wr => u = .int .i64 0 ∧ wr = w) (fun _ _ => 0)
    case atStart => exact ⟨rfl, rfl⟩
    case round =>
      obtain ⟨rfl, rfl⟩ := hrel
      go_wp2
      go_ret
      exact ⟨rfl, rfl⟩
  | some a =>
    generalize hSe : bg l k = S at *
    have HC := Hid.mk' hC
    clear hC hSe
    have hSk : (S : Int) ≤ k := by omega
    have hkn : (k : Int) ≤ n := by omega
    by_cases hz : S = k
    · subst hz
      have hr : ba l S = true := HI.out.2 (fun j h1 h2 => by omega)
      rw [hr]
      have hC0 : C = 0 := by have := HC.out; omega
      subst hC0
      clear HI hr
      by_cases hcs : c = S
      · subst hcs
        obtain rfl : n = c := by omega
        go_enter Try.func35, Try.ntmps35
        go_wp2_with (go_at_call 40; refine (C1.out).mono ?_; rintro e w' ⟨rfl, hw⟩; have hq := hw.symm; subst hq; clear hw)
        all_goals go_loopw [22] (fun u wr => u = .int .i64 0 ∧ wr = w) (fun _ _ => 0)
        case atStart => exact ⟨rfl, rfl⟩
        case round =>
          obtain ⟨rfl, rfl⟩ := hrel
          go_wp2
          go_ret
          exact ⟨rfl, rfl⟩
      · go_enter Try.func35, Try.ntmps35
        go_wp2_with (go_at_call 40; refine (C1.out).mono ?_; rintro e w' ⟨rfl, hw⟩; have hq := hw.symm; subst hq; clear hw)
        all_goals go_loopw [22] (fun u wr => u = .int .i64 0 ∧ wr = w) (fun _ _ => 0)
        case atStart => exact ⟨rfl, rfl⟩
        case round =>
          obtain ⟨rfl, rfl⟩ := hrel
          go_wp2
          go_ret
          exact ⟨rfl, rfl⟩
    · have hcs : ¬ c = S := by omega
      have hkS : k - S = C := HC.out
      have hCk : (C : Int) ≤ 140737488355328 := by omega
      have hlt : S < k := by omega
      have T1 := Hid.mk' ((HT.out.tail (s := S) (by omega)))
      clear hz
      go_enter Try.func35, Try.ntmps35
      go_wp2_with (go_at_call 40; refine (C1.out).mono ?_; rintro e w' ⟨rfl, hw⟩; have hq := hw.symm; subst hq; clear hw)
      go_loopw [22] (fun u wr => ∃ i : Nat, u = .int .i64 i ∧ i ≤ C ∧ (∀ j, S ≤ j → j < S + i → bl (at8 l j) = true) ∧ wr = w) (fun u _ => C - (intOf u).toNat)
      case atStart => exact ⟨0, rfl, by omega, fun j h1 h2 => by omega, rfl⟩
      case round =>
        obtain ⟨i, rfl, hi, hall, rfl⟩ := hrel
        have HA := Hid.mk' hall
        clear hall
        by_cases hl : i < C
        · have hc0 := T1.out.cells _ rfl i (by omega)
          rw [at8_drop] at hc0
          have hi0 : (0 : Int) ≤ (i : Int) := by omega
          have hin : (i : Int) < (C : Int) := by omega
          rcases bl_cases (at8 l (S + i)) with ⟨hb, h32 | ⟨h32, h9⟩⟩ | ⟨hb, h32, h9⟩
          · have HB := Hid.mk' hb
            clear hb
            go_wp2
            go_roundw
            case rel => exact ⟨i + 1, by go_num, by omega, (fun j h1 h2 => by
              rcases Nat.lt_or_ge j (S + i) with h | h
              · exact HA.out j h1 h
              · obtain rfl : j = S + i := by omega
                exact HB.out), by trivial⟩
            case measure => first | (simp [intOf]; done) | (simp [intOf]; omega)
          · have HB := Hid.mk' hb
            clear hb
            go_wp2
            go_roundw
            case rel => exact ⟨i + 1, by go_num, by omega, (fun j h1 h2 => by
              rcases Nat.lt_or_ge j (S + i) with h | h
              · exact HA.out j h1 h
              · obtain rfl : j = S + i := by omega
                exact HB.out), by trivial⟩
            case measure => first | (simp [intOf]; done) | (simp [intOf]; omega)
          · have hr : Hid (ba l k = false) := by
              unfold Hid
              cases hq : ba l k with
              | false => rfl
              | true =>
                have := HI.out.1 hq (S + i) (by omega) (by omega)
                rw [hb] at this
                cases this
            clear hb
            go_wp2
            go_ret
            exact ⟨by rw [hr.out]; rfl, rfl⟩
        · obtain rfl : i = C := by omega
          have hr : Hid (ba l k = true) := HI.out.2 (fun j h1 h2 => HA.out j h1 (by omega))
          have hnl : ¬ (i : Int) < (i : Int) := by omega
          go_wp2
          go_ret
          exact ⟨by rw [hr.out]; rfl, rfl⟩
set_option maxHeartbeats 1000000 in
theorem indented_any (ao : Option Addr) (n c k : Nat) (l : List UInt8) (w : World) (hk : k ≤ n) (HT : Hid (Tx w ao n c l)) :
    Calls Try.prog 19 #[.slice ao n c, .int .i64 (k : Int)] w fun e w' => e = .returned (.bool (ba l k)) ∧ w' = w := by
  have hbig : (n : Int) ≤ 140737488355328 := by have := HT.out.big; omega
  go_enter Try.func19, Try.ntmps19
  go_wp2_with fail
  go_loopw [1] (fun u wr => ∃ i : Nat, u = .int .i64 i ∧ i ≤ k ∧ ba l k = ba l i ∧ wr = w) (fun u _ => (intOf u).toNat)
  case atStart => exact ⟨k, rfl, Nat.le_refl _, rfl, rfl⟩
  case round =>
    obtain ⟨i, rfl, hi, hba, rfl⟩ := hrel
    have HB := Hid.mk' hba
    clear hba
    cases i with
    | zero =>
      have HR : Hid (ba l k = true) := HB.out
      go_wp2
      go_ret
      exact ⟨by rw [HR.out]; rfl, rfl⟩
    | succ i =>
      obtain ⟨g, o, rfl, hc⟩ := HT.out.at (by omega)
      have hc0 := hc i (by omega)
      have hi0 : (0 : Int) ≤ (i : Int) := by omega
      have hin : (i : Int) < (n : Int) := by omega
      have e0 : ((i + 1 : Nat) : Int) - 1 = (i : Int) := by omega
      have e1 : ((i + 1 : Nat) : Int) = (i : Int) + 1 := by omega
      have e2 : (i : Int) + 1 - 1 = (i : Int) := by omega
      have e3 : (0 : Int) < (i : Int) + 1 := by omega
      clear hc
      rw [e1]
      cases h10 : le (at8 l i) with
      | true =>
        have HR : Hid (ba l k = true) := by unfold Hid; rw [HB.out]; unfold ba; rw [if_pos h10]
        have hne : (((at8 l i).toNat : Int) != 10) = false := by
          have h : (((at8 l i).toNat : Int) == 10) = true := h10
          simp only [bne, h]; rfl
        clear h10
        go_wp2
        go_ret
        exact ⟨by rw [HR.out]; rfl, rfl⟩
      | false =>
        have hne : (((at8 l i).toNat : Int) != 10) = true := by
          have h : (((at8 l i).toNat : Int) == 10) = false := h10
          simp only [bne, h]; rfl
        have HR : Hid (ba l k = (bl (at8 l i) && ba l i)) := by
          unfold Hid; rw [HB.out]; conv => lhs; unfold ba
          rw [h10]; rfl
        clear h10
        rcases bl_cases (at8 l i) with ⟨hb, h32 | ⟨h32, h9⟩⟩ | ⟨hb, h32, h9⟩
        · rw [hb, Bool.true_and] at HR
          clear hb
          go_wp2
          go_roundw
          case rel => exact ⟨i, by go_num, by omega, HR.out, by trivial⟩
          case measure => first | (simp [intOf]; done) | (simp [intOf]; omega)
        · rw [hb, Bool.true_and] at HR
          clear hb
          go_wp2
          go_roundw
          case rel => exact ⟨i, by go_num, by omega, HR.out, by trivial⟩
          case measure => first | (simp [intOf]; done) | (simp [intOf]; omega)
        · rw [hb, Bool.false_and] at HR
          clear hb
          go_wp2
          go_ret
          exact ⟨by rw [HR.out]; rfl, rfl⟩

end Go.Proofs.Ytbknnicpdkpmiaa
