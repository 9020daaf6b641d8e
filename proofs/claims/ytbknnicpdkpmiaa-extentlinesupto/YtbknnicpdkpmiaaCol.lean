/- The contracts of bytes.LastIndexByte of a line end and of lines.Column. -/
import Derived.Test.YtbknnicpdkpmiaaFns
namespace Go.Proofs.Ytbknnicpdkpmiaa
open Go.RowKit

set_option maxHeartbeats 1000000 in
theorem lastIndex_any (ao : Option Addr) (n c : Nat) (l : List UInt8) (w : World) (HT : Hid (Tx w ao n c l)) :
    Calls Try.prog 47 #[.slice ao n c, .int .u8 10] w fun e w' => e = .returned (.int .i64 ((bg l n : Int) - 1)) ∧ w' = w := by
  have hbig : (n : Int) ≤ 140737488355328 := by have := HT.out.big; omega
  go_enter Try.func47, Try.ntmps47
  go_wp2_with fail
  go_loopw [5] (fun u wr => ∃ j : Nat, u = .int .i64 ((j : Int) - 1) ∧ j ≤ n ∧ bg l n = bg l j ∧ wr = w) (fun u _ => (intOf u + 1).toNat)
  case atStart => exact ⟨n, rfl, Nat.le_refl _, rfl, rfl⟩
  case round =>
    obtain ⟨j, rfl, hj, hbg, rfl⟩ := hrel
    have HG : Hid (bg l n = bg l j) := hbg
    clear hbg
    cases j with
    | zero =>
      go_wp2
      go_ret
      exact ⟨by rw [HG.out]; rfl, rfl⟩
    | succ i =>
      obtain ⟨g, o, rfl, hc⟩ := HT.out.at (by omega)
      have hc0 := hc i (by omega)
      have hi0 : (0 : Int) ≤ (i : Int) := by omega
      have hin : (i : Int) < (n : Int) := by omega
      have e0 : ((i + 1 : Nat) : Int) - 1 = (i : Int) := by omega
      rw [e0]
      clear hc
      cases h10 : (((at8 l i).toNat : Int) == 10) with
      | true =>
        have HB : Hid (bg l (i + 1) = i + 1) := by unfold Hid bg; rw [if_pos (show le (at8 l i) = true from h10)]
        go_wp2
        go_ret
        refine ⟨?_, rfl⟩
        rw [HG.out, HB.out]
        rw [e0]
        rfl
      | false =>
        have HB : Hid (bg l (i + 1) = bg l i) := by unfold Hid; conv => lhs; unfold bg
                                                    rw [if_neg (by unfold le; rw [h10]; simp)]
        go_wp2
        go_roundw
        case rel => exact ⟨i, by go_num, by omega, by rw [HG.out, HB.out], by trivial⟩
        case measure => first | (simp [intOf]; done) | (simp [intOf]; omega)

set_option maxHeartbeats 400000 in
theorem lastIndexB_any (ao : Option Addr) (n c : Nat) (l : List UInt8) (w : World) (HT : Hid (Tx w ao n c l)) :
    Calls Try.prog 43 #[.slice ao n c, .int .u8 10] w fun e w' => e = .returned (.int .i64 ((bg l n : Int) - 1)) ∧ w' = w := by
  go_enter Try.func43, Try.ntmps43
  go_wp2_with (go_at_call 47; refine (lastIndex_any _ _ _ l _ HT).mono ?_; rintro e w' ⟨rfl, hw⟩; subst hw)
  go_ret
  exact ⟨rfl, rfl⟩

set_option maxHeartbeats 400000 in
theorem column_any (ao : Option Addr) (n c : Nat) (i : Int) (l : List UInt8) (w : World) (HT : Hid (Tx w ao n c l)) :
    Calls Try.prog 40 #[.slice ao n c, .int .i64 i] w fun e w' => e = pr (aCol l i) ∧ w' = w := by
  have hlen := HT.out.len
  cases hb : plB l i with
  | true =>
    obtain ⟨k, rfl, hk⟩ := pl_yes hb
    have hp : decide ((0 : Int) ≤ (k : Int) ∧ (k : Int) ≤ n) = true := decide_eq_true (by omega)
    have HA : Hid (pr (aCol l (k : Int)) = .returned (.tuple #[.int .i64 ((k - bg l k : Nat) : Int), .int .i64 0])) := by unfold Hid pr aCol ans; rw [hb]; rfl
    have hkn : k ≤ n := by omega
    have hcap := HT.out.cap
    have hbig : (n : Int) ≤ 140737488355328 := by have := HT.out.big; omega
    have hbk : (bg (l.take k) k : Int) ≤ k := by have := bg_le (l.take k) k; omega
    have hb0 : (0 : Int) ≤ (bg (l.take k) k : Int) := by omega
    have HB : Hid (bg (l.take k) k = bg l k) := bg_take l k k (Nat.le_refl _)
    clear hb hlen
    cases ao with
    | none =>
      obtain ⟨rfl, rfl, rfl⟩ := HT.out.none
      obtain rfl : k = 0 := by omega
      have hz : bg [] 0 = 0 := rfl
      go_enter Try.func40, Try.ntmps40
      go_wp2_with (first | (go_at_call 39; refine (isPlace_any _ _ _ _ _).mono ?_; rintro e w' ⟨rfl, hw⟩; subst hw) | (go_at_call 43; refine (lastIndexB_any _ _ _ [] _ (tx_nil _)).mono ?_; rintro e w2 ⟨rfl, hw⟩; subst hw))
      go_ret2
      exact ⟨by rw [HA.out]; rfl, rfl⟩
    | some a =>
      go_enter Try.func40, Try.ntmps40
      go_wp2_with (first | (go_at_call 39; refine (isPlace_any _ _ _ _ _).mono ?_; rintro e w' ⟨rfl, hw⟩; subst hw; rw [hp]) | (go_at_call 43; refine (lastIndexB_any _ _ _ (l.take k) _ (HT.out.head hkn)).mono ?_; rintro e w2 ⟨rfl, hw⟩; subst hw))
      go_ret2
      refine ⟨?_, rfl⟩
      rw [HA.out]
      have h1 := HB.out
      have e1 : ((k - bg l k : Nat) : Int) = (k : Int) - bg (l.take k) k := by omega
      rw [e1]
      rfl
  | false =>
    have hp : decide ((0 : Int) ≤ i ∧ i ≤ (n : Int)) = false := by rw [← hlen]; exact hb
    have HA : Hid (pr (aCol l i) = .returned (.tuple #[.int .i64 0, .int .i64 2])) := by unfold Hid pr aCol ans; rw [hb]; rfl
    clear hb
    go_enter Try.func40, Try.ntmps40
    go_wp2_with (go_at_call 39; refine (isPlace_any _ _ _ _ _).mono ?_; rintro e w' ⟨rfl, hw⟩; subst hw; rw [hp])
    go_ret2
    exact ⟨by rw [HA.out]; rfl, rfl⟩

end Go.Proofs.Ytbknnicpdkpmiaa
