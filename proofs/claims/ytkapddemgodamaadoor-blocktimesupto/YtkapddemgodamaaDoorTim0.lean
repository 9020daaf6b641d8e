/- BlockTimes walked: a count is so many motions. -/
import Derived.Test.YtkapddemgodamaaDoorAwk
import Derived.Deep.RegionHeld3
namespace Go.Proofs.YtkapddemgodamaaDoor
open Go.RowKit

/-- the law's place, as a number -/
def plc (i : Int) (n : Nat) : Nat := (if i < 0 then -(i + 1) else i).toNat % n
theorem plc_lt (i : Int) {n : Nat} (h : 1 ≤ n) : plc i n < n := Nat.mod_lt _ (by omega)
set_option maxHeartbeats 1000000 in
theorem place_eq (i : Int) (n : Nat) (w : World) (h1 : -9223372036854775808 ≤ i) (h2 : i ≤ 9223372036854775807) (hn : 1 ≤ n) (hn2 : (n : Int) ≤ 140737488355330) :
    Calls Tryd.prog 13 #[.int .i64 i, .int .i64 n] w fun e w' => e = .returned (.int .i64 (plc i n)) ∧ w' = w := by
  have hnz : ¬ ((n : Int) = 0) := by omega
  have hnz' : ((n : Int) == 0) = false := by simp; omega
  have hm1 : ¬ ((n : Int) = -1) := by omega
  by_cases h0 : i < 0
  · have hw1 : IntKind.i64.wrap (i + 1) = i + 1 := by rw [IntKind.wrap_i64]; omega
    have hw2 : IntKind.i64.wrap (-(i + 1)) = -(i + 1) := by rw [IntKind.wrap_i64]; omega
    obtain ⟨j, hj⟩ : ∃ j : Nat, -(i + 1) = (j : Int) := ⟨(-(i + 1)).toNat, by omega⟩
    have HT : Hid (-((i + 1).tmod (n : Int)) = ((plc i n : Nat) : Int)) := by
      unfold Hid plc
      rw [if_pos h0, ← Int.neg_tmod, hj, Int.toNat_natCast]
      exact (Int.ofNat_tmod j n).symm
    generalize plc i n = r at *
    clear hj
    go_enter Tryd.func13, Tryd.ntmps13
    go_wp2
    go_ret
    exact ⟨by rw [← HT.out]; rfl, rfl⟩
  · obtain ⟨j, rfl⟩ := Int.eq_ofNat_of_zero_le (show 0 ≤ i by omega)
    have HT : Hid ((plc (j : Int) n) = j % n) := by unfold Hid plc; rw [if_neg h0, Int.toNat_natCast]
    have ht : IntKind.i64.wrap ((j : Int).tmod (n : Int)) = ((j % n : Nat) : Int) := by
      rw [← Int.ofNat_tmod]; rw [IntKind.wrap_i64]
      have := Nat.mod_lt j (show 0 < n by omega)
      omega
    generalize plc (j : Int) n = r at *
    go_enter Tryd.func13, Tryd.ntmps13
    go_wp2
    go_ret
    exact ⟨by rw [HT.out]; rfl, rfl⟩

theorem su_some {P : Nat → Bool} {n p q : Nat} (hp : p ≤ n) (h : su P n p = some q) : p < q ∧ q ≤ n := by
  unfold su at h
  split at h
  · cases h
  · have := nu_le P (n - (p + 1)) (p + 1)
    cases h
    omega
theorem sd_some {P : Nat → Bool} {p q : Nat} (h : sd P p = some q) : q < p := by
  unfold sd at h
  split at h
  · cases h
  · have := nd_le P (p - 1)
    cases h
    omega
theorem it_one (s : Nat → Option Nat) (p : Nat) : it s 1 p = s p := by
  unfold it; cases s p <;> rfl
theorem mvE_parts (p : Nat) (kind : Int) (o : Option Nat) : ∃ a b d e, mvE p kind o = .returned (.tuple #[.agg #[.int .i64 a, .int .i64 b, .int .i64 d], .int .i64 e]) ∧
    ((o = none ∧ a = 0 ∧ b = 0 ∧ d = 0 ∧ e = 70) ∨ ∃ q : Nat, o = some q ∧ a = p ∧ b = q ∧ d = kind ∧ e = 0) := by
  cases o with
  | none => exact ⟨0, 0, 0, 70, rfl, .inl ⟨rfl, rfl, rfl, rfl, rfl⟩⟩
  | some q => exact ⟨_, _, _, _, rfl, .inr ⟨q, rfl, rfl, rfl, rfl, rfl⟩⟩
end Go.Proofs.YtkapddemgodamaaDoor
