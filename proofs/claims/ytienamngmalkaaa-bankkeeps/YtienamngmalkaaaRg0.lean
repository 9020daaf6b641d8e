/- quoinref15.letter, Valid and Get; BankGets, walked. -/
import Derived.Test.YtienamngmalkaaaCpy
import Derived.Test.YtienamngmalkaaaPur
namespace Go.Proofs.Ytienamngmalkaaa
open Go.RowKit

set_option maxRecDepth 8000
/-- a letter's number -/
def ltr (x : Nat) : Int := if 97 ≤ x ∧ x ≤ 122 then (x : Int) - 97 else if 65 ≤ x ∧ x ≤ 90 then (x : Int) - 65 else -1
theorem letter_any (x : Nat) (w : World) (hx : x < 256) : Calls Try.prog 24 #[.int .u8 (x : Int)] w fun e w' => e = .returned (.int .i64 (ltr x)) ∧ w' = w := by
  unfold ltr
  by_cases h1 : 97 ≤ x
  · have i1 : (97 : Int) ≤ (x : Int) := by omega
    by_cases h2 : x ≤ 122
    · have i2 : (x : Int) ≤ 122 := by omega
      have i3 : IntKind.u8.wrap ((x : Int) - 97) = (x : Int) - 97 := by rw [IntKind.wrap_u8]; omega
      have i4 : IntKind.i64.wrap ((x : Int) - 97) = (x : Int) - 97 := by rw [IntKind.wrap_i64]; omega
      rw [if_pos ⟨h1, h2⟩]
      go_enter Try.func24, Try.ntmps24
      go_wp2
      go_ret
      exact ⟨rfl, rfl⟩
    · have i2 : ¬ (x : Int) ≤ 122 := by omega
      have i3 : ¬ (x : Int) ≤ 90 := by omega
      have i4 : (65 : Int) ≤ (x : Int) := by omega
      rw [if_neg (by omega), if_neg (by omega)]
      go_enter Try.func24, Try.ntmps24
      go_wp2
      go_ret
      exact ⟨rfl, rfl⟩
  · have i1 : ¬ (97 : Int) ≤ (x : Int) := by omega
    rw [if_neg (by omega)]
    by_cases h2 : 65 ≤ x
    · have i2 : (65 : Int) ≤ (x : Int) := by omega
      by_cases h3 : x ≤ 90
      · have i5 : (x : Int) ≤ 90 := by omega
        have i3 : IntKind.u8.wrap ((x : Int) - 65) = (x : Int) - 65 := by rw [IntKind.wrap_u8]; omega
        have i4 : IntKind.i64.wrap ((x : Int) - 65) = (x : Int) - 65 := by rw [IntKind.wrap_i64]; omega
        rw [if_pos ⟨h2, h3⟩]
        go_enter Try.func24, Try.ntmps24
        go_wp2
        go_ret
        exact ⟨rfl, rfl⟩
      · have i5 : ¬ (x : Int) ≤ 90 := by omega
        rw [if_neg (by omega)]
        go_enter Try.func24, Try.ntmps24
        go_wp2
        go_ret
        exact ⟨rfl, rfl⟩
    · have i2 : ¬ (65 : Int) ≤ (x : Int) := by omega
      rw [if_neg (by omega)]
      go_enter Try.func24, Try.ntmps24
      go_wp2
      go_ret
      exact ⟨rfl, rfl⟩
theorem rvalid_any (x : Nat) (w : World) (hx : x < 256) : Calls Try.prog 14 #[.int .u8 (x : Int)] w fun e w' => e = .returned (.bool (rix x).isSome) ∧ w' = w := by
  have CL := Hid.mk' (letter_any x w hx)
  unfold ltr at CL
  unfold rix
  by_cases h0 : x = 0
  · subst h0
    clear CL
    go_enter Try.func14, Try.ntmps14
    go_wp2
    go_ret
    exact ⟨rfl, rfl⟩
  by_cases h1 : x = 34
  · subst h1
    clear CL
    go_enter Try.func14, Try.ntmps14
    go_wp2
    go_ret
    exact ⟨rfl, rfl⟩
  rw [if_neg (by omega)]
  by_cases h2 : x = 45
  · subst h2
    clear CL
    go_enter Try.func14, Try.ntmps14
    go_wp2
    go_ret
    exact ⟨rfl, rfl⟩
  rw [if_neg h2]
  have e1 : ((x : Int) == 0) = false := by simp; omega
  have e2 : ((x : Int) == 34) = false := by simp; omega
  have e3 : ((x : Int) == 45) = false := by simp; omega
  by_cases h3 : 49 ≤ x ∧ x ≤ 57
  · have i1 : (49 : Int) ≤ (x : Int) := by omega
    have i2 : (x : Int) ≤ 57 := by omega
    rw [if_pos h3]
    clear CL
    go_enter Try.func14, Try.ntmps14
    go_wp2
    go_ret
    exact ⟨rfl, rfl⟩
  rw [if_neg h3]
  obtain ⟨z, hz⟩ : ∃ z, z = (if 97 ≤ x ∧ x ≤ 122 then (x : Int) - 97 else if 65 ≤ x ∧ x ≤ 90 then (x : Int) - 65 else -1) := ⟨_, rfl⟩
  rw [← hz] at CL
  have hres : (if 97 ≤ x ∧ x ≤ 122 then some (11 + (x - 97)) else if 65 ≤ x ∧ x ≤ 90 then some (11 + (x - 65)) else none).isSome = decide (0 ≤ z) := by
    rw [hz]
    split
    · simp; omega
    · split
      · simp; omega
      · rfl
  rw [hres]
  clear hres hz
  by_cases h4 : 49 ≤ x
  · have i1 : (49 : Int) ≤ (x : Int) := by omega
    have i2 : ¬ (x : Int) ≤ 57 := by omega
    go_enter Try.func14, Try.ntmps14
    go_wp2_with (go_at_call 24; refine CL.out.mono ?_; rintro e w2 ⟨rfl, hw⟩; have hq := hw.symm; subst hq; clear hw)
    go_ret
    exact ⟨rfl, rfl⟩
  · have i1 : ¬ (49 : Int) ≤ (x : Int) := by omega
    go_enter Try.func14, Try.ntmps14
    go_wp2_with (go_at_call 24; refine CL.out.mono ?_; rintro e w2 ⟨rfl, hw⟩; have hq := hw.symm; subst hq; clear hw)
    go_ret
    exact ⟨rfl, rfl⟩
end Go.Proofs.Ytienamngmalkaaa
