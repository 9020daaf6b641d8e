/- The contracts of class.Of and of the reference's Of. -/
import Derived.Test.YtaakgoojcogbcaaKit
namespace Go.Proofs.Ytaakgoojcogbcaa
open Go.RowKit

/-- small, great, digit, a word's byte -/
def sm (b : Int) : Bool := decide (97 ≤ b ∧ b ≤ 122)
def gr (b : Int) : Bool := decide (65 ≤ b ∧ b ≤ 90)
def dg (b : Int) : Bool := decide (48 ≤ b ∧ b ≤ 57)
def wd (b : Int) : Bool := sm b || gr b || dg b || decide (b = 95) || decide (128 ≤ b)
/-- the kind of a byte -/
def kd (b : Int) (big : Bool) : Int := if b = 32 ∨ b = 9 then 0 else if b = 10 then 3 else if big = true ∨ wd b = true then 2 else 1

set_option maxHeartbeats 400000 in
theorem isSmall_any (b : Int) (w : World) : Calls Try.prog 78 #[.int .u8 b] w fun e w' => e = .returned (.bool (sm b)) ∧ w' = w := by
  go_enter Try.func78, Try.ntmps78
  go_wp2
  all_goals go_ret
  all_goals (refine ⟨?_, rfl⟩; simp [sm]; try omega)
set_option maxHeartbeats 400000 in
theorem isGreat_any (b : Int) (w : World) : Calls Try.prog 79 #[.int .u8 b] w fun e w' => e = .returned (.bool (gr b)) ∧ w' = w := by
  go_enter Try.func79, Try.ntmps79
  go_wp2
  all_goals go_ret
  all_goals (refine ⟨?_, rfl⟩; simp [gr]; try omega)
set_option maxHeartbeats 400000 in
theorem isDigit_any (b : Int) (w : World) : Calls Try.prog 80 #[.int .u8 b] w fun e w' => e = .returned (.bool (dg b)) ∧ w' = w := by
  go_enter Try.func80, Try.ntmps80
  go_wp2
  all_goals go_ret
  all_goals (refine ⟨?_, rfl⟩; simp [dg]; try omega)
set_option maxHeartbeats 400000 in
theorem rsmall_any (b : Int) (w : World) : Calls Try.prog 69 #[.int .u8 b] w fun e w' => e = .returned (.bool (sm b)) ∧ w' = w := by
  go_enter Try.func69, Try.ntmps69
  go_wp2
  all_goals go_ret
  all_goals (refine ⟨?_, rfl⟩; simp [sm]; try omega)
set_option maxHeartbeats 400000 in
theorem rgreat_any (b : Int) (w : World) : Calls Try.prog 70 #[.int .u8 b] w fun e w' => e = .returned (.bool (gr b)) ∧ w' = w := by
  go_enter Try.func70, Try.ntmps70
  go_wp2
  all_goals go_ret
  all_goals (refine ⟨?_, rfl⟩; simp [gr]; try omega)

set_option maxHeartbeats 1000000 in
theorem isWord_any (b : Int) (w : World) : Calls Try.prog 48 #[.int .u8 b] w fun e w' => e = .returned (.bool (wd b)) ∧ w' = w := by
  have C1 := Hid.mk' (isSmall_any b w)
  have C2 := Hid.mk' (isGreat_any b w)
  have C3 := Hid.mk' (isDigit_any b w)
  have HW : Hid (wd b = (sm b || gr b || dg b || decide (b = 95) || decide (128 ≤ b))) := rfl
  generalize wd b = r at *
  generalize sm b = s at *
  generalize gr b = g at *
  generalize dg b = d at *
  go_enter Try.func48, Try.ntmps48
  go_wp2_with (first | (go_at_call 78; refine C1.out.mono ?_; rintro e w' ⟨rfl, hw⟩; have hq := hw.symm; subst hq; clear hw) | (go_at_call 79; refine C2.out.mono ?_; rintro e w' ⟨rfl, hw⟩; have hq := hw.symm; subst hq; clear hw) | (go_at_call 80; refine C3.out.mono ?_; rintro e w' ⟨rfl, hw⟩; have hq := hw.symm; subst hq; clear hw))
  all_goals go_ret
  all_goals (refine ⟨?_, rfl⟩; rw [HW.out]; simp_all)

set_option maxHeartbeats 1000000 in
theorem of_any (b : Int) (big : Bool) (w : World) : Calls Try.prog 28 #[.int .u8 b, .bool big] w fun e w' => e = .returned (.int .i64 (kd b big)) ∧ w' = w := by
  have C1 := Hid.mk' (isWord_any b w)
  have HW : Hid (kd b big = if b = 32 ∨ b = 9 then 0 else if b = 10 then 3 else if big = true ∨ wd b = true then 2 else 1) := rfl
  generalize kd b big = r at *
  generalize wd b = s at *
  go_enter Try.func28, Try.ntmps28
  go_wp2_with (go_at_call 48; refine C1.out.mono ?_; rintro e w' ⟨rfl, hw⟩; have hq := hw.symm; subst hq; clear hw)
  all_goals go_ret
  all_goals (refine ⟨?_, rfl⟩; rw [HW.out]; simp_all)

set_option maxHeartbeats 1000000 in
theorem rof_any (b : Int) (big : Bool) (w : World) : Calls Try.prog 42 #[.int .u8 b, .bool big] w fun e w' => e = .returned (.int .i64 (kd b big)) ∧ w' = w := by
  have C1 := Hid.mk' (rsmall_any b w)
  have C2 := Hid.mk' (rgreat_any b w)
  have HW : Hid (kd b big = if b = 32 ∨ b = 9 then 0 else if b = 10 then 3 else if big = true ∨ (sm b || gr b || decide (48 ≤ b ∧ b ≤ 57) || decide (b = 95) || decide (128 ≤ b)) = true then 2 else 1) := rfl
  generalize kd b big = r at *
  generalize sm b = s at *
  generalize gr b = g at *
  go_enter Try.func42, Try.ntmps42
  go_wp2_with (first | (go_at_call 69; refine C1.out.mono ?_; rintro e w' ⟨rfl, hw⟩; have hq := hw.symm; subst hq; clear hw) | (go_at_call 70; refine C2.out.mono ?_; rintro e w' ⟨rfl, hw⟩; have hq := hw.symm; subst hq; clear hw))
  all_goals go_ret
  all_goals (refine ⟨?_, rfl⟩; rw [HW.out]; cases big <;> simp_all)
  all_goals omega

end Go.Proofs.Ytaakgoojcogbcaa
