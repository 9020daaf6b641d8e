/- Bytes: kinds, letters of both sizes, brackets; the contracts of the small functions. -/
import Derived.Test.YtcjlkcpmljddfaaRows
import Derived.WalkKit
import Derived.WalkSpells
import Derived.WalkLawsBesides
import Derived.Outline
namespace Go.Proofs.Ytcjlkcpmljddfaa
open Go.RowKit

/-- A fact that is no rewrite rule. -/
def Hid (p : Prop) : Prop := p
theorem Hid.out {p : Prop} (h : Hid p) : p := h
theorem Hid.mk' {p : Prop} (h : p) : Hid p := h

/-- small, great, digit, a word's byte -/
def sm (b : Int) : Bool := decide (97 ≤ b ∧ b ≤ 122)
def gr (b : Int) : Bool := decide (65 ≤ b ∧ b ≤ 90)
def dg (b : Int) : Bool := decide (48 ≤ b ∧ b ≤ 57)
def wd (b : Int) : Bool := sm b || gr b || dg b || decide (b = 95) || decide (128 ≤ b)
/-- the kind of a byte -/
def kd (b : Int) (big : Bool) : Int := if b = 32 ∨ b = 9 then 0 else if b = 10 then 3 else if big = true ∨ wd b = true then 2 else 1

/-- the other size -/
def up (b : Int) : Int := if sm b = true then b - 32 else b
def lo (b : Int) : Int := if gr b = true then b + 32 else b
def tg (b : Int) : Int := if sm b = true then up b else lo b

set_option maxHeartbeats 400000 in
theorem isSmall_any (b : Int) (w : World) : Calls Try.prog 25 #[.int .u8 b] w fun e w' => e = .returned (.bool (sm b)) ∧ w' = w := by
  go_enter Try.func25, Try.ntmps25
  go_wp2
  all_goals go_ret
  all_goals (refine ⟨?_, rfl⟩; simp [sm]; try omega)
set_option maxHeartbeats 400000 in
theorem isGreat_any (b : Int) (w : World) : Calls Try.prog 26 #[.int .u8 b] w fun e w' => e = .returned (.bool (gr b)) ∧ w' = w := by
  go_enter Try.func26, Try.ntmps26
  go_wp2
  all_goals go_ret
  all_goals (refine ⟨?_, rfl⟩; simp [gr]; try omega)
set_option maxHeartbeats 400000 in
theorem isDigit_any (b : Int) (w : World) : Calls Try.prog 27 #[.int .u8 b] w fun e w' => e = .returned (.bool (dg b)) ∧ w' = w := by
  go_enter Try.func27, Try.ntmps27
  go_wp2
  all_goals go_ret
  all_goals (refine ⟨?_, rfl⟩; simp [dg]; try omega)
set_option maxHeartbeats 400000 in
theorem rsmall_any (b : Int) (w : World) : Calls Try.prog 23 #[.int .u8 b] w fun e w' => e = .returned (.bool (sm b)) ∧ w' = w := by
  go_enter Try.func23, Try.ntmps23
  go_wp2
  all_goals go_ret
  all_goals (refine ⟨?_, rfl⟩; simp [sm]; try omega)
set_option maxHeartbeats 400000 in
theorem rgreat_any (b : Int) (w : World) : Calls Try.prog 24 #[.int .u8 b] w fun e w' => e = .returned (.bool (gr b)) ∧ w' = w := by
  go_enter Try.func24, Try.ntmps24
  go_wp2
  all_goals go_ret
  all_goals (refine ⟨?_, rfl⟩; simp [gr]; try omega)

set_option maxHeartbeats 1000000 in
theorem isWord_any (b : Int) (w : World) : Calls Try.prog 22 #[.int .u8 b] w fun e w' => e = .returned (.bool (wd b)) ∧ w' = w := by
  have C1 := Hid.mk' (isSmall_any b w)
  have C2 := Hid.mk' (isGreat_any b w)
  have C3 := Hid.mk' (isDigit_any b w)
  have HW : Hid (wd b = (sm b || gr b || dg b || decide (b = 95) || decide (128 ≤ b))) := rfl
  generalize wd b = r at *
  generalize sm b = s at *
  generalize gr b = g at *
  generalize dg b = d at *
  go_enter Try.func22, Try.ntmps22
  go_wp2_with (first | (go_at_call 25; refine C1.out.mono ?_; rintro e w' ⟨rfl, hw⟩; have hq := hw.symm; subst hq; clear hw) | (go_at_call 26; refine C2.out.mono ?_; rintro e w' ⟨rfl, hw⟩; have hq := hw.symm; subst hq; clear hw) | (go_at_call 27; refine C3.out.mono ?_; rintro e w' ⟨rfl, hw⟩; have hq := hw.symm; subst hq; clear hw))
  all_goals go_ret
  all_goals (refine ⟨?_, rfl⟩; rw [HW.out]; simp_all)
end Go.Proofs.Ytcjlkcpmljddfaa
