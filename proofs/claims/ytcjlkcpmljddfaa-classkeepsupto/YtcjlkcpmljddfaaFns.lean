/- The contracts of Of, Upper, Lower, Toggle and Partner, the program's and the reference's. -/
import Derived.Test.YtcjlkcpmljddfaaKit
namespace Go.Proofs.Ytcjlkcpmljddfaa
open Go.RowKit

set_option maxHeartbeats 1000000 in
theorem of_any (b : Int) (big : Bool) (w : World) : Calls Try.prog 9 #[.int .u8 b, .bool big] w fun e w' => e = .returned (.int .i64 (kd b big)) ∧ w' = w := by
  have C1 := Hid.mk' (isWord_any b w)
  have HW : Hid (kd b big = if b = 32 ∨ b = 9 then 0 else if b = 10 then 3 else if big = true ∨ wd b = true then 2 else 1) := rfl
  generalize kd b big = r at *
  generalize wd b = s at *
  go_enter Try.func9, Try.ntmps9
  go_wp2_with (go_at_call 22; refine C1.out.mono ?_; rintro e w' ⟨rfl, hw⟩; have hq := hw.symm; subst hq; clear hw)
  all_goals go_ret
  all_goals (refine ⟨?_, rfl⟩; rw [HW.out]; simp_all)

set_option maxHeartbeats 1000000 in
theorem rof_any (b : Int) (big : Bool) (w : World) : Calls Try.prog 10 #[.int .u8 b, .bool big] w fun e w' => e = .returned (.int .i64 (kd b big)) ∧ w' = w := by
  have C1 := Hid.mk' (rsmall_any b w)
  have C2 := Hid.mk' (rgreat_any b w)
  have HW : Hid (kd b big = if b = 32 ∨ b = 9 then 0 else if b = 10 then 3 else if big = true ∨ (sm b || gr b || decide (48 ≤ b ∧ b ≤ 57) || decide (b = 95) || decide (128 ≤ b)) = true then 2 else 1) := rfl
  generalize kd b big = r at *
  generalize sm b = s at *
  generalize gr b = g at *
  go_enter Try.func10, Try.ntmps10
  go_wp2_with (first | (go_at_call 23; refine C1.out.mono ?_; rintro e w' ⟨rfl, hw⟩; have hq := hw.symm; subst hq; clear hw) | (go_at_call 24; refine C2.out.mono ?_; rintro e w' ⟨rfl, hw⟩; have hq := hw.symm; subst hq; clear hw))
  all_goals go_ret
  all_goals (refine ⟨?_, rfl⟩; rw [HW.out]; cases big <;> simp_all)
  all_goals omega

set_option maxHeartbeats 1000000 in
theorem upper_any (b : Int) (w : World) (h0 : 0 ≤ b) (h1 : b ≤ 255) : Calls Try.prog 13 #[.int .u8 b] w fun e w' => e = .returned (.int .u8 (up b)) ∧ w' = w := by
  have C1 := Hid.mk' (isSmall_any b w)
  have HW : Hid (up b = if sm b = true then b - 32 else b) := rfl
  have HB : Hid (sm b = true → 97 ≤ b ∧ b ≤ 122) := fun h => of_decide_eq_true h
  generalize up b = r at *
  generalize sm b = s at *
  cases s with
  | true =>
    obtain ⟨h2, h3⟩ := HB.out rfl
    go_enter Try.func13, Try.ntmps13
    go_wp2_with (go_at_call 25; refine C1.out.mono ?_; rintro e w' ⟨rfl, hw⟩; have hq := hw.symm; subst hq; clear hw)
    go_ret
    refine ⟨?_, rfl⟩; rw [HW.out]; simp
  | false =>
    go_enter Try.func13, Try.ntmps13
    go_wp2_with (go_at_call 25; refine C1.out.mono ?_; rintro e w' ⟨rfl, hw⟩; have hq := hw.symm; subst hq; clear hw)
    go_ret
    refine ⟨?_, rfl⟩; rw [HW.out]; simp

set_option maxHeartbeats 1000000 in
theorem rupper_any (b : Int) (w : World) (h0 : 0 ≤ b) (h1 : b ≤ 255) : Calls Try.prog 14 #[.int .u8 b] w fun e w' => e = .returned (.int .u8 (up b)) ∧ w' = w := by
  have C1 := Hid.mk' (rsmall_any b w)
  have HW : Hid (up b = if sm b = true then b - 32 else b) := rfl
  have HB : Hid (sm b = true → 97 ≤ b ∧ b ≤ 122) := fun h => of_decide_eq_true h
  generalize up b = r at *
  generalize sm b = s at *
  cases s with
  | true =>
    obtain ⟨h2, h3⟩ := HB.out rfl
    go_enter Try.func14, Try.ntmps14
    go_wp2_with (go_at_call 23; refine C1.out.mono ?_; rintro e w' ⟨rfl, hw⟩; have hq := hw.symm; subst hq; clear hw)
    go_ret
    refine ⟨?_, rfl⟩; rw [HW.out]; simp
  | false =>
    go_enter Try.func14, Try.ntmps14
    go_wp2_with (go_at_call 23; refine C1.out.mono ?_; rintro e w' ⟨rfl, hw⟩; have hq := hw.symm; subst hq; clear hw)
    go_ret
    refine ⟨?_, rfl⟩; rw [HW.out]; simp

set_option maxHeartbeats 1000000 in
theorem lower_any (b : Int) (w : World) (h0 : 0 ≤ b) (h1 : b ≤ 255) : Calls Try.prog 15 #[.int .u8 b] w fun e w' => e = .returned (.int .u8 (lo b)) ∧ w' = w := by
  have C1 := Hid.mk' (isGreat_any b w)
  have HW : Hid (lo b = if gr b = true then b + 32 else b) := rfl
  have HB : Hid (gr b = true → 65 ≤ b ∧ b ≤ 90) := fun h => of_decide_eq_true h
  generalize lo b = r at *
  generalize gr b = s at *
  cases s with
  | true =>
    obtain ⟨h2, h3⟩ := HB.out rfl
    go_enter Try.func15, Try.ntmps15
    go_wp2_with (go_at_call 26; refine C1.out.mono ?_; rintro e w' ⟨rfl, hw⟩; have hq := hw.symm; subst hq; clear hw)
    go_ret
    refine ⟨?_, rfl⟩; rw [HW.out]; simp
  | false =>
    go_enter Try.func15, Try.ntmps15
    go_wp2_with (go_at_call 26; refine C1.out.mono ?_; rintro e w' ⟨rfl, hw⟩; have hq := hw.symm; subst hq; clear hw)
    go_ret
    refine ⟨?_, rfl⟩; rw [HW.out]; simp

set_option maxHeartbeats 1000000 in
theorem rlower_any (b : Int) (w : World) (h0 : 0 ≤ b) (h1 : b ≤ 255) : Calls Try.prog 16 #[.int .u8 b] w fun e w' => e = .returned (.int .u8 (lo b)) ∧ w' = w := by
  have C1 := Hid.mk' (rgreat_any b w)
  have HW : Hid (lo b = if gr b = true then b + 32 else b) := rfl
  have HB : Hid (gr b = true → 65 ≤ b ∧ b ≤ 90) := fun h => of_decide_eq_true h
  generalize lo b = r at *
  generalize gr b = s at *
  cases s with
  | true =>
    obtain ⟨h2, h3⟩ := HB.out rfl
    go_enter Try.func16, Try.ntmps16
    go_wp2_with (go_at_call 24; refine C1.out.mono ?_; rintro e w' ⟨rfl, hw⟩; have hq := hw.symm; subst hq; clear hw)
    go_ret
    refine ⟨?_, rfl⟩; rw [HW.out]; simp
  | false =>
    go_enter Try.func16, Try.ntmps16
    go_wp2_with (go_at_call 24; refine C1.out.mono ?_; rintro e w' ⟨rfl, hw⟩; have hq := hw.symm; subst hq; clear hw)
    go_ret
    refine ⟨?_, rfl⟩; rw [HW.out]; simp

set_option maxHeartbeats 1000000 in
theorem toggle_any (b : Int) (w : World) (h0 : 0 ≤ b) (h1 : b ≤ 255) : Calls Try.prog 17 #[.int .u8 b] w fun e w' => e = .returned (.int .u8 (tg b)) ∧ w' = w := by
  have C1 := Hid.mk' (isSmall_any b w)
  have C2 := Hid.mk' (upper_any b w h0 h1)
  have C3 := Hid.mk' (lower_any b w h0 h1)
  have HW : Hid (tg b = if sm b = true then up b else lo b) := rfl
  generalize tg b = r at *
  generalize up b = u at *
  generalize lo b = l at *
  generalize sm b = s at *
  cases s with
  | true =>
    go_enter Try.func17, Try.ntmps17
    go_wp2_with (first | (go_at_call 25; refine C1.out.mono ?_; rintro e w' ⟨rfl, hw⟩; have hq := hw.symm; subst hq; clear hw) | (go_at_call 13; refine C2.out.mono ?_; rintro e w' ⟨rfl, hw⟩; have hq := hw.symm; subst hq; clear hw) | (go_at_call 15; refine C3.out.mono ?_; rintro e w' ⟨rfl, hw⟩; have hq := hw.symm; subst hq; clear hw))
    go_ret
    refine ⟨?_, rfl⟩; rw [HW.out]; simp
  | false =>
    go_enter Try.func17, Try.ntmps17
    go_wp2_with (first | (go_at_call 25; refine C1.out.mono ?_; rintro e w' ⟨rfl, hw⟩; have hq := hw.symm; subst hq; clear hw) | (go_at_call 13; refine C2.out.mono ?_; rintro e w' ⟨rfl, hw⟩; have hq := hw.symm; subst hq; clear hw) | (go_at_call 15; refine C3.out.mono ?_; rintro e w' ⟨rfl, hw⟩; have hq := hw.symm; subst hq; clear hw))
    go_ret
    refine ⟨?_, rfl⟩; rw [HW.out]; simp

set_option maxHeartbeats 1000000 in
theorem rtoggle_any (b : Int) (w : World) (h0 : 0 ≤ b) (h1 : b ≤ 255) : Calls Try.prog 18 #[.int .u8 b] w fun e w' => e = .returned (.int .u8 (tg b)) ∧ w' = w := by
  have C1 := Hid.mk' (rsmall_any b w)
  have C2 := Hid.mk' (rupper_any b w h0 h1)
  have C3 := Hid.mk' (rlower_any b w h0 h1)
  have HW : Hid (tg b = if sm b = true then up b else lo b) := rfl
  generalize tg b = r at *
  generalize up b = u at *
  generalize lo b = l at *
  generalize sm b = s at *
  cases s with
  | true =>
    go_enter Try.func18, Try.ntmps18
    go_wp2_with (first | (go_at_call 23; refine C1.out.mono ?_; rintro e w' ⟨rfl, hw⟩; have hq := hw.symm; subst hq; clear hw) | (go_at_call 14; refine C2.out.mono ?_; rintro e w' ⟨rfl, hw⟩; have hq := hw.symm; subst hq; clear hw) | (go_at_call 16; refine C3.out.mono ?_; rintro e w' ⟨rfl, hw⟩; have hq := hw.symm; subst hq; clear hw))
    go_ret
    refine ⟨?_, rfl⟩; rw [HW.out]; simp
  | false =>
    go_enter Try.func18, Try.ntmps18
    go_wp2_with (first | (go_at_call 23; refine C1.out.mono ?_; rintro e w' ⟨rfl, hw⟩; have hq := hw.symm; subst hq; clear hw) | (go_at_call 14; refine C2.out.mono ?_; rintro e w' ⟨rfl, hw⟩; have hq := hw.symm; subst hq; clear hw) | (go_at_call 16; refine C3.out.mono ?_; rintro e w' ⟨rfl, hw⟩; have hq := hw.symm; subst hq; clear hw))
    go_ret
    refine ⟨?_, rfl⟩; rw [HW.out]; simp

/-- the other bracket, whether this one opens, whether it is one -/
def pt (b : Int) : Int × Bool × Bool := if b = 40 then (41, true, true) else if b = 41 then (40, false, true) else if b = 91 then (93, true, true) else if b = 93 then (91, false, true) else if b = 123 then (125, true, true) else if b = 125 then (123, false, true) else (0, false, false)
def tp (x : Int × Bool × Bool) : Ending := .returned (.tuple #[.int .u8 x.1, .bool x.2.1, .bool x.2.2])

set_option maxHeartbeats 1000000 in
theorem partner_any (b : Int) (w : World) : Calls Try.prog 11 #[.int .u8 b] w fun e w' => e = tp (pt b) ∧ w' = w := by
  have HW : Hid (pt b = if b = 40 then (41, true, true) else if b = 41 then (40, false, true) else if b = 91 then (93, true, true) else if b = 93 then (91, false, true) else if b = 123 then (125, true, true) else if b = 125 then (123, false, true) else (0, false, false)) := rfl
  generalize pt b = r at *
  go_enter Try.func11, Try.ntmps11
  go_wp2
  all_goals go_ret3
  all_goals (refine ⟨?_, rfl⟩; rw [HW.out]; simp_all [tp])

set_option maxHeartbeats 1000000 in
theorem rpartner_any (b : Int) (w : World) : Calls Try.prog 12 #[.int .u8 b] w fun e w' => e = tp (pt b) ∧ w' = w := by
  have HW : Hid (pt b = if b = 40 then (41, true, true) else if b = 41 then (40, false, true) else if b = 91 then (93, true, true) else if b = 93 then (91, false, true) else if b = 123 then (125, true, true) else if b = 125 then (123, false, true) else (0, false, false)) := rfl
  generalize pt b = r at *
  go_enter Try.func12, Try.ntmps12
  go_wp2_with fail
  go_loopw [5] (fun x wr => wr = w ∧ (x = .int .i64 0 ∨ (x = .int .i64 1 ∧ ¬ b = 40 ∧ ¬ b = 41) ∨ (x = .int .i64 2 ∧ ¬ b = 40 ∧ ¬ b = 41 ∧ ¬ b = 91 ∧ ¬ b = 93) ∨ (x = .int .i64 3 ∧ ¬ b = 40 ∧ ¬ b = 41 ∧ ¬ b = 91 ∧ ¬ b = 93 ∧ ¬ b = 123 ∧ ¬ b = 125))) (fun x _ => 3 - (intOf x).toNat)
  case atStart => exact ⟨rfl, .inl rfl⟩
  case round =>
    obtain ⟨rfl, h⟩ := hrel
    rcases h with rfl | ⟨rfl, h1, h2⟩ | ⟨rfl, h1, h2, h3, h4⟩ | ⟨rfl, h1, h2, h3, h4, h5, h6⟩
    · have k1 : (((⟨#[40, 91, 123]⟩ : ByteArray)[0]'(by decide)).toNat : Int) = 40 := rfl
      have k2 : (((⟨#[41, 93, 125]⟩ : ByteArray)[0]'(by decide)).toNat : Int) = 41 := rfl
      go_wp2
      · go_ret3
        refine ⟨?_, rfl⟩; rw [HW.out]; simp_all [tp]
      · rename_i g1 g2
        obtain rfl : b = 41 := by simp at g2; exact g2.symm
        go_ret3
        refine ⟨?_, rfl⟩; rw [HW.out]; simp [tp]
      · rename_i g1 g2
        have g3 : ¬ b = 40 := fun h => by subst h; simp at g1
        have g4 : ¬ b = 41 := fun h => by subst h; simp at g2
        go_roundw
        case rel => exact ⟨(by first | trivial | rfl), .inr (.inl ⟨rfl, g3, g4⟩)⟩
        case measure => simp [intOf]
    · have k1 : (((⟨#[40, 91, 123]⟩ : ByteArray)[1]'(by decide)).toNat : Int) = 91 := rfl
      have k2 : (((⟨#[41, 93, 125]⟩ : ByteArray)[1]'(by decide)).toNat : Int) = 93 := rfl
      go_wp2
      · go_ret3
        refine ⟨?_, rfl⟩; rw [HW.out]; simp_all [tp]
      · rename_i g1 g2
        obtain rfl : b = 93 := by simp at g2; exact g2.symm
        go_ret3
        refine ⟨?_, rfl⟩; rw [HW.out]; simp [tp]
      · rename_i g1 g2
        have g3 : ¬ b = 91 := fun h => by subst h; simp at g1
        have g4 : ¬ b = 93 := fun h => by subst h; simp at g2
        go_roundw
        case rel => exact ⟨(by first | trivial | rfl), .inr (.inr (.inl ⟨rfl, h1, h2, g3, g4⟩))⟩
        case measure => simp [intOf]
    · have k1 : (((⟨#[40, 91, 123]⟩ : ByteArray)[2]'(by decide)).toNat : Int) = 123 := rfl
      have k2 : (((⟨#[41, 93, 125]⟩ : ByteArray)[2]'(by decide)).toNat : Int) = 125 := rfl
      go_wp2
      · go_ret3
        refine ⟨?_, rfl⟩; rw [HW.out]; simp_all [tp]
      · rename_i g1 g2
        obtain rfl : b = 125 := by simp at g2; exact g2.symm
        go_ret3
        refine ⟨?_, rfl⟩; rw [HW.out]; simp [tp]
      · rename_i g1 g2
        have g3 : ¬ b = 123 := fun h => by subst h; simp at g1
        have g4 : ¬ b = 125 := fun h => by subst h; simp at g2
        go_roundw
        case rel => exact ⟨(by first | trivial | rfl), .inr (.inr (.inr ⟨rfl, h1, h2, h3, h4, g3, g4⟩))⟩
        case measure => simp [intOf]
    · go_wp2
      go_ret3
      refine ⟨?_, rfl⟩; rw [HW.out]; simp_all [tp]

end Go.Proofs.Ytcjlkcpmljddfaa
