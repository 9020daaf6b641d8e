/- The contract of quoinlaw06.awake: true. -/
import Derived.Test.YtcjlkcpmljddfaaFns
namespace Go.Proofs.Ytcjlkcpmljddfaa
open Go.RowKit

set_option maxHeartbeats 1000000 in
theorem awake_any (w : World) : Calls Try.prog 8 #[] w fun e w' => e = .returned (.bool true) ∧ w' = w := by
  have k1 : kd 120 false = 2 := rfl
  have k2 : kd 10 true = 3 := rfl
  have k3 : up 122 = 90 := rfl
  have k4 : lo 65 = 97 := rfl
  have k5 : tg 81 = 113 := rfl
  have k6 : tp (pt 123) = .returned (.tuple #[.int .u8 125, .bool true, .bool true]) := rfl
  go_enter Try.func8, Try.ntmps8
  go_wp2_with fail
  refine (partner_any _ _).mono ?_
  rintro e w' ⟨rfl, hw⟩; have hq := hw.symm; subst hq; clear hw
  rw [k6]
  go_wp2_with fail
  refine (of_any _ _ _).mono ?_
  rintro e w' ⟨rfl, hw⟩; have hq := hw.symm; subst hq; clear hw
  go_wp2_with fail
  refine (of_any _ _ _).mono ?_
  rintro e w' ⟨rfl, hw⟩; have hq := hw.symm; subst hq; clear hw
  go_wp2_with fail
  refine (upper_any _ _ (by omega) (by omega)).mono ?_
  rintro e w' ⟨rfl, hw⟩; have hq := hw.symm; subst hq; clear hw
  go_wp2_with fail
  refine (lower_any _ _ (by omega) (by omega)).mono ?_
  rintro e w' ⟨rfl, hw⟩; have hq := hw.symm; subst hq; clear hw
  go_wp2_with fail
  refine (toggle_any _ _ (by omega) (by omega)).mono ?_
  rintro e w' ⟨rfl, hw⟩; have hq := hw.symm; subst hq; clear hw
  go_wp2
  go_ret
  exact ⟨rfl, rfl⟩
end Go.Proofs.Ytcjlkcpmljddfaa
