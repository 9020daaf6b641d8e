/- The walk of quoinlaw06.ClassBytes: it answers true for every byte. -/
import Derived.Test.YtcjlkcpmljddfaaAwake
namespace Go.Proofs.Ytcjlkcpmljddfaa
open Go.RowKit

set_option maxHeartbeats 1000000 in
theorem bytes_walk (b : Int) (w : World) (h0 : 0 ≤ b) (h1 : b ≤ 255) : Calls Try.prog 3 #[.int .u8 b] w fun e w' => e = .returned (.bool true) ∧ w' = w := by
  have O1 := Hid.mk' (of_any b false w)
  have R1 := Hid.mk' (rof_any b false w)
  have O2 := Hid.mk' (of_any b true w)
  have R2 := Hid.mk' (rof_any b true w)
  have P1 := Hid.mk' (partner_any b w)
  have P2 := Hid.mk' (rpartner_any b w)
  have U1 := Hid.mk' (upper_any b w h0 h1)
  have U2 := Hid.mk' (rupper_any b w h0 h1)
  have L1 := Hid.mk' (lower_any b w h0 h1)
  have L2 := Hid.mk' (rlower_any b w h0 h1)
  have T1 := Hid.mk' (toggle_any b w h0 h1)
  have T2 := Hid.mk' (rtoggle_any b w h0 h1)
  unfold tp at P1 P2
  generalize kd b false = k1 at *
  generalize kd b true = k2 at *
  generalize pt b = p at *
  generalize up b = u at *
  generalize lo b = l at *
  generalize tg b = t at *
  obtain ⟨p1, p2, p3⟩ := p
  go_enter Try.func3, Try.ntmps3
  go_wp2_with fail
  refine (awake_any w).mono ?_
  rintro e w' ⟨rfl, hw⟩; have hq := hw.symm; subst hq; clear hw
  go_wp2_with fail
  refine O1.out.mono ?_
  rintro e w' ⟨rfl, hw⟩; have hq := hw.symm; subst hq; clear hw
  go_wp2_with fail
  refine R1.out.mono ?_
  rintro e w' ⟨rfl, hw⟩; have hq := hw.symm; subst hq; clear hw
  go_wp2_with fail
  refine O2.out.mono ?_
  rintro e w' ⟨rfl, hw⟩; have hq := hw.symm; subst hq; clear hw
  go_wp2_with fail
  refine R2.out.mono ?_
  rintro e w' ⟨rfl, hw⟩; have hq := hw.symm; subst hq; clear hw
  go_wp2_with fail
  refine P1.out.mono ?_
  rintro e w' ⟨rfl, hw⟩; have hq := hw.symm; subst hq; clear hw
  go_wp2_with fail
  refine P2.out.mono ?_
  rintro e w' ⟨rfl, hw⟩; have hq := hw.symm; subst hq; clear hw
  go_wp2_with fail
  refine U1.out.mono ?_
  rintro e w' ⟨rfl, hw⟩; have hq := hw.symm; subst hq; clear hw
  go_wp2_with fail
  refine U2.out.mono ?_
  rintro e w' ⟨rfl, hw⟩; have hq := hw.symm; subst hq; clear hw
  go_wp2_with fail
  refine L1.out.mono ?_
  rintro e w' ⟨rfl, hw⟩; have hq := hw.symm; subst hq; clear hw
  go_wp2_with fail
  refine L2.out.mono ?_
  rintro e w' ⟨rfl, hw⟩; have hq := hw.symm; subst hq; clear hw
  go_wp2_with fail
  refine T1.out.mono ?_
  rintro e w' ⟨rfl, hw⟩; have hq := hw.symm; subst hq; clear hw
  go_wp2_with fail
  refine T2.out.mono ?_
  rintro e w' ⟨rfl, hw⟩; have hq := hw.symm; subst hq; clear hw
  go_wp2
  go_ret
  exact ⟨rfl, rfl⟩
end Go.Proofs.Ytcjlkcpmljddfaa
