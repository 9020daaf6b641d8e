/- The walk of quoinlaw06.ClassPairs: it answers true for every byte. -/
import Derived.Test.YtcjlkcpmljddfaaAwake
namespace Go.Proofs.Ytcjlkcpmljddfaa
open Go.RowKit

theorem tg_in (b : Int) (h0 : 0 ≤ b) (h1 : b ≤ 255) : 0 ≤ tg b ∧ tg b ≤ 255 := by unfold tg up lo sm gr; simp only [decide_eq_true_eq]; repeat' split <;> omega
theorem up_in (b : Int) (h0 : 0 ≤ b) (h1 : b ≤ 255) : 0 ≤ up b ∧ up b ≤ 255 := by unfold up sm; simp only [decide_eq_true_eq]; repeat' split <;> omega
theorem lo_in (b : Int) (h0 : 0 ≤ b) (h1 : b ≤ 255) : 0 ≤ lo b ∧ lo b ≤ 255 := by unfold lo gr; simp only [decide_eq_true_eq]; repeat' split <;> omega
theorem tg_tg (b : Int) : tg (tg b) = b := by unfold tg up lo sm gr; simp only [decide_eq_true_eq]; repeat' split <;> omega
theorem up_lo (b : Int) : up (lo b) = up b := by unfold up lo sm gr; simp only [decide_eq_true_eq]; repeat' split <;> omega
theorem lo_up (b : Int) : lo (up b) = lo b := by unfold up lo sm gr; simp only [decide_eq_true_eq]; repeat' split <;> omega
theorem kd_word {x : Int} (h : wd x = true) (h2 : 32 < x) : kd x false = 2 := by unfold kd; rw [if_neg (by omega), if_neg (by omega), if_pos (.inr h)]
theorem kd_tg (b : Int) : kd (tg b) false = kd b false := by
  have h : tg b = b ∨ (97 ≤ b ∧ b ≤ 122 ∧ tg b = b - 32) ∨ (65 ≤ b ∧ b ≤ 90 ∧ tg b = b + 32) := by unfold tg up lo sm gr; simp only [decide_eq_true_eq]; repeat' split <;> omega
  rcases h with h | ⟨h1, h2, h⟩ | ⟨h1, h2, h⟩
  · rw [h]
  · rw [h]
    have e1 : wd b = true := by unfold wd; rw [show sm b = true from decide_eq_true ⟨h1, h2⟩]; rfl
    have e2 : wd (b - 32) = true := by unfold wd; rw [show gr (b - 32) = true from decide_eq_true ⟨by omega, by omega⟩]; simp
    rw [kd_word e1 (by omega), kd_word e2 (by omega)]
  · rw [h]
    have e1 : wd b = true := by unfold wd; rw [show gr b = true from decide_eq_true ⟨h1, h2⟩]; simp
    have e2 : wd (b + 32) = true := by unfold wd; rw [show sm (b + 32) = true from decide_eq_true ⟨by omega, by omega⟩]; rfl
    rw [kd_word e1 (by omega), kd_word e2 (by omega)]
theorem pt_pt (b : Int) : (∃ o s, pt b = (o, s, true) ∧ pt o = (b, !s, true) ∧ (b == o) = false) ∨ pt b = (0, false, false) := by
  by_cases h1 : b = 40
  · subst h1; exact .inl ⟨_, _, rfl, rfl, rfl⟩
  by_cases h2 : b = 41
  · subst h2; exact .inl ⟨_, _, rfl, rfl, rfl⟩
  by_cases h3 : b = 91
  · subst h3; exact .inl ⟨_, _, rfl, rfl, rfl⟩
  by_cases h4 : b = 93
  · subst h4; exact .inl ⟨_, _, rfl, rfl, rfl⟩
  by_cases h5 : b = 123
  · subst h5; exact .inl ⟨_, _, rfl, rfl, rfl⟩
  by_cases h6 : b = 125
  · subst h6; exact .inl ⟨_, _, rfl, rfl, rfl⟩
  exact .inr (by unfold pt; rw [if_neg h1, if_neg h2, if_neg h3, if_neg h4, if_neg h5, if_neg h6])

set_option maxHeartbeats 1000000 in
theorem pairs_walk (b : Int) (w : World) (h0 : 0 ≤ b) (h1 : b ≤ 255) : Calls Try.prog 5 #[.int .u8 b] w fun e w' => e = .returned (.bool true) ∧ w' = w := by
  have T1 := Hid.mk' (toggle_any b w h0 h1)
  have T2 := Hid.mk' (toggle_any (tg b) w (tg_in b h0 h1).1 (tg_in b h0 h1).2)
  have L1 := Hid.mk' (lower_any b w h0 h1)
  have U2 := Hid.mk' (upper_any (lo b) w (lo_in b h0 h1).1 (lo_in b h0 h1).2)
  have U1 := Hid.mk' (upper_any b w h0 h1)
  have L2 := Hid.mk' (lower_any (up b) w (up_in b h0 h1).1 (up_in b h0 h1).2)
  have K1 := Hid.mk' (of_any b false w)
  have K2 := Hid.mk' (of_any (tg b) false w)
  have P1 := Hid.mk' (partner_any b w)
  have P2 := Hid.mk' (fun o => partner_any o w)
  have PP := Hid.mk' (pt_pt b)
  rw [tg_tg] at T2
  rw [up_lo] at U2
  rw [lo_up] at L2
  rw [kd_tg] at K2
  unfold tp at P1 P2
  generalize kd b false = k at *
  generalize pt b = p at *
  generalize up b = u at *
  generalize lo b = l at *
  generalize tg b = t at *
  go_enter Try.func5, Try.ntmps5
  go_wp2_with fail
  refine (awake_any w).mono ?_
  rintro e w' ⟨rfl, hw⟩; have hq := hw.symm; subst hq; clear hw
  go_wp2_with fail
  refine T1.out.mono ?_
  rintro e w' ⟨rfl, hw⟩; have hq := hw.symm; subst hq; clear hw
  go_wp2_with fail
  refine T2.out.mono ?_
  rintro e w' ⟨rfl, hw⟩; have hq := hw.symm; subst hq; clear hw
  go_wp2_with fail
  refine L1.out.mono ?_
  rintro e w' ⟨rfl, hw⟩; have hq := hw.symm; subst hq; clear hw
  go_wp2_with fail
  refine U2.out.mono ?_
  rintro e w' ⟨rfl, hw⟩; have hq := hw.symm; subst hq; clear hw
  go_wp2_with fail
  refine U1.out.mono ?_
  rintro e w' ⟨rfl, hw⟩; have hq := hw.symm; subst hq; clear hw
  go_wp2_with fail
  refine U1.out.mono ?_
  rintro e w' ⟨rfl, hw⟩; have hq := hw.symm; subst hq; clear hw
  go_wp2_with fail
  refine L2.out.mono ?_
  rintro e w' ⟨rfl, hw⟩; have hq := hw.symm; subst hq; clear hw
  go_wp2_with fail
  refine L1.out.mono ?_
  rintro e w' ⟨rfl, hw⟩; have hq := hw.symm; subst hq; clear hw
  go_wp2_with fail
  refine T1.out.mono ?_
  rintro e w' ⟨rfl, hw⟩; have hq := hw.symm; subst hq; clear hw
  go_wp2_with fail
  refine K2.out.mono ?_
  rintro e w' ⟨rfl, hw⟩; have hq := hw.symm; subst hq; clear hw
  go_wp2_with fail
  refine K1.out.mono ?_
  rintro e w' ⟨rfl, hw⟩; have hq := hw.symm; subst hq; clear hw
  rcases PP.out with ⟨o, s, rfl, h2, h3⟩ | rfl
  · have P3 := P2.out o
    rw [h2] at P3
    have P4 := Hid.mk' P3
    have h4 : (o == b) = false := by rw [beq_eq_false_iff_ne] at h3 ⊢; exact fun h => h3 h.symm
    have h5 : (o != b) = true := by unfold bne; rw [h4]; rfl
    clear P3 h2
    go_wp2_with fail
    refine P1.out.mono ?_
    rintro e w' ⟨rfl, hw⟩; have hq := hw.symm; subst hq; clear hw
    go_wp2_with fail
    refine P4.out.mono ?_
    rintro e w' ⟨rfl, hw⟩; have hq := hw.symm; subst hq; clear hw
    cases s <;> (go_wp2; go_ret; exact ⟨rfl, rfl⟩)
  · go_wp2_with fail
    refine P1.out.mono ?_
    rintro e w' ⟨rfl, hw⟩; have hq := hw.symm; subst hq; clear hw
    go_wp2
    go_ret
    exact ⟨rfl, rfl⟩
end Go.Proofs.Ytcjlkcpmljddfaa
