/- The contracts of the reference's onward, last and back. -/
import Derived.Test.YtomekjakjgfjdaaRef
import Derived.Test.YtomekjakjgfjdaaScan
import Derived.Deep.LoopGhost
namespace Go.Proofs.Ytomekjakjgfjdaa
open Go.RowKit

set_option maxHeartbeats 2000000 in
theorem onward_any (ao : Option Addr) (n c p N : Nat) (big : Bool) (l : List UInt8) (w : World) (hp : p ≤ n) (hN0 : 1 ≤ N) (hN : N ≤ 9999) (HT : Hid (Tx w ao n c l)) :
    Calls Try.prog 16 #[.slice ao n c, .int .i64 p, .int .i64 N, .bool big] w fun e w' => e = .returned (.int .i64 (sup (bgn l big) (fun _ => n) (n - p) N p p : Nat)) ∧ w' = w := by
  have hbig : (n : Int) ≤ 140737488355328 := by have := HT.out.big; omega
  obtain ⟨A, hA⟩ : ∃ A, A = sup (bgn l big) (fun _ => n) (n - p) N p p := ⟨_, rfl⟩
  rw [← hA]
  have HA := Hid.mk' hA
  clear hA
  have hpn : (p : Int) ≤ (n : Int) := by omega
  go_enter Try.func16, Try.ntmps16
  go_wp2_with fail
  go_loopg [2, 9] (n - p) (fun g x2 x9 wx => ∃ q m d : Nat, q + g = n + 1 ∧ p < q ∧ 1 ≤ m ∧ m ≤ 9999 ∧ x2 = .int .i64 m ∧ x9 = .int .i64 q ∧ Hid (sup (bgn l big) (fun _ => n) g m d (q - 1) = A) ∧ w = wx)
  case atStart => exact ⟨p + 1, N, p, by omega, by omega, hN0, hN, rfl, by go_num, HA.out.symm, rfl⟩
  case round =>
    obtain ⟨q, m, d, hqg, hdq, hm0, hm1, rfl, rfl, HJ, rfl⟩ := hrel
    have hq0 : (0 : Int) ≤ (q : Int) := by omega
    have hq1 : (q : Int) ≤ 140737488355329 := by omega
    have hm2 : (m : Int) ≤ 9999 := by omega
    have hm3 : (1 : Int) ≤ (m : Int) := by omega
    cases gk with
    | zero =>
      have hqz : ¬ ((q : Int) ≤ (n : Int)) := by omega
      have HE : Hid (n = A) := by have := HJ.out; rw [sup_end _ _ (by omega)] at this; exact this
      go_wp2
      go_ret
      exact ⟨by rw [← HE.out]; rfl, rfl⟩
    | succ g =>
      have hqz : (q : Int) ≤ (n : Int) := by omega
      have C1 := Hid.mk' (rbegin_any (k := q) big (by omega) HT)
      have eq1 : q - 1 + 1 = q := by omega
      cases hs : bgn l big q with
      | true =>
        rw [hs] at C1
        have HK : Hid (sup (bgn l big) (fun _ => n) g (m - 1) q q = A) := by
          have := HJ.out
          rw [sup_yes (by omega) (by rw [eq1]; exact hs), eq1] at this
          exact this
        by_cases hm : m = 1
        · subst hm
          have HE : Hid (q = A) := by have := HK.out; rw [sup_zero] at this; exact this
          go_wp2_with (go_at_call 22; refine C1.out.mono ?_; rintro e w' ⟨rfl, hw⟩; have hq := hw.symm; subst hq; clear hw)
          go_ret
          exact ⟨by rw [← HE.out]; rfl, rfl⟩
        · have hm4 : ((m : Int) - 1 == 0) = false := by simp; omega
          go_wp2_with (go_at_call 22; refine C1.out.mono ?_; rintro e w' ⟨rfl, hw⟩; have hq := hw.symm; subst hq; clear hw)
          go_roundg g
          case measure => omega
          case rel => exact ⟨q + 1, m - 1, q, by omega, by omega, by omega, by omega, by go_num, by go_num, HK.out, rfl⟩
      | false =>
        rw [hs] at C1
        have HK : Hid (sup (bgn l big) (fun _ => n) g m d q = A) := by
          have := HJ.out
          rw [sup_no (by omega) (by rw [eq1]; exact hs), eq1] at this
          exact this
        go_wp2_with (go_at_call 22; refine C1.out.mono ?_; rintro e w' ⟨rfl, hw⟩; have hq := hw.symm; subst hq; clear hw)
        go_roundg g
        case measure => omega
        case rel => exact ⟨q + 1, m, d, by omega, by omega, hm0, hm1, rfl, by go_num, HK.out, rfl⟩

/-- what last answers -/
def lastV (p A : Nat) : Int := if A = p then -1 else (A : Int)
theorem ndg_len {l : List UInt8} {big : Bool} {q : Nat} (h : l.length ≤ q) : ndg l big q = false := by unfold ndg; rw [ka_out (by omega)]; rfl
set_option maxHeartbeats 2000000 in
theorem last_any (ao : Option Addr) (n c p N : Nat) (big : Bool) (l : List UInt8) (w : World) (hp : p ≤ n) (hN : N ≤ 9999) (HT : Hid (Tx w ao n c l)) :
    Calls Try.prog 18 #[.slice ao n c, .int .i64 p, .int .i64 N, .bool big] w fun e w' => e = .returned (.int .i64 (lastV p (sup (ndg l big) (fun d => d) (n - p) N p p))) ∧ w' = w := by
  have hbig : (n : Int) ≤ 140737488355328 := by have := HT.out.big; omega
  have hlen := Hid.mk' HT.out.len
  obtain ⟨A, hA⟩ : ∃ A, A = sup (ndg l big) (fun d => d) (n - p) N p p := ⟨_, rfl⟩
  rw [← hA]
  have HA := Hid.mk' hA
  clear hA
  have hpn : (p : Int) ≤ (n : Int) := by omega
  go_enter Try.func18, Try.ntmps18
  go_wp2_with fail
  go_loopg [2, 9, 10] (n - p) (fun g x2 x9 x10 wx => ∃ q m d : Nat, q + g = n + 1 ∧ p < q ∧ m ≤ 9999 ∧ x2 = .int .i64 m ∧ x9 = .int .i64 (lastV p d) ∧ p ≤ d ∧ d < q ∧ x10 = .int .i64 q ∧ Hid (sup (ndg l big) (fun d => d) g m d (q - 1) = A) ∧ w = wx)
  case atStart => exact ⟨p + 1, N, p, by omega, by omega, hN, rfl, by unfold lastV; rw [if_pos rfl], Nat.le_refl _, by omega, by go_num, HA.out.symm, rfl⟩
  case round =>
    obtain ⟨q, m, d, hqg, hdq, hm1, rfl, rfl, hpd, hdq2, rfl, HJ, rfl⟩ := hrel
    have hq0 : (0 : Int) ≤ (q : Int) := by omega
    have hq1 : (q : Int) ≤ 140737488355329 := by omega
    have hm2 : (m : Int) ≤ 9999 := by omega
    have eq1 : q - 1 + 1 = q := by omega
    by_cases hqn : n ≤ q
    · have hqz : ¬ ((q : Int) < (n : Int)) := by omega
      have HE : Hid (d = A) := by
        have := HJ.out
        rcases Nat.eq_zero_or_pos m with h0 | h0
        · subst h0; rw [sup_zero] at this; exact this
        · cases gk with
          | zero => rw [sup_end _ _ h0] at this; exact this
          | succ g =>
            have hl := hlen.out
            obtain rfl : g = 0 := by omega
            rw [sup_no h0 (ndg_len (by omega)), sup_end _ _ h0] at this
            exact this
      go_wp2
      go_ret
      exact ⟨by rw [← HE.out]; rfl, rfl⟩
    · have hqz : (q : Int) < (n : Int) := by omega
      by_cases hm0 : m = 0
      · subst hm0
        have HE : Hid (d = A) := by have := HJ.out; rw [sup_zero] at this; exact this
        go_wp2
        go_ret
        exact ⟨by rw [← HE.out]; rfl, rfl⟩
      · have hm3 : (0 : Int) < (m : Int) := by omega
        obtain ⟨g, rfl⟩ : ∃ g, gk = g + 1 := ⟨gk - 1, by omega⟩
        have C1 := Hid.mk' (rend_any (k := q) big (by omega) HT)
        cases hs : ndg l big q with
        | true =>
          rw [hs] at C1
          have HK : Hid (sup (ndg l big) (fun d => d) g (m - 1) q q = A) := by
            have := HJ.out
            rw [sup_yes (by omega) (by rw [eq1]; exact hs), eq1] at this
            exact this
          have hv : Hid (lastV p q = (q : Int)) := by unfold Hid lastV; rw [if_neg (by omega)]
          go_wp2_with (go_at_call 23; refine C1.out.mono ?_; rintro e w' ⟨rfl, hw⟩; have hq := hw.symm; subst hq; clear hw)
          go_roundg g
          case measure => omega
          case rel => exact ⟨q + 1, m - 1, q, by omega, by omega, by omega, by go_num, by rw [hv.out], by omega, by omega, by go_num, HK.out, rfl⟩
        | false =>
          rw [hs] at C1
          have HK : Hid (sup (ndg l big) (fun d => d) g m d q = A) := by
            have := HJ.out
            rw [sup_no (by omega) (by rw [eq1]; exact hs), eq1] at this
            exact this
          go_wp2_with (go_at_call 23; refine C1.out.mono ?_; rintro e w' ⟨rfl, hw⟩; have hq := hw.symm; subst hq; clear hw)
          go_roundg g
          case measure => omega
          case rel => exact ⟨q + 1, m, d, by omega, by omega, hm1, rfl, rfl, hpd, by omega, by go_num, HK.out, rfl⟩

set_option maxHeartbeats 2000000 in
theorem backb_any (ao : Option Addr) (n c p N : Nat) (big : Bool) (l : List UInt8) (w : World) (hp : p ≤ n) (hN0 : 1 ≤ N) (hN : N ≤ 9999) (HT : Hid (Tx w ao n c l)) :
    Calls Try.prog 17 #[.slice ao n c, .int .i64 p, .int .i64 N, .bool big, .bool false] w fun e w' => e = .returned (.int .i64 (sdn (bgn l big) (fun _ => 0) p N p : Nat)) ∧ w' = w := by
  have hbig : (n : Int) ≤ 140737488355328 := by have := HT.out.big; omega
  obtain ⟨A, hA⟩ : ∃ A, A = sdn (bgn l big) (fun _ => 0) p N p := ⟨_, rfl⟩
  rw [← hA]
  have HA := Hid.mk' hA
  clear hA
  have hpn : (p : Int) ≤ (n : Int) := by omega
  have hp0 : (0 : Int) ≤ (p : Int) := by omega
  go_enter Try.func17, Try.ntmps17
  go_wp2_with fail
  go_loopg [2, 11] p (fun g x2 x11 wx => ∃ m d : Nat, g ≤ p ∧ 1 ≤ m ∧ m ≤ 9999 ∧ x2 = .int .i64 m ∧ x11 = .int .i64 ((g : Int) - 1) ∧ Hid (sdn (bgn l big) (fun _ => 0) g m d = A) ∧ w = wx)
  case atStart => exact ⟨N, p, Nat.le_refl _, hN0, hN, rfl, rfl, HA.out.symm, rfl⟩
  case round =>
    obtain ⟨m, d, hgp, hm0, hm1, rfl, rfl, HJ, rfl⟩ := hrel
    have hm2 : (m : Int) ≤ 9999 := by omega
    have hm3 : (1 : Int) ≤ (m : Int) := by omega
    by_cases hg1 : gk ≤ 1
    · have HE : Hid (0 = A) := by
        have := HJ.out
        rcases Nat.eq_zero_or_pos gk with h0 | h0
        · subst h0; rw [sdn_end _ (by omega)] at this; exact this
        · obtain rfl : gk = 1 := by omega
          cases hs : bgn l big 0 with
          | true =>
            rw [sdn_yes (by omega) hs] at this
            rcases Nat.eq_zero_or_pos (m - 1) with h1 | h1
            · rw [h1, sdn_zero] at this; exact this
            · rw [sdn_end _ h1] at this; exact this
          | false => rw [sdn_no (by omega) hs, sdn_end _ (by omega)] at this; exact this
      have hgz : ¬ ((0 : Int) < (gk : Int) - 1) := by omega
      go_wp2
      go_ret
      exact ⟨by rw [← HE.out]; rfl, rfl⟩
    · obtain ⟨g, rfl⟩ : ∃ g, gk = g + 1 := ⟨gk - 1, by omega⟩
      have eg : ((g + 1 : Nat) : Int) - 1 = (g : Int) := by omega
      rw [eg]
      have hgz : (0 : Int) < (g : Int) := by omega
      have hgn : (g : Int) ≤ 140737488355328 := by omega
      have C1 := Hid.mk' (rbegin_any (k := g) big (by omega) HT)
      cases hs : bgn l big g with
      | true =>
        have HK : Hid (sdn (bgn l big) (fun _ => 0) g (m - 1) g = A) := by
          have := HJ.out
          rw [sdn_yes (by omega) hs] at this
          exact this
        rw [hs] at C1
        by_cases hm : m = 1
        · subst hm
          have HE : Hid (g = A) := by have := HK.out; rw [sdn_zero] at this; exact this
          go_wp2_with (first | (go_at_call 22; refine C1.out.mono ?_; rintro e w' ⟨rfl, hw⟩; have hq := hw.symm; subst hq; clear hw))
          go_ret
          exact ⟨by rw [← HE.out]; rfl, rfl⟩
        · have hm4 : ((m : Int) - 1 == 0) = false := by simp; omega
          go_wp2_with (first | (go_at_call 22; refine C1.out.mono ?_; rintro e w' ⟨rfl, hw⟩; have hq := hw.symm; subst hq; clear hw))
          go_roundg g
          case measure => omega
          case rel => exact ⟨m - 1, g, by omega, by omega, by omega, by go_num, by go_num, HK.out, rfl⟩
      | false =>
        have HK : Hid (sdn (bgn l big) (fun _ => 0) g m d = A) := by
          have := HJ.out
          rw [sdn_no (by omega) hs] at this
          exact this
        rw [hs] at C1
        go_wp2_with (first | (go_at_call 22; refine C1.out.mono ?_; rintro e w' ⟨rfl, hw⟩; have hq := hw.symm; subst hq; clear hw))
        go_roundg g
        case measure => omega
        case rel => exact ⟨m, d, by omega, hm0, hm1, rfl, by go_num, HK.out, rfl⟩
set_option maxHeartbeats 2000000 in
theorem backg_any (ao : Option Addr) (n c p N : Nat) (big : Bool) (l : List UInt8) (w : World) (hp : p ≤ n) (hN0 : 1 ≤ N) (hN : N ≤ 9999) (HT : Hid (Tx w ao n c l)) :
    Calls Try.prog 17 #[.slice ao n c, .int .i64 p, .int .i64 N, .bool big, .bool true] w fun e w' => e = .returned (.int .i64 (sdn (hlt l big) (fun _ => 0) p N p : Nat)) ∧ w' = w := by
  have hbig : (n : Int) ≤ 140737488355328 := by have := HT.out.big; omega
  obtain ⟨A, hA⟩ : ∃ A, A = sdn (hlt l big) (fun _ => 0) p N p := ⟨_, rfl⟩
  rw [← hA]
  have HA := Hid.mk' hA
  clear hA
  have hpn : (p : Int) ≤ (n : Int) := by omega
  have hp0 : (0 : Int) ≤ (p : Int) := by omega
  go_enter Try.func17, Try.ntmps17
  go_wp2_with fail
  go_loopg [2, 11] p (fun g x2 x11 wx => ∃ m d : Nat, g ≤ p ∧ 1 ≤ m ∧ m ≤ 9999 ∧ x2 = .int .i64 m ∧ x11 = .int .i64 ((g : Int) - 1) ∧ Hid (sdn (hlt l big) (fun _ => 0) g m d = A) ∧ w = wx)
  case atStart => exact ⟨N, p, Nat.le_refl _, hN0, hN, rfl, rfl, HA.out.symm, rfl⟩
  case round =>
    obtain ⟨m, d, hgp, hm0, hm1, rfl, rfl, HJ, rfl⟩ := hrel
    have hm2 : (m : Int) ≤ 9999 := by omega
    have hm3 : (1 : Int) ≤ (m : Int) := by omega
    by_cases hg1 : gk ≤ 1
    · have HE : Hid (0 = A) := by
        have := HJ.out
        rcases Nat.eq_zero_or_pos gk with h0 | h0
        · subst h0; rw [sdn_end _ (by omega)] at this; exact this
        · obtain rfl : gk = 1 := by omega
          cases hs : hlt l big 0 with
          | true =>
            rw [sdn_yes (by omega) hs] at this
            rcases Nat.eq_zero_or_pos (m - 1) with h1 | h1
            · rw [h1, sdn_zero] at this; exact this
            · rw [sdn_end _ h1] at this; exact this
          | false => rw [sdn_no (by omega) hs, sdn_end _ (by omega)] at this; exact this
      have hgz : ¬ ((0 : Int) < (gk : Int) - 1) := by omega
      go_wp2
      go_ret
      exact ⟨by rw [← HE.out]; rfl, rfl⟩
    · obtain ⟨g, rfl⟩ : ∃ g, gk = g + 1 := ⟨gk - 1, by omega⟩
      have eg : ((g + 1 : Nat) : Int) - 1 = (g : Int) := by omega
      rw [eg]
      have hgz : (0 : Int) < (g : Int) := by omega
      have hgn : (g : Int) ≤ 140737488355328 := by omega
      have C1 := Hid.mk' (rbegin_any (k := g) big (by omega) HT)
      have C2 := Hid.mk' (rend_any (k := g) big (by omega) HT)
      have C3 := Hid.mk' (rbare_any (k := g) (by omega) HT)
      have HS : Hid (hlt l big g = (ndg l big g || el l g)) := rfl
      generalize ndg l big g = x at *
      generalize el l g = y at *
      cases hs : hlt l big g with
      | true =>
        have HK : Hid (sdn (hlt l big) (fun _ => 0) g (m - 1) g = A) := by
          have := HJ.out
          rw [sdn_yes (by omega) hs] at this
          exact this
        generalize bgn l big g = zz at *
        have hxy : (x || y) = true := by rw [← HS.out]; exact hs
        cases x with
        | true =>
          by_cases hm : m = 1
          · subst hm
            have HE : Hid (g = A) := by have := HK.out; rw [sdn_zero] at this; exact this
            go_wp2_with (first | (go_at_call 22; refine C1.out.mono ?_; rintro e w' ⟨rfl, hw⟩; have hq := hw.symm; subst hq; clear hw) | (go_at_call 23; refine C2.out.mono ?_; rintro e w' ⟨rfl, hw⟩; have hq := hw.symm; subst hq; clear hw) | (go_at_call 24; refine C3.out.mono ?_; rintro e w' ⟨rfl, hw⟩; have hq := hw.symm; subst hq; clear hw))
            go_ret
            exact ⟨by rw [← HE.out]; rfl, rfl⟩
          · have hm4 : ((m : Int) - 1 == 0) = false := by simp; omega
            go_wp2_with (first | (go_at_call 22; refine C1.out.mono ?_; rintro e w' ⟨rfl, hw⟩; have hq := hw.symm; subst hq; clear hw) | (go_at_call 23; refine C2.out.mono ?_; rintro e w' ⟨rfl, hw⟩; have hq := hw.symm; subst hq; clear hw) | (go_at_call 24; refine C3.out.mono ?_; rintro e w' ⟨rfl, hw⟩; have hq := hw.symm; subst hq; clear hw))
            go_roundg g
            case measure => omega
            case rel => exact ⟨m - 1, g, by omega, by omega, by omega, by go_num, by go_num, HK.out, rfl⟩
        | false =>
          obtain rfl : y = true := by simpa using hxy
          by_cases hm : m = 1
          · subst hm
            have HE : Hid (g = A) := by have := HK.out; rw [sdn_zero] at this; exact this
            go_wp2_with (first | (go_at_call 22; refine C1.out.mono ?_; rintro e w' ⟨rfl, hw⟩; have hq := hw.symm; subst hq; clear hw) | (go_at_call 23; refine C2.out.mono ?_; rintro e w' ⟨rfl, hw⟩; have hq := hw.symm; subst hq; clear hw) | (go_at_call 24; refine C3.out.mono ?_; rintro e w' ⟨rfl, hw⟩; have hq := hw.symm; subst hq; clear hw))
            go_ret
            exact ⟨by rw [← HE.out]; rfl, rfl⟩
          · have hm4 : ((m : Int) - 1 == 0) = false := by simp; omega
            go_wp2_with (first | (go_at_call 22; refine C1.out.mono ?_; rintro e w' ⟨rfl, hw⟩; have hq := hw.symm; subst hq; clear hw) | (go_at_call 23; refine C2.out.mono ?_; rintro e w' ⟨rfl, hw⟩; have hq := hw.symm; subst hq; clear hw) | (go_at_call 24; refine C3.out.mono ?_; rintro e w' ⟨rfl, hw⟩; have hq := hw.symm; subst hq; clear hw))
            go_roundg g
            case measure => omega
            case rel => exact ⟨m - 1, g, by omega, by omega, by omega, by go_num, by go_num, HK.out, rfl⟩
      | false =>
        have HK : Hid (sdn (hlt l big) (fun _ => 0) g m d = A) := by
          have := HJ.out
          rw [sdn_no (by omega) hs] at this
          exact this
        generalize bgn l big g = zz at *
        have hxy : (x || y) = false := by rw [← HS.out]; exact hs
        obtain ⟨rfl, rfl⟩ : x = false ∧ y = false := by simpa using hxy
        go_wp2_with (first | (go_at_call 22; refine C1.out.mono ?_; rintro e w' ⟨rfl, hw⟩; have hq := hw.symm; subst hq; clear hw) | (go_at_call 23; refine C2.out.mono ?_; rintro e w' ⟨rfl, hw⟩; have hq := hw.symm; subst hq; clear hw) | (go_at_call 24; refine C3.out.mono ?_; rintro e w' ⟨rfl, hw⟩; have hq := hw.symm; subst hq; clear hw))
        go_roundg g
        case measure => omega
        case rel => exact ⟨m, d, by omega, hm0, hm1, rfl, by go_num, HK.out, rfl⟩
end Go.Proofs.Ytomekjakjgfjdaa
