/- The contracts of quoinlaw08's bare, starts, ends and of the reference's bare, kind, runs, beginning and ending. -/
import Derived.Test.YtomekjakjgfjdaaStop
namespace Go.Proofs.Ytomekjakjgfjdaa
open Go.RowKit

/-- a run begins -/
def rb (l : List UInt8) (big : Bool) (p : Nat) : Bool := rn (ka l p big) && decide (ka l ((p : Int) - 1) big ≠ ka l p big)
theorem bgn_rb (l : List UInt8) (big : Bool) (p : Nat) : bgn l big p = (rb l big p || el l p) := rfl
theorem ka_in {l : List UInt8} {p : Nat} {big : Bool} (h : p < l.length) : ka l (p : Int) big = kd ((at8 l p).toNat : Int) big := by unfold ka; rw [if_pos (by omega)]; simp
theorem ka_out {l : List UInt8} {i : Int} {big : Bool} (h : i < 0 ∨ (l.length : Int) ≤ i) : ka l i big = 3 := by unfold ka; rw [if_neg (by omega)]
theorem kd_three (b : Int) (big : Bool) : kd b big = 3 ↔ b = 10 := by
  unfold kd
  split
  · constructor <;> intro h <;> omega
  · split
    · constructor <;> intro h <;> omega
    · split <;> (constructor <;> intro h <;> omega)
/-- the start of a line without bytes, by the bytes -/
theorem el_eq {l : List UInt8} {p : Nat} (hp : p ≤ l.length) : el l p = ((decide (p = 0) || le (at8 l (p - 1))) && (decide (p = l.length) || le (at8 l p))) := by
  have hbg : bg l p = p ↔ (p = 0 ∨ le (at8 l (p - 1)) = true) := by
    rcases Nat.eq_zero_or_pos p with h | h
    · subst h; simp [bg]
    · cases hb : le (at8 l (p - 1)) with
      | true => simp [bg_yes h hb]
      | false => have := bg_no h hb; simp [this]; omega
  have h3 : ka l p false = 3 ↔ (p = l.length ∨ le (at8 l p) = true) := by
    rcases Nat.lt_or_ge p l.length with h | h
    · rw [ka_in h, kd_three]
      unfold le
      simp
      omega
    · rw [ka_out (by omega)]
      simp
      omega
  rw [Bool.eq_iff_iff]
  unfold el
  simp only [Bool.and_eq_true, Bool.or_eq_true, decide_eq_true_eq, h3]
  constructor
  · rintro ⟨h1, h2⟩
    refine ⟨hbg.1 ?_, h1⟩
    unfold rs at h2
    by_cases hc : (p < l.length ∧ le (at8 l p) = false) ∨ bg l p = p
    · rcases hc with ⟨hc, hd⟩ | hc
      · rcases h1 with h1 | h1
        · omega
        · rw [h1] at hd; cases hd
      · exact hc
    · rw [if_neg hc] at h2
      have : p = 0 := by omega
      subst this
      rfl
  · rintro ⟨h1, h2⟩
    refine ⟨h2, ?_⟩
    unfold rs
    rw [if_pos (.inr (hbg.2 h1))]

set_option maxHeartbeats 2000000 in
theorem bare_any {ao : Option Addr} {n c k : Nat} {l : List UInt8} {w : World} (hk : k ≤ n) (HT : Hid (Tx w ao n c l)) :
    Calls Try.prog 13 #[.slice ao n c, .int .i64 k] w fun e w' => e = .returned (.bool (el l k)) ∧ w' = w := by
  have hlen := HT.out.len
  have HE := Hid.mk' (el_eq (l := l) (p := k) (by omega))
  rw [hlen] at HE
  have hbig : (n : Int) ≤ 140737488355328 := by have := HT.out.big; omega
  generalize el l k = r at *
  have hkn : (k : Int) ≤ (n : Int) := by omega
  clear hlen
  by_cases h0 : k = 0
  · subst h0
    by_cases hn : n = 0
    · subst hn
      have HF : Hid (r = true) := by unfold Hid; rw [HE.out]; rfl
      clear HE
      go_enter Try.func13, Try.ntmps13
      go_wp2
      go_ret
      exact ⟨by rw [HF.out]; rfl, rfl⟩
    · obtain ⟨g, o, rfl, hc⟩ := HT.out.at (by omega)
      have c1 : w.cell? ⟨g, o, none⟩ = some (.int .u8 ((at8 l 0).toNat : Int)) := hc 0 (by omega)
      have hn' : ((0 : Int) == (n : Int)) = false := by simp; omega
      have hn1 : (0 : Int) < (n : Int) := by omega
      clear hc
      cases h10 : (((at8 l 0).toNat : Int) == 10)
      all_goals
        have HF : Hid (r = le (at8 l 0)) := by unfold Hid; rw [HE.out, decide_eq_false (show ¬ 0 = n by omega)]; simp
        rw [show le (at8 l 0) = _ from h10] at HF
        clear HE
        go_enter Try.func13, Try.ntmps13
        go_wp2
        go_ret
        exact ⟨by rw [HF.out]; rfl, rfl⟩
  · obtain ⟨g, o, rfl, hc⟩ := HT.out.at (by omega)
    have c1 := hc (k - 1) (by omega)
    have hz1 : (1 : Int) ≤ (k : Int) := by omega
    have hz2 : (k : Int) - 1 < (n : Int) := by omega
    have hz0 : ((k : Int) == 0) = false := by simp; omega
    cases hp : (((at8 l (k - 1)).toNat : Int) == 10) with
    | false =>
      have HF : Hid (r = false) := by unfold Hid; rw [HE.out, decide_eq_false h0, show le (at8 l (k - 1)) = false from hp]; rfl
      clear HE hc
      go_enter Try.func13, Try.ntmps13
      go_wp2
      go_ret
      exact ⟨by rw [HF.out]; rfl, rfl⟩
    | true =>
      by_cases hkn2 : k = n
      · have HF : Hid (r = true) := by unfold Hid; rw [HE.out, decide_eq_true hkn2, show le (at8 l (k - 1)) = true from hp]; simp
        have hkn3 : ((k : Int) == (n : Int)) = true := by simp; omega
        clear HE hc hkn2
        go_enter Try.func13, Try.ntmps13
        go_wp2
        go_ret
        exact ⟨by rw [HF.out]; rfl, rfl⟩
      · have c2 := hc k (by omega)
        have hkn3 : ((k : Int) == (n : Int)) = false := by simp; omega
        have hkn4 : (k : Int) < (n : Int) := by omega
        cases h10 : (((at8 l k).toNat : Int) == 10)
        all_goals
          have HF : Hid (r = le (at8 l k)) := by unfold Hid; rw [HE.out, decide_eq_false hkn2, show le (at8 l (k - 1)) = true from hp]; simp
          rw [show le (at8 l k) = _ from h10] at HF
          clear HE hc
          go_enter Try.func13, Try.ntmps13
          go_wp2
          go_ret
          exact ⟨by rw [HF.out]; rfl, rfl⟩
set_option maxHeartbeats 2000000 in
theorem rbare_any {ao : Option Addr} {n c k : Nat} {l : List UInt8} {w : World} (hk : k ≤ n) (HT : Hid (Tx w ao n c l)) :
    Calls Try.prog 24 #[.slice ao n c, .int .i64 k] w fun e w' => e = .returned (.bool (el l k)) ∧ w' = w := by
  have hlen := HT.out.len
  have HE := Hid.mk' (el_eq (l := l) (p := k) (by omega))
  rw [hlen] at HE
  have hbig : (n : Int) ≤ 140737488355328 := by have := HT.out.big; omega
  generalize el l k = r at *
  have hkn : (k : Int) ≤ (n : Int) := by omega
  clear hlen
  by_cases h0 : k = 0
  · subst h0
    by_cases hn : n = 0
    · subst hn
      have HF : Hid (r = true) := by unfold Hid; rw [HE.out]; rfl
      clear HE
      go_enter Try.func24, Try.ntmps24
      go_wp2
      go_ret
      exact ⟨by rw [HF.out]; rfl, rfl⟩
    · obtain ⟨g, o, rfl, hc⟩ := HT.out.at (by omega)
      have c1 : w.cell? ⟨g, o, none⟩ = some (.int .u8 ((at8 l 0).toNat : Int)) := hc 0 (by omega)
      have hn' : ((0 : Int) == (n : Int)) = false := by simp; omega
      have hn1 : (0 : Int) < (n : Int) := by omega
      clear hc
      cases h10 : (((at8 l 0).toNat : Int) == 10)
      all_goals
        have HF : Hid (r = le (at8 l 0)) := by unfold Hid; rw [HE.out, decide_eq_false (show ¬ 0 = n by omega)]; simp
        rw [show le (at8 l 0) = _ from h10] at HF
        clear HE
        go_enter Try.func24, Try.ntmps24
        go_wp2
        go_ret
        exact ⟨by rw [HF.out]; rfl, rfl⟩
  · obtain ⟨g, o, rfl, hc⟩ := HT.out.at (by omega)
    have c1 := hc (k - 1) (by omega)
    have hz1 : (1 : Int) ≤ (k : Int) := by omega
    have hz2 : (k : Int) - 1 < (n : Int) := by omega
    have hz0 : ((k : Int) == 0) = false := by simp; omega
    cases hp : (((at8 l (k - 1)).toNat : Int) == 10) with
    | false =>
      have HF : Hid (r = false) := by unfold Hid; rw [HE.out, decide_eq_false h0, show le (at8 l (k - 1)) = false from hp]; rfl
      clear HE hc
      go_enter Try.func24, Try.ntmps24
      go_wp2
      go_ret
      exact ⟨by rw [HF.out]; rfl, rfl⟩
    | true =>
      by_cases hkn2 : k = n
      · have HF : Hid (r = true) := by unfold Hid; rw [HE.out, decide_eq_true hkn2, show le (at8 l (k - 1)) = true from hp]; simp
        have hkn3 : ((k : Int) == (n : Int)) = true := by simp; omega
        clear HE hc hkn2
        go_enter Try.func24, Try.ntmps24
        go_wp2
        go_ret
        exact ⟨by rw [HF.out]; rfl, rfl⟩
      · have c2 := hc k (by omega)
        have hkn3 : ((k : Int) == (n : Int)) = false := by simp; omega
        have hkn4 : (k : Int) < (n : Int) := by omega
        cases h10 : (((at8 l k).toNat : Int) == 10)
        all_goals
          have HF : Hid (r = le (at8 l k)) := by unfold Hid; rw [HE.out, decide_eq_false hkn2, show le (at8 l (k - 1)) = true from hp]; simp
          rw [show le (at8 l k) = _ from h10] at HF
          clear HE hc
          go_enter Try.func24, Try.ntmps24
          go_wp2
          go_ret
          exact ⟨by rw [HF.out]; rfl, rfl⟩
set_option maxHeartbeats 2000000 in
theorem starts_any {ao : Option Addr} {n c k : Nat} {l : List UInt8} {w : World} (big : Bool) (hk : k ≤ n) (HT : Hid (Tx w ao n c l)) :
    Calls Try.prog 12 #[.slice ao n c, .int .i64 k, .bool big] w fun e w' => e = .returned (.bool (rb l big k)) ∧ w' = w := by
  have hlen := HT.out.len
  have hbig : (n : Int) ≤ 140737488355328 := by have := HT.out.big; omega
  by_cases hkn : k = n
  · have HF : Hid (rb l big k = false) := by unfold Hid rb; rw [ka_out (by omega)]; rfl
    have hkn' : (n : Int) ≤ (k : Int) := by omega
    generalize rb l big k = r at *
    clear hlen hk
    go_enter Try.func12, Try.ntmps12
    go_wp2
    go_ret
    exact ⟨by rw [HF.out]; rfl, rfl⟩
  · have hkn' : (k : Int) < (n : Int) := by omega
    have hk0 : (0 : Int) ≤ (k : Int) := by omega
    obtain ⟨g, o, rfl, hc⟩ := HT.out.at (by omega)
    have c1 := hc k (by omega)
    have C1 := Hid.mk' (of_any ((at8 l k).toNat : Int) big w)
    have e1 : ka l (k : Int) big = kd ((at8 l k).toNat : Int) big := ka_in (by omega)
    have HE : Hid (rb l big k = (rn (kd ((at8 l k).toNat : Int) big) && (ka l ((k : Int) - 1) big != kd ((at8 l k).toNat : Int) big))) := by unfold Hid rb; rw [e1]; simp only [bne, ne_eq, decide_not]; rfl
    generalize rb l big k = r at *
    by_cases h0 : k = 0
    · subst h0
      have e2 : ka l (((0 : Nat) : Int) - 1) big = 3 := ka_out (by omega)
      rw [e2] at HE
      have c1' : w.cell? ⟨g, o, none⟩ = some (.int .u8 ((at8 l 0).toNat : Int)) := c1
      generalize kd ((at8 l 0).toNat : Int) big = x at *
      have HF : Hid (r = rn x) := by
        unfold Hid; rw [HE.out]; unfold rn
        by_cases h1 : x = 3
        · subst h1; rfl
        · have : ((3 : Int) != x) = true := by simp; omega
          rw [this]; simp
      clear HE hc c1 e1 e2 hlen
      by_cases hx2 : x = 2
      · subst hx2
        go_enter Try.func12, Try.ntmps12
        go_wp2_with (go_at_call 15; refine C1.out.mono ?_; rintro e w' ⟨rfl, hw⟩; have hq := hw.symm; subst hq; clear hw)
        go_ret
        exact ⟨by rw [HF.out]; rfl, rfl⟩
      · have hx2' : (x == 2) = false := by simp; omega
        by_cases hx1 : x = 1
        · subst hx1
          go_enter Try.func12, Try.ntmps12
          go_wp2_with (go_at_call 15; refine C1.out.mono ?_; rintro e w' ⟨rfl, hw⟩; have hq := hw.symm; subst hq; clear hw)
          go_ret
          exact ⟨by rw [HF.out]; rfl, rfl⟩
        · have hx1' : (x == 1) = false := by simp; omega
          have HG : Hid (r = false) := by unfold Hid; rw [HF.out]; unfold rn; simp [hx1, hx2]
          go_enter Try.func12, Try.ntmps12
          go_wp2_with (go_at_call 15; refine C1.out.mono ?_; rintro e w' ⟨rfl, hw⟩; have hq := hw.symm; subst hq; clear hw)
          go_ret
          exact ⟨by rw [HG.out]; rfl, rfl⟩
    · have c2 := hc (k - 1) (by omega)
      have hz1 : (1 : Int) ≤ (k : Int) := by omega
      have hz2 : (k : Int) - 1 < (n : Int) := by omega
      have hz0 : ((k : Int) == 0) = false := by simp; omega
      have e2 : ka l ((k : Int) - 1) big = kd ((at8 l (k - 1)).toNat : Int) big := by
        rw [show (k : Int) - 1 = ((k - 1 : Nat) : Int) from by omega]; exact ka_in (by omega)
      rw [e2] at HE
      have C2 := Hid.mk' (of_any ((at8 l (k - 1)).toNat : Int) big w)
      generalize kd ((at8 l k).toNat : Int) big = x at *
      generalize kd ((at8 l (k - 1)).toNat : Int) big = y at *
      clear hc e1 e2 hlen
      by_cases hx : x = 1 ∨ x = 2
      · have HF : Hid (r = (y != x)) := by unfold Hid; rw [HE.out]; rcases hx with rfl | rfl <;> simp [rn]
        clear HE
        cases hy : (y != x)
        all_goals
          rw [hy] at HF
          rcases hx with rfl | rfl
          all_goals
            go_enter Try.func12, Try.ntmps12
            go_wp2_with fail
            refine C1.out.mono ?_
            rintro e w' ⟨rfl, hw⟩
            have hq := hw.symm
            subst hq
            clear hw
            go_wp2_with (go_at_call 15; refine C2.out.mono ?_; rintro e w' ⟨rfl, hw⟩; have hq := hw.symm; subst hq; clear hw)
            go_ret
            exact ⟨by rw [HF.out]; rfl, rfl⟩
      · have hx2' : (x == 2) = false := by simp; omega
        have hx1' : (x == 1) = false := by simp; omega
        have HG : Hid (r = false) := by unfold Hid; rw [HE.out]; unfold rn; simp; omega
        clear HE hx
        go_enter Try.func12, Try.ntmps12
        go_wp2_with (go_at_call 15; refine C1.out.mono ?_; rintro e w' ⟨rfl, hw⟩; have hq := hw.symm; subst hq; clear hw)
        go_ret
        exact ⟨by rw [HG.out]; rfl, rfl⟩
set_option maxHeartbeats 2000000 in
theorem ends_any {ao : Option Addr} {n c k : Nat} {l : List UInt8} {w : World} (big : Bool) (hk : k ≤ n) (HT : Hid (Tx w ao n c l)) :
    Calls Try.prog 14 #[.slice ao n c, .int .i64 k, .bool big] w fun e w' => e = .returned (.bool (ndg l big k)) ∧ w' = w := by
  have hlen := HT.out.len
  have hbig : (n : Int) ≤ 140737488355328 := by have := HT.out.big; omega
  by_cases hkn : k = n
  · have HF : Hid (ndg l big k = false) := by unfold Hid ndg; rw [ka_out (by omega)]; rfl
    have hkn' : (n : Int) ≤ (k : Int) := by omega
    generalize ndg l big k = r at *
    clear hlen hk
    go_enter Try.func14, Try.ntmps14
    go_wp2
    go_ret
    exact ⟨by rw [HF.out]; rfl, rfl⟩
  · have hkn' : (k : Int) < (n : Int) := by omega
    have hk0 : (0 : Int) ≤ (k : Int) := by omega
    obtain ⟨g, o, rfl, hc⟩ := HT.out.at (by omega)
    have c1 := hc k (by omega)
    have C1 := Hid.mk' (of_any ((at8 l k).toNat : Int) big w)
    have e1 : ka l (k : Int) big = kd ((at8 l k).toNat : Int) big := ka_in (by omega)
    have HE : Hid (ndg l big k = (rn (kd ((at8 l k).toNat : Int) big) && (ka l ((k : Int) + 1) big != kd ((at8 l k).toNat : Int) big))) := by unfold Hid ndg; rw [e1]; simp only [bne, ne_eq, decide_not]; rfl
    generalize ndg l big k = r at *
    by_cases h0 : k + 1 = n
    · have e2 : ka l ((k : Int) + 1) big = 3 := ka_out (by omega)
      rw [e2] at HE
      have h0' : ((k : Int) + 1 == (n : Int)) = true := by simp; omega
      generalize kd ((at8 l k).toNat : Int) big = x at *
      have HF : Hid (r = rn x) := by
        unfold Hid; rw [HE.out]; unfold rn
        by_cases h1 : x = 3
        · subst h1; rfl
        · have : ((3 : Int) != x) = true := by simp; omega
          rw [this]; simp
      clear HE hc e1 e2 hlen h0
      by_cases hx2 : x = 2
      · subst hx2
        go_enter Try.func14, Try.ntmps14
        go_wp2_with (go_at_call 15; refine C1.out.mono ?_; rintro e w' ⟨rfl, hw⟩; have hq := hw.symm; subst hq; clear hw)
        go_ret
        exact ⟨by rw [HF.out]; rfl, rfl⟩
      · have hx2' : (x == 2) = false := by simp; omega
        by_cases hx1 : x = 1
        · subst hx1
          go_enter Try.func14, Try.ntmps14
          go_wp2_with (go_at_call 15; refine C1.out.mono ?_; rintro e w' ⟨rfl, hw⟩; have hq := hw.symm; subst hq; clear hw)
          go_ret
          exact ⟨by rw [HF.out]; rfl, rfl⟩
        · have hx1' : (x == 1) = false := by simp; omega
          have HG : Hid (r = false) := by unfold Hid; rw [HF.out]; unfold rn; simp [hx1, hx2]
          go_enter Try.func14, Try.ntmps14
          go_wp2_with (go_at_call 15; refine C1.out.mono ?_; rintro e w' ⟨rfl, hw⟩; have hq := hw.symm; subst hq; clear hw)
          go_ret
          exact ⟨by rw [HG.out]; rfl, rfl⟩
    · have c2 := hc (k + 1) (by omega)
      have hz1 : (0 : Int) ≤ (k : Int) + 1 := by omega
      have hz2 : (k : Int) + 1 < (n : Int) := by omega
      have hz0 : ((k : Int) + 1 == (n : Int)) = false := by simp; omega
      have e2 : ka l ((k : Int) + 1) big = kd ((at8 l (k + 1)).toNat : Int) big := ka_in (p := k + 1) (by omega)
      rw [e2] at HE
      have C2 := Hid.mk' (of_any ((at8 l (k + 1)).toNat : Int) big w)
      generalize kd ((at8 l k).toNat : Int) big = x at *
      generalize kd ((at8 l (k + 1)).toNat : Int) big = y at *
      clear hc e1 e2 hlen h0
      by_cases hx : x = 1 ∨ x = 2
      · have HF : Hid (r = (y != x)) := by unfold Hid; rw [HE.out]; rcases hx with rfl | rfl <;> simp [rn]
        clear HE
        cases hy : (y != x)
        all_goals
          rw [hy] at HF
          rcases hx with rfl | rfl
          all_goals
            go_enter Try.func14, Try.ntmps14
            go_wp2_with fail
            refine C1.out.mono ?_
            rintro e w' ⟨rfl, hw⟩
            have hq := hw.symm
            subst hq
            clear hw
            go_wp2_with (go_at_call 15; refine C2.out.mono ?_; rintro e w' ⟨rfl, hw⟩; have hq := hw.symm; subst hq; clear hw)
            go_ret
            exact ⟨by rw [HF.out]; rfl, rfl⟩
      · have hx2' : (x == 2) = false := by simp; omega
        have hx1' : (x == 1) = false := by simp; omega
        have HG : Hid (r = false) := by unfold Hid; rw [HE.out]; unfold rn; simp; omega
        clear HE hx
        go_enter Try.func14, Try.ntmps14
        go_wp2_with (go_at_call 15; refine C1.out.mono ?_; rintro e w' ⟨rfl, hw⟩; have hq := hw.symm; subst hq; clear hw)
        go_ret
        exact ⟨by rw [HG.out]; rfl, rfl⟩

/-- the reference's kind: -1 outside -/
def rk (l : List UInt8) (i : Int) (big : Bool) : Int := if 0 ≤ i ∧ i < l.length then kd ((at8 l i.toNat).toNat : Int) big else -1
theorem rk_run (l : List UInt8) (i : Int) (big : Bool) : rn (rk l i big) = rn (ka l i big) := by
  unfold rk ka
  split <;> rfl
theorem rk_ne (l : List UInt8) (i j : Int) (big : Bool) (h : rn (ka l i big) = true) : (rk l j big != rk l i big) = decide (ka l j big ≠ ka l i big) := by
  unfold ka at h
  unfold rk ka
  split at h
  · rename_i hi
    rw [if_pos hi, if_pos hi]
    split
    · simp only [bne, ne_eq, decide_not]; rfl
    · generalize kd ((at8 l i.toNat).toNat : Int) big = x at *
      unfold rn at h
      simp at h
      rw [Bool.eq_iff_iff]
      simp
      omega
  · simp [rn] at h
set_option maxHeartbeats 1000000 in
theorem rkind_any (ao : Option Addr) (n c : Nat) (i : Int) (big : Bool) (l : List UInt8) (w : World) (HT : Hid (Tx w ao n c l)) :
    Calls Try.prog 33 #[.slice ao n c, .int .i64 i, .bool big] w fun e w' => e = .returned (.int .i64 (rk l i big)) ∧ w' = w := by
  have hlen := HT.out.len
  by_cases hi : 0 ≤ i ∧ i < (n : Int)
  · obtain ⟨k, rfl⟩ := Int.eq_ofNat_of_zero_le hi.1
    have hk : k < n := by omega
    obtain ⟨g, o, rfl, hc⟩ := HT.out.at (by omega)
    have c1 := hc k hk
    have HA : Hid (rk l (k : Int) big = kd ((at8 l k).toNat : Int) big) := by unfold Hid rk; rw [if_pos (by rw [hlen]; exact hi)]; simp
    have h0 : (0 : Int) ≤ (k : Int) := hi.1
    have h1 : (k : Int) < (n : Int) := hi.2
    have C1 := Hid.mk' (rof_any ((at8 l k).toNat : Int) big w)
    clear hi hc hlen
    go_enter Try.func33, Try.ntmps33
    go_wp2_with (go_at_call 37; refine C1.out.mono ?_; rintro e w' ⟨rfl, hw⟩; have hq := hw.symm; subst hq; clear hw)
    go_ret
    exact ⟨by rw [HA.out]; rfl, rfl⟩
  · have HA : Hid (rk l i big = -1) := by unfold Hid rk; rw [if_neg (by rw [hlen]; exact hi)]
    by_cases h0 : i < 0
    · clear hi hlen
      go_enter Try.func33, Try.ntmps33
      go_wp2
      all_goals go_ret
      all_goals exact ⟨by rw [HA.out]; rfl, rfl⟩
    · have h1 : (n : Int) ≤ i := by omega
      clear hi hlen
      go_enter Try.func33, Try.ntmps33
      go_wp2
      all_goals go_ret
      all_goals exact ⟨by rw [HA.out]; rfl, rfl⟩
set_option maxHeartbeats 1000000 in
theorem rruns_any (ao : Option Addr) (n c : Nat) (i : Int) (big : Bool) (l : List UInt8) (w : World) (HT : Hid (Tx w ao n c l)) :
    Calls Try.prog 32 #[.slice ao n c, .int .i64 i, .bool big] w fun e w' => e = .returned (.bool (rn (ka l i big))) ∧ w' = w := by
  have C1 := Hid.mk' (rkind_any ao n c i big l w HT)
  have HE : Hid (rn (ka l i big) = ((rk l i big == 1) || (rk l i big == 2))) := by unfold Hid; rw [← rk_run]; unfold rn; rw [Bool.or_comm]; rfl
  generalize rn (ka l i big) = r at *
  generalize rk l i big = x at *
  cases hx : (x == 1)
  all_goals
    rw [hx] at HE
    go_enter Try.func32, Try.ntmps32
    go_wp2_with (go_at_call 33; refine C1.out.mono ?_; rintro e w' ⟨rfl, hw⟩; have hq := hw.symm; subst hq; clear hw)
    all_goals go_ret
    all_goals exact ⟨by rw [HE.out]; first | rfl | simp, rfl⟩
set_option maxHeartbeats 1000000 in
theorem rbegin_any {ao : Option Addr} {n c k : Nat} {l : List UInt8} {w : World} (big : Bool) (hk : k ≤ n) (HT : Hid (Tx w ao n c l)) :
    Calls Try.prog 22 #[.slice ao n c, .int .i64 k, .bool big] w fun e w' => e = .returned (.bool (bgn l big k)) ∧ w' = w := by
  have C1 := Hid.mk' (rruns_any ao n c (k : Int) big l w HT)
  have C2 := Hid.mk' (rkind_any ao n c ((k : Int) - 1) big l w HT)
  have C3 := Hid.mk' (rkind_any ao n c (k : Int) big l w HT)
  have C4 := Hid.mk' (rbare_any hk HT)
  have hkb : (k : Int) ≤ 140737488355328 := by have := HT.out.big; omega
  have hk0 : (0 : Int) ≤ (k : Int) := by omega
  have HE : Hid (bgn l big k = ((rn (ka l k big) && (rk l ((k : Int) - 1) big != rk l k big)) || el l k)) := by
    unfold Hid bgn
    cases h : rn (ka l k big) with
    | false => rfl
    | true => rw [rk_ne l _ _ big h]
  generalize rn (ka l (k : Int) big) = z at *
  generalize rk l (k : Int) big = x at *
  generalize rk l ((k : Int) - 1) big = y at *
  generalize bgn l big k = r at *
  generalize el l k = b at *
  cases b with
  | true =>
    have HF : Hid (r = true) := by unfold Hid; rw [HE.out]; simp
    clear HE
    go_enter Try.func22, Try.ntmps22
    go_wp2_with (go_at_call 24; refine C4.out.mono ?_; rintro e w' ⟨rfl, hw⟩; have hq := hw.symm; subst hq; clear hw)
    go_ret
    exact ⟨by rw [HF.out]; rfl, rfl⟩
  | false =>
    cases z with
    | false =>
      have HF : Hid (r = false) := by unfold Hid; rw [HE.out]; simp
      clear HE
      go_enter Try.func22, Try.ntmps22
      go_wp2_with (first | (go_at_call 24; refine C4.out.mono ?_; rintro e w' ⟨rfl, hw⟩; have hq := hw.symm; subst hq; clear hw) | (go_at_call 32; refine C1.out.mono ?_; rintro e w' ⟨rfl, hw⟩; have hq := hw.symm; subst hq; clear hw))
      go_ret
      exact ⟨by rw [HF.out]; rfl, rfl⟩
    | true =>
      have HF : Hid (r = (y != x)) := by unfold Hid; rw [HE.out]; simp
      clear HE
      cases hy : (y != x)
      all_goals
        rw [hy] at HF
        go_enter Try.func22, Try.ntmps22
        go_wp2_with (first | (go_at_call 24; refine C4.out.mono ?_; rintro e w' ⟨rfl, hw⟩; have hq := hw.symm; subst hq; clear hw) | (go_at_call 32; refine C1.out.mono ?_; rintro e w' ⟨rfl, hw⟩; have hq := hw.symm; subst hq; clear hw))
        refine C2.out.mono ?_
        rintro e w' ⟨rfl, hw⟩
        have hq := hw.symm
        subst hq
        clear hw
        go_wp2_with (go_at_call 33; refine C3.out.mono ?_; rintro e w' ⟨rfl, hw⟩; have hq := hw.symm; subst hq; clear hw)
        go_ret
        exact ⟨by rw [HF.out]; rfl, rfl⟩
set_option maxHeartbeats 1000000 in
theorem rend_any {ao : Option Addr} {n c k : Nat} {l : List UInt8} {w : World} (big : Bool) (hk : k ≤ n) (HT : Hid (Tx w ao n c l)) :
    Calls Try.prog 23 #[.slice ao n c, .int .i64 k, .bool big] w fun e w' => e = .returned (.bool (ndg l big k)) ∧ w' = w := by
  have C1 := Hid.mk' (rruns_any ao n c (k : Int) big l w HT)
  have C2 := Hid.mk' (rkind_any ao n c ((k : Int) + 1) big l w HT)
  have C3 := Hid.mk' (rkind_any ao n c (k : Int) big l w HT)
  have hkb : (k : Int) ≤ 140737488355328 := by have := HT.out.big; omega
  have hk0 : (0 : Int) ≤ (k : Int) := by omega
  have HE : Hid (ndg l big k = ((rn (ka l k big) && (rk l ((k : Int) + 1) big != rk l k big)))) := by
    unfold Hid ndg
    cases h : rn (ka l k big) with
    | false => rfl
    | true => rw [rk_ne l _ _ big h]
  generalize rn (ka l (k : Int) big) = z at *
  generalize rk l (k : Int) big = x at *
  generalize rk l ((k : Int) + 1) big = y at *
  generalize ndg l big k = r at *
  cases z with
  | false =>
    have HF : Hid (r = false) := by unfold Hid; rw [HE.out]; simp
    clear HE
    go_enter Try.func23, Try.ntmps23
    go_wp2_with (go_at_call 32; refine C1.out.mono ?_; rintro e w' ⟨rfl, hw⟩; have hq := hw.symm; subst hq; clear hw)
    go_ret
    exact ⟨by rw [HF.out]; rfl, rfl⟩
  | true =>
    have HF : Hid (r = (y != x)) := by unfold Hid; rw [HE.out]; simp
    clear HE
    cases hy : (y != x)
    all_goals
      rw [hy] at HF
      go_enter Try.func23, Try.ntmps23
      go_wp2_with (first | (go_at_call 32; refine C1.out.mono ?_; rintro e w' ⟨rfl, hw⟩; have hq := hw.symm; subst hq; clear hw))
      refine C2.out.mono ?_
      rintro e w' ⟨rfl, hw⟩
      have hq := hw.symm
      subst hq
      clear hw
      go_wp2_with (go_at_call 33; refine C3.out.mono ?_; rintro e w' ⟨rfl, hw⟩; have hq := hw.symm; subst hq; clear hw)
      go_ret
      exact ⟨by rw [HF.out]; rfl, rfl⟩
end Go.Proofs.Ytomekjakjgfjdaa
