/- The contracts of word's kindAt, isRun, isEmptyLine, isBeginning, isEnding and isHalt. -/
import Derived.Test.YtomekjakjgfjdaaKnd
import Derived.Test.YtomekjakjgfjdaaRst
import Derived.Deep.QuietTactic
import Derived.BigQuiet
namespace Go.Proofs.Ytomekjakjgfjdaa
open Go.RowKit

/-- the kind of the byte at a place; that of a line end outside of the text -/
def ka (l : List UInt8) (i : Int) (big : Bool) : Int := if 0 ≤ i ∧ i < l.length then kd ((at8 l i.toNat).toNat : Int) big else 3
/-- is it a run's kind -/
def rn (k : Int) : Bool := decide (k = 2) || decide (k = 1)
/-- is the place the start of a line without bytes -/
def el (l : List UInt8) (p : Nat) : Bool := decide (ka l p false = 3) && decide (rs l p = p)
/-- beginnings, endings, halts -/
def bgn (l : List UInt8) (big : Bool) (p : Nat) : Bool := (rn (ka l p big) && decide (ka l ((p : Int) - 1) big ≠ ka l p big)) || el l p
def ndg (l : List UInt8) (big : Bool) (p : Nat) : Bool := rn (ka l p big) && decide (ka l ((p : Int) + 1) big ≠ ka l p big)
def hlt (l : List UInt8) (big : Bool) (p : Nat) : Bool := ndg l big p || el l p

set_option maxHeartbeats 1000000 in
theorem kindAt_any (ao : Option Addr) (n c : Nat) (i : Int) (big : Bool) (l : List UInt8) (w : World) (HT : Hid (Tx w ao n c l)) :
    Calls Try.prog 34 #[.slice ao n c, .int .i64 i, .bool big] w fun e w' => e = .returned (.int .i64 (ka l i big)) ∧ w' = w := by
  have hlen := HT.out.len
  by_cases hi : 0 ≤ i ∧ i < (n : Int)
  · obtain ⟨k, rfl⟩ := Int.eq_ofNat_of_zero_le hi.1
    have hk : k < n := by omega
    obtain ⟨g, o, rfl, hc⟩ := HT.out.at (by omega)
    have c1 := hc k hk
    have HA : Hid (ka l (k : Int) big = kd ((at8 l k).toNat : Int) big) := by unfold Hid ka; rw [if_pos (by rw [hlen]; exact hi)]; simp
    have h0 : (0 : Int) ≤ (k : Int) := hi.1
    have h1 : (k : Int) < (n : Int) := hi.2
    have C1 := Hid.mk' (of_any ((at8 l k).toNat : Int) big w)
    clear hi hc hlen
    go_enter Try.func34, Try.ntmps34
    go_wp2_with (go_at_call 15; refine C1.out.mono ?_; rintro e w' ⟨rfl, hw⟩; have hq := hw.symm; subst hq; clear hw)
    go_ret
    exact ⟨by rw [HA.out]; rfl, rfl⟩
  · have HA : Hid (ka l i big = 3) := by unfold Hid ka; rw [if_neg (by rw [hlen]; exact hi)]
    by_cases h0 : i < 0
    · clear hi hlen
      go_enter Try.func34, Try.ntmps34
      go_wp2
      all_goals go_ret
      all_goals exact ⟨by rw [HA.out]; rfl, rfl⟩
    · have h1 : (n : Int) ≤ i := by omega
      clear hi hlen
      go_enter Try.func34, Try.ntmps34
      go_wp2
      all_goals go_ret
      all_goals exact ⟨by rw [HA.out]; rfl, rfl⟩

set_option maxHeartbeats 1000000 in
theorem isRun_any (k : Int) (w : World) : Calls Try.prog 35 #[.int .i64 k] w fun e w' => e = .returned (.bool (rn k)) ∧ w' = w := by
  go_enter Try.func35, Try.ntmps35
  go_wp2
  all_goals go_ret
  all_goals (refine ⟨?_, rfl⟩; first | rfl | (simp [rn]; done) | (simp [rn]; omega) | (simp [rn]; rfl))

theorem rest_at8 {ao : Option Addr} {n c k : Nat} {l : List UInt8} {w : World} (hk : k ≤ n) (HT : Hid (Tx w ao n c l)) :
    Calls Try.prog 38 #[.slice ao n c, .int .i64 k] w fun e w' => e = .returned (.int .i64 (rs l k)) ∧ w' = w := by
  have hb := HT.out.big
  have := rest_any ao n c (k : Int) l w (by omega) (by omega) HT
  rwa [cl_nat (by rw [HT.out.len]; exact hk)] at this

set_option maxHeartbeats 1000000 in
theorem isEmptyLine_any {ao : Option Addr} {n c k : Nat} {l : List UInt8} {w : World} (hk : k ≤ n) (HT : Hid (Tx w ao n c l)) :
    Calls Try.prog 36 #[.slice ao n c, .int .i64 k] w fun e w' => e = .returned (.bool (el l k)) ∧ w' = w := by
  have C1 := Hid.mk' (kindAt_any ao n c (k : Int) false l w HT)
  have C2 := Hid.mk' (rest_at8 hk HT)
  have HE : Hid (el l k = (decide (ka l k false = 3) && decide ((rs l k : Int) = (k : Int)))) := by unfold Hid el; congr 2; apply propext; omega
  generalize ka l (k : Int) false = x at *
  generalize (rs l k : Int) = y at *
  generalize el l k = r at *
  by_cases hx : x = 3
  · subst hx
    go_enter Try.func36, Try.ntmps36
    go_wp2_with (first | (go_at_call 34; refine C1.out.mono ?_; rintro e w' ⟨rfl, hw⟩; have hq := hw.symm; subst hq; clear hw) | (go_at_call 38; refine C2.out.mono ?_; rintro e w' ⟨rfl, hw⟩; have hq := hw.symm; subst hq; clear hw))
    all_goals go_ret
    all_goals (refine ⟨?_, rfl⟩; rw [HE.out]; simp; rfl)
  · have hx' : (x == 3) = false := by simp [hx]
    go_enter Try.func36, Try.ntmps36
    go_wp2_with (first | (go_at_call 34; refine C1.out.mono ?_; rintro e w' ⟨rfl, hw⟩; have hq := hw.symm; subst hq; clear hw) | (go_at_call 38; refine C2.out.mono ?_; rintro e w' ⟨rfl, hw⟩; have hq := hw.symm; subst hq; clear hw))
    all_goals go_ret
    all_goals (refine ⟨?_, rfl⟩; rw [HE.out]; simp [hx])

theorem below_drewN (w : World) (n : Nat) : Below w.heap.size w (w.drewN n) := ⟨rfl, rfl, rfl, Nat.le_refl _, fun _ _ => rfl⟩

set_option maxHeartbeats 1000000 in
theorem isEnding_any {ao : Option Addr} {n c k : Nat} {l : List UInt8} {w : World} (big : Bool) (hk : k ≤ n) (HT : Hid (Tx w ao n c l)) :
    Calls Try.prog 26 #[.slice ao n c, .int .i64 k, .bool big] w fun e w' => e = .returned (.bool (ndg l big k)) ∧ w' = w := by
  have C1 := Hid.mk' (kindAt_any ao n c (k : Int) big l w HT)
  have C2 := Hid.mk' (kindAt_any ao n c ((k : Int) + 1) big l w HT)
  have hkb : (k : Int) ≤ 140737488355328 := by have := HT.out.big; omega
  have hk0 : (0 : Int) ≤ (k : Int) := by omega
  have HE : Hid (ndg l big k = ((rn (ka l k big) && (ka l ((k : Int) + 1) big != ka l k big)))) := by unfold Hid ndg; simp only [bne, ne_eq, decide_not]; rfl
  generalize ka l (k : Int) big = x at *
  generalize ka l ((k : Int) + 1) big = y at *
  generalize ndg l big k = r at *
  have C3 := Hid.mk' (isRun_any x w)
  cases hr : rn x with
  | false =>
    rw [hr] at C3 HE
    clear hr
    go_enter Try.func26, Try.ntmps26
    go_wp2_with fail
    refine C1.out.mono ?_
    rintro e w' ⟨rfl, hw⟩
    have hq := hw.symm
    subst hq
    clear hw
    go_wp2_with (first | (go_at_call 35; refine C3.out.mono ?_; rintro e w' ⟨rfl, hw⟩; have hq := hw.symm; subst hq; clear hw))
    all_goals go_ret
    all_goals exact ⟨by rw [HE.out]; simp, rfl⟩
  | true =>
    rw [hr] at C3 HE
    clear hr
    cases hy : (y != x)
    all_goals
      rw [hy] at HE
      go_enter Try.func26, Try.ntmps26
      go_wp2_with fail
      refine C1.out.mono ?_
      rintro e w' ⟨rfl, hw⟩
      have hq := hw.symm
      subst hq
      clear hw
      go_wp2_with (first | (go_at_call 35; refine C3.out.mono ?_; rintro e w' ⟨rfl, hw⟩; have hq := hw.symm; subst hq; clear hw) | (go_at_call 34; refine C2.out.mono ?_; rintro e w' ⟨rfl, hw⟩; have hq := hw.symm; subst hq; clear hw))
      all_goals go_ret
      all_goals exact ⟨by rw [HE.out]; simp, rfl⟩

set_option maxHeartbeats 1000000 in
theorem isBeginning_any {ao : Option Addr} {n c k : Nat} {l : List UInt8} {w : World} (big : Bool) (hk : k ≤ n) (HT : Hid (Tx w ao n c l)) :
    Calls Try.prog 25 #[.slice ao n c, .int .i64 k, .bool big] w fun e w' => e = .returned (.bool (bgn l big k)) ∧ w' = w := by
  have C1 := Hid.mk' (kindAt_any ao n c (k : Int) big l w HT)
  have C2 := Hid.mk' (kindAt_any ao n c ((k : Int) - 1) big l w HT)
  have C4 := Hid.mk' (isEmptyLine_any hk HT)
  have hkb : (k : Int) ≤ 140737488355328 := by have := HT.out.big; omega
  have hk0 : (0 : Int) ≤ (k : Int) := by omega
  have HE : Hid (bgn l big k = ((rn (ka l k big) && (ka l ((k : Int) - 1) big != ka l k big)) || el l k)) := by unfold Hid bgn; simp only [bne, ne_eq, decide_not]; rfl
  generalize ka l (k : Int) big = x at *
  generalize ka l ((k : Int) - 1) big = y at *
  generalize bgn l big k = r at *
  generalize el l k = z at *
  have C3 := Hid.mk' (isRun_any x w)
  cases hr : rn x with
  | false =>
    rw [hr] at C3 HE
    clear hr
    go_enter Try.func25, Try.ntmps25
    go_wp2_with fail
    refine C1.out.mono ?_
    rintro e w' ⟨rfl, hw⟩
    have hq := hw.symm
    subst hq
    clear hw
    go_wp2_with (first | (go_at_call 35; refine C3.out.mono ?_; rintro e w' ⟨rfl, hw⟩; have hq := hw.symm; subst hq; clear hw) | (go_at_call 36; refine C4.out.mono ?_; rintro e w' ⟨rfl, hw⟩; have hq := hw.symm; subst hq; clear hw))
    all_goals go_ret
    all_goals exact ⟨by rw [HE.out]; simp, rfl⟩
  | true =>
    rw [hr] at C3 HE
    clear hr
    cases hy : (y != x)
    all_goals
      rw [hy] at HE
      go_enter Try.func25, Try.ntmps25
      go_wp2_with fail
      refine C1.out.mono ?_
      rintro e w' ⟨rfl, hw⟩
      have hq := hw.symm
      subst hq
      clear hw
      go_wp2_with (first | (go_at_call 35; refine C3.out.mono ?_; rintro e w' ⟨rfl, hw⟩; have hq := hw.symm; subst hq; clear hw) | (go_at_call 34; refine C2.out.mono ?_; rintro e w' ⟨rfl, hw⟩; have hq := hw.symm; subst hq; clear hw) | (go_at_call 36; refine C4.out.mono ?_; rintro e w' ⟨rfl, hw⟩; have hq := hw.symm; subst hq; clear hw))
      all_goals go_ret
      all_goals exact ⟨by rw [HE.out]; simp, rfl⟩

set_option maxHeartbeats 1000000 in
theorem isHalt_any {ao : Option Addr} {n c k : Nat} {l : List UInt8} {w : World} (big : Bool) (hk : k ≤ n) (HT : Hid (Tx w ao n c l)) :
    Calls Try.prog 27 #[.slice ao n c, .int .i64 k, .bool big] w fun e w' => e = .returned (.bool (hlt l big k)) ∧ w' = w := by
  have C1 := Hid.mk' (isEnding_any big hk HT)
  have C2 := Hid.mk' (isEmptyLine_any hk HT)
  have HE : Hid (hlt l big k = (ndg l big k || el l k)) := rfl
  generalize ndg l big k = x at *
  generalize el l k = y at *
  generalize hlt l big k = r at *
  cases x
  all_goals
    go_enter Try.func27, Try.ntmps27
    go_wp2_with (first | (go_at_call 26; refine C1.out.mono ?_; rintro e w' ⟨rfl, hw⟩; have hq := hw.symm; subst hq; clear hw) | (go_at_call 36; refine C2.out.mono ?_; rintro e w' ⟨rfl, hw⟩; have hq := hw.symm; subst hq; clear hw))
    all_goals go_ret
    all_goals exact ⟨by rw [HE.out]; simp, rfl⟩
end Go.Proofs.Ytomekjakjgfjdaa
