/- The stops of the motions, as plain lists, and the program's questions: the gap, the sentence's end, the sentence's beginning. -/
import Derived.Test.YtkapddemgodamaaDoorAcr
import Derived.Test.YtkapddemgodamaaDoorShelf
namespace Go.Proofs.YtkapddemgodamaaDoor
open Go.RowKit

/-- a blank or a line end, or the text's end -/
def gp (l : List UInt8) (k : Nat) : Bool := decide (ka l k = 0) || decide (ka l k = 3)
/-- where the gap ahead of a place begins -/
def gs (l : List UInt8) : Nat → Nat
  | 0 => 0
  | k + 1 => if gp l k = true then gs l k else k + 1
theorem gs_le (l : List UInt8) : ∀ k, gs l k ≤ k
  | 0 => Nat.le_refl _
  | k + 1 => by unfold gs; split; have := gs_le l k; omega; omega
/-- what is left of a list without its last brackets and quotes; what ends a sentence -/
def trm (l : List UInt8) : Nat := (Lib.trimRightS l [41, 93, 34, 39]).length
def em (b : UInt8) : Bool := [46, 33, 63].contains b
def es (l : List UInt8) : Bool := decide (0 < trm l) && em (at8 l (trm l - 1))
/-- the bytes from a to b -/
def mid (l : List UInt8) (a b : Nat) : List UInt8 := (l.drop a).take (b - a)
/-- does a sentence begin -/
def bs (l : List UInt8) (k : Nat) : Bool := !gp l k && (decide (gs l k = 0) || (decide (gs l k < k) && es (l.take (gs l k))) || Lib.contains (mid l (gs l k) k) [10, 10])
/-- the stops -/
def be (l : List UInt8) (k : Nat) : Bool := el l k && !el l (k - 1)
def ee (l : List UInt8) (k : Nat) : Bool := el l k && !el l (k + 1)
def st (l : List UInt8) (k : Nat) : Bool := be l k || bs l k

set_option maxHeartbeats 1000000 in
theorem isGap_any {ao : Option Addr} {n c k : Nat} {l : List UInt8} {w : World} (hk : k ≤ n) (HT : Hid (Tx w ao n c l)) :
    Calls Tryd.prog 43 #[.slice ao n c, .int .i64 k] w fun e w' => e = .returned (.bool (gp l k)) ∧ w' = w := by
  have C1 := Hid.mk' (kindAt_any hk HT)
  have HE : Hid (gp l k = (decide (ka l k = 0) || decide (ka l k = 3))) := rfl
  generalize ka l k = x at *
  generalize gp l k = r at *
  have HQ : Hid (((x == 0) || (x == 3)) = r) := by unfold Hid; rw [HE.out]; by_cases h0 : x = 0 <;> by_cases h3 : x = 3 <;> simp [h0, h3]
  go_enter Tryd.func43, Tryd.ntmps43
  go_wp2_with (go_at_call 37; refine C1.out.mono ?_; rintro e w' ⟨rfl, hw⟩; have hq := hw.symm; subst hq; clear hw)
  all_goals go_ret
  all_goals (refine ⟨?_, rfl⟩; rw [← HQ.out]; simp_all)

set_option maxHeartbeats 1000000 in
theorem beginsEmptyLines_any {ao : Option Addr} {n c k : Nat} {l : List UInt8} {w : World} (h1 : 1 ≤ k) (hk : k ≤ n) (HT : Hid (Tx w ao n c l)) :
    Calls Tryd.prog 33 #[.slice ao n c, .int .i64 k] w fun e w' => e = .returned (.bool (be l k)) ∧ w' = w := by
  have hbig := HT.out.big
  have C1 := Hid.mk' (isEmptyLine_any hk HT)
  have C2 := Hid.mk' (isEmptyLine_any (k := k - 1) (by omega) HT)
  rw [show ((k - 1 : Nat) : Int) = (k : Int) - 1 by omega] at C2
  have hw : IntKind.i64.wrap ((k : Int) - 1) = (k : Int) - 1 := by rw [IntKind.wrap_i64]; omega
  have HE : Hid (be l k = (el l k && !el l (k - 1))) := rfl
  generalize el l (k - 1) = y at *
  generalize el l k = x at *
  generalize be l k = r at *
  cases x
  · go_enter Tryd.func33, Tryd.ntmps33
    go_wp2_with (go_at_call 38; refine C1.out.mono ?_; rintro e w' ⟨rfl, hw⟩; have hq := hw.symm; subst hq; clear hw)
    all_goals go_ret
    all_goals (refine ⟨?_, rfl⟩; rw [HE.out]; rfl)
  · go_enter Tryd.func33, Tryd.ntmps33
    go_wp2_with fail
    refine C1.out.mono ?_
    rintro e w' ⟨rfl, hq⟩
    have hq2 := hq.symm; subst hq2; clear hq
    go_wp2_with fail
    refine C2.out.mono ?_
    rintro e w' ⟨rfl, hq⟩
    have hq2 := hq.symm; subst hq2; clear hq
    go_wp2
    all_goals go_ret
    all_goals (refine ⟨?_, rfl⟩; rw [HE.out]; cases y <;> rfl)

set_option maxHeartbeats 1000000 in
theorem endsEmptyLines_any {ao : Option Addr} {n c k : Nat} {l : List UInt8} {w : World} (hk : k + 1 ≤ n) (HT : Hid (Tx w ao n c l)) :
    Calls Tryd.prog 34 #[.slice ao n c, .int .i64 k] w fun e w' => e = .returned (.bool (ee l k)) ∧ w' = w := by
  have hbig := HT.out.big
  have C1 := Hid.mk' (isEmptyLine_any (k := k) (by omega) HT)
  have C2 := Hid.mk' (isEmptyLine_any hk HT)
  rw [show ((k + 1 : Nat) : Int) = (k : Int) + 1 by omega] at C2
  have hw : IntKind.i64.wrap ((k : Int) + 1) = (k : Int) + 1 := by rw [IntKind.wrap_i64]; omega
  have HE : Hid (ee l k = (el l k && !el l (k + 1))) := rfl
  generalize el l (k + 1) = y at *
  generalize el l k = x at *
  generalize ee l k = r at *
  cases x
  · go_enter Tryd.func34, Tryd.ntmps34
    go_wp2_with (go_at_call 38; refine C1.out.mono ?_; rintro e w' ⟨rfl, hw⟩; have hq := hw.symm; subst hq; clear hw)
    all_goals go_ret
    all_goals (refine ⟨?_, rfl⟩; rw [HE.out]; rfl)
  · go_enter Tryd.func34, Tryd.ntmps34
    go_wp2_with fail
    refine C1.out.mono ?_
    rintro e w' ⟨rfl, hq⟩
    have hq2 := hq.symm; subst hq2; clear hq
    go_wp2_with fail
    refine C2.out.mono ?_
    rintro e w' ⟨rfl, hq⟩
    have hq2 := hq.symm; subst hq2; clear hq
    go_wp2
    all_goals go_ret
    all_goals (refine ⟨?_, rfl⟩; rw [HE.out]; cases y <;> rfl)
end Go.Proofs.YtkapddemgodamaaDoor
