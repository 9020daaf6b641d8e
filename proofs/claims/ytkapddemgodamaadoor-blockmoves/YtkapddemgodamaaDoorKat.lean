/- The kind of the byte at a place, the empty line, a bracket's partner: the program's small questions. -/
import Derived.Test.YtkapddemgodamaaDoorRst
import Derived.Test.YtkapddemgodamaaDoorKnd
import Derived.Test.YtkapddemgodamaaDoorBrk
import Derived.BigQuiet
import Derived.Deep.QuietTactic
namespace Go.Proofs.YtkapddemgodamaaDoor

/-- the kind at a place: behind the text a line ends -/
def ka (l : List UInt8) (k : Nat) : Int := if k < l.length then kd (bi l k) false else 3
/-- an empty line begins here -/
def el (l : List UInt8) (p : Nat) : Bool := decide (ka l p = 3) && decide (rs l p = p)
theorem kd_three (b : Int) : kd b false = 3 ↔ b = 10 := by unfold kd; split; omega; split; omega; split <;> omega
theorem kd_gap (b : Int) : (kd b false = 0 ∨ kd b false = 3) ↔ (b = 32 ∨ b = 9 ∨ b = 10) := by unfold kd; split; omega; split; omega; split <;> omega

theorem Tx.lt {w : World} {ao : Option Addr} {n c : Nat} {l : List UInt8} (h : Tx w ao n c l) : l.length = n := h.len

set_option maxHeartbeats 1000000 in
theorem kindAt_any {ao : Option Addr} {n c k : Nat} {l : List UInt8} {w : World} (hk : k ≤ n) (HT : Hid (Tx w ao n c l)) :
    Calls Tryd.prog 37 #[.slice ao n c, .int .i64 k] w fun e w' => e = .returned (.int .i64 (ka l k)) ∧ w' = w := by
  have hlen := HT.out.len
  by_cases hi : k < n
  · obtain ⟨g, o, rfl, hc⟩ := HT.out.at (by omega)
    have c1 := hc k hi
    have HA : Hid (ka l k = kd ((at8 l k).toNat : Int) false) := by unfold Hid ka; rw [if_pos (by rw [hlen]; exact hi)]; rfl
    have h0 : (0 : Int) ≤ (k : Int) := by omega
    have h1 : (k : Int) < (n : Int) := by omega
    have h2 : ((k : Int) == (n : Int)) = false := by simp; omega
    have C1 := Hid.mk' (of_any ((at8 l k).toNat : Int) false w)
    clear hi hc hlen
    go_enter Tryd.func37, Tryd.ntmps37
    go_wp2_with (go_at_call 41; refine C1.out.mono ?_; rintro e w' ⟨rfl, hw⟩; have hq := hw.symm; subst hq; clear hw)
    go_ret
    exact ⟨by rw [HA.out]; rfl, rfl⟩
  · have HA : Hid (ka l k = 3) := by unfold Hid ka; rw [if_neg (by rw [hlen]; exact hi)]
    obtain rfl : k = n := by omega
    clear hi hlen
    go_enter Tryd.func37, Tryd.ntmps37
    go_wp2
    all_goals go_ret
    all_goals exact ⟨by rw [HA.out]; rfl, rfl⟩

theorem rest_at8 {ao : Option Addr} {n c k : Nat} {l : List UInt8} {w : World} (hk : k ≤ n) (HT : Hid (Tx w ao n c l)) :
    Calls Tryd.prog 42 #[.slice ao n c, .int .i64 k] w fun e w' => e = .returned (.int .i64 (rs l k)) ∧ w' = w := by
  have hb := HT.out.big
  have := rest_any ao n c (k : Int) l w (by omega) (by omega) HT
  rwa [cl_nat (by rw [HT.out.len]; exact hk)] at this

set_option maxHeartbeats 1000000 in
theorem isEmptyLine_any {ao : Option Addr} {n c k : Nat} {l : List UInt8} {w : World} (hk : k ≤ n) (HT : Hid (Tx w ao n c l)) :
    Calls Tryd.prog 38 #[.slice ao n c, .int .i64 k] w fun e w' => e = .returned (.bool (el l k)) ∧ w' = w := by
  have C1 := Hid.mk' (kindAt_any hk HT)
  have C2 := Hid.mk' (rest_at8 hk HT)
  have HE : Hid (el l k = (decide (ka l k = 3) && decide ((rs l k : Int) = (k : Int)))) := by unfold Hid el; congr 2; apply propext; omega
  generalize ka l k = x at *
  generalize (rs l k : Int) = y at *
  generalize el l k = r at *
  by_cases hx : x = 3
  · subst hx
    go_enter Tryd.func38, Tryd.ntmps38
    go_wp2_with (first | (go_at_call 37; refine C1.out.mono ?_; rintro e w' ⟨rfl, hw⟩; have hq := hw.symm; subst hq; clear hw) | (go_at_call 42; refine C2.out.mono ?_; rintro e w' ⟨rfl, hw⟩; have hq := hw.symm; subst hq; clear hw))
    all_goals go_ret
    all_goals (refine ⟨?_, rfl⟩; rw [HE.out]; simp; rfl)
  · have hx' : (x == 3) = false := by simp [hx]
    go_enter Tryd.func38, Tryd.ntmps38
    go_wp2_with (first | (go_at_call 37; refine C1.out.mono ?_; rintro e w' ⟨rfl, hw⟩; have hq := hw.symm; subst hq; clear hw) | (go_at_call 42; refine C2.out.mono ?_; rintro e w' ⟨rfl, hw⟩; have hq := hw.symm; subst hq; clear hw))
    all_goals go_ret
    all_goals (refine ⟨?_, rfl⟩; rw [HE.out]; simp [hx])

/-- what Partner answers -/
def ptr (b : Int) : Ending := .returned (.tuple #[.int .u8 (po b), .bool (pn b), .bool (pk b)])
set_option maxHeartbeats 2000000 in
theorem partner_any (b : Int) (w : World) : Calls Tryd.prog 14 #[.int .u8 b] w fun e w' => e = ptr b ∧ w' = w := by
  have HW : Hid (ptr b = .returned (.tuple #[.int .u8 (po b), .bool (pn b), .bool (pk b)])) := rfl
  generalize ptr b = r at *
  go_enter Tryd.func14, Tryd.ntmps14
  go_wp2
  all_goals go_ret3
  all_goals (refine ⟨?_, rfl⟩; rw [HW.out]; simp_all [po, pn, pk])
/-- the number that a value holds -/
def intOf : Value → Int
  | .int _ x => x
  | _ => 0
/-- the same as a triple -/
def ptc (b : Int) : Int × Bool × Bool := if b = 40 then (41, true, true) else if b = 41 then (40, false, true) else if b = 91 then (93, true, true) else if b = 93 then (91, false, true) else if b = 123 then (125, true, true) else if b = 125 then (123, false, true) else (0, false, false)
def tp (x : Int × Bool × Bool) : Ending := .returned (.tuple #[.int .u8 x.1, .bool x.2.1, .bool x.2.2])
theorem tp_ptc (b : Int) : tp (ptc b) = ptr b := by
  unfold ptr tp ptc po pn pk
  by_cases h1 : b = 40; subst h1; rfl
  by_cases h2 : b = 41; subst h2; rfl
  by_cases h3 : b = 91; subst h3; rfl
  by_cases h4 : b = 93; subst h4; rfl
  by_cases h5 : b = 123; subst h5; rfl
  by_cases h6 : b = 125; subst h6; rfl
  simp [h1, h2, h3, h4, h5, h6]
set_option maxHeartbeats 4000000 in
theorem rpartner_tp (b : Int) (w : World) : Calls Tryd.prog 30 #[.int .u8 b] w fun e w' => e = tp (ptc b) ∧ w' = w := by
  have HW : Hid (ptc b = if b = 40 then (41, true, true) else if b = 41 then (40, false, true) else if b = 91 then (93, true, true) else if b = 93 then (91, false, true) else if b = 123 then (125, true, true) else if b = 125 then (123, false, true) else (0, false, false)) := rfl
  generalize ptc b = r at *
  go_enter Tryd.func30, Tryd.ntmps30
  go_wp2_with fail
  go_loopw [5] (fun x wr => wr = w ∧ (x = .int .i64 0 ∨ (x = .int .i64 1 ∧ ¬ b = 40 ∧ ¬ b = 41) ∨ (x = .int .i64 2 ∧ ¬ b = 40 ∧ ¬ b = 41 ∧ ¬ b = 91 ∧ ¬ b = 93) ∨ (x = .int .i64 3 ∧ ¬ b = 40 ∧ ¬ b = 41 ∧ ¬ b = 91 ∧ ¬ b = 93 ∧ ¬ b = 123 ∧ ¬ b = 125))) (fun x _ => 3 - (intOf x).toNat)
  case atStart => exact ⟨rfl, .inl rfl⟩
  case round =>
    obtain ⟨rfl, h⟩ := hrel
    rcases h with rfl | ⟨rfl, h1, h2⟩ | ⟨rfl, h1, h2, h3, h4⟩ | ⟨rfl, h1, h2, h3, h4, h5, h6⟩
    · have k1 : (((⟨#[40, 91, 123]⟩ : ByteArray)[0]'(by decide)).toNat : Int) = 40 := rfl
      have k2 : (((⟨#[41, 93, 125]⟩ : ByteArray)[0]'(by decide)).toNat : Int) = 41 := rfl
      go_wp2
      · go_ret3
        refine ⟨?_, rfl⟩; rw [HW.out]; simp_all [tp]
      · rename_i g1 g2
        obtain rfl : b = 41 := by simp at g2; exact g2.symm
        go_ret3
        refine ⟨?_, rfl⟩; rw [HW.out]; simp [tp]
      · rename_i g1 g2
        have g3 : ¬ b = 40 := fun h => by subst h; simp at g1
        have g4 : ¬ b = 41 := fun h => by subst h; simp at g2
        go_roundw
        case rel => exact ⟨(by first | trivial | rfl), .inr (.inl ⟨rfl, g3, g4⟩)⟩
        case measure => simp [intOf]
    · have k1 : (((⟨#[40, 91, 123]⟩ : ByteArray)[1]'(by decide)).toNat : Int) = 91 := rfl
      have k2 : (((⟨#[41, 93, 125]⟩ : ByteArray)[1]'(by decide)).toNat : Int) = 93 := rfl
      go_wp2
      · go_ret3
        refine ⟨?_, rfl⟩; rw [HW.out]; simp_all [tp]
      · rename_i g1 g2
        obtain rfl : b = 93 := by simp at g2; exact g2.symm
        go_ret3
        refine ⟨?_, rfl⟩; rw [HW.out]; simp [tp]
      · rename_i g1 g2
        have g3 : ¬ b = 91 := fun h => by subst h; simp at g1
        have g4 : ¬ b = 93 := fun h => by subst h; simp at g2
        go_roundw
        case rel => exact ⟨(by first | trivial | rfl), .inr (.inr (.inl ⟨rfl, h1, h2, g3, g4⟩))⟩
        case measure => simp [intOf]
    · have k1 : (((⟨#[40, 91, 123]⟩ : ByteArray)[2]'(by decide)).toNat : Int) = 123 := rfl
      have k2 : (((⟨#[41, 93, 125]⟩ : ByteArray)[2]'(by decide)).toNat : Int) = 125 := rfl
      go_wp2
      · go_ret3
        refine ⟨?_, rfl⟩; rw [HW.out]; simp_all [tp]
      · rename_i g1 g2
        obtain rfl : b = 125 := by simp at g2; exact g2.symm
        go_ret3
        refine ⟨?_, rfl⟩; rw [HW.out]; simp [tp]
      · rename_i g1 g2
        have g3 : ¬ b = 123 := fun h => by subst h; simp at g1
        have g4 : ¬ b = 125 := fun h => by subst h; simp at g2
        go_roundw
        case rel => exact ⟨(by first | trivial | rfl), .inr (.inr (.inr ⟨rfl, h1, h2, h3, h4, g3, g4⟩))⟩
        case measure => simp [intOf]
    · go_wp2
      go_ret3
      refine ⟨?_, rfl⟩; rw [HW.out]; simp_all [tp]

theorem rpartner_any (b : Int) (w : World) : Calls Tryd.prog 30 #[.int .u8 b] w fun e w' => e = ptr b ∧ w' = w := by
  rw [← tp_ptc]; exact rpartner_tp b w
end Go.Proofs.YtkapddemgodamaaDoor
