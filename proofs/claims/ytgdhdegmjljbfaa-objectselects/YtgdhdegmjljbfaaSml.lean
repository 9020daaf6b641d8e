/- The small questions of object: isBlank, bracketsOf, lineOf, isKey. -/
import Derived.Test.YtgdhdegmjljbfaaKnd
import Derived.Test.YtgdhdegmjljbfaaFns
import Derived.Test.YtgdhdegmjljbfaaBpr
import Derived.Test.YtgdhdegmjljbfaaShelf
namespace Go.Proofs.Ytgdhdegmjljbfaa
open Go.RowKit
set_option maxRecDepth 8000
theorem kd_bl (b : UInt8) (big : Bool) : (kd (b.toNat : Int) big == 0) = bl b := by
  unfold kd bl
  by_cases h1 : (b.toNat : Int) = 32
  · simp [h1]
  · by_cases h2 : (b.toNat : Int) = 9
    · simp [h2]
    · simp only [h1, h2, false_or, if_false]
      have e1 : ((b.toNat : Int) == 32) = false := by simp; omega
      have e2 : ((b.toNat : Int) == 9) = false := by simp; omega
      rw [e1, e2]
      split
      · rfl
      · split <;> rfl
set_option maxHeartbeats 1000000 in
theorem isBlank_any (b : UInt8) (w : World) : Calls Try.prog 55 #[.int .u8 (b.toNat : Int)] w fun e w' => e = .returned (.bool (bl b)) ∧ w' = w := by
  have C1 := Hid.mk' (of_any (b.toNat : Int) false w)
  have HB := Hid.mk' (kd_bl b false)
  generalize kd (b.toNat : Int) false = k at *
  go_enter Try.func55, Try.ntmps55
  go_wp2_with (go_at_call 15; refine C1.out.mono ?_; rintro e w' ⟨rfl, hw⟩; have hq := hw.symm; subst hq; clear hw)
  all_goals go_ret
  all_goals exact ⟨by rw [← HB.out]; rfl, rfl⟩
/-- the brackets that a key names -/
def op (k : Int) : Int := if k = 98 ∨ k = 40 ∨ k = 41 then 40 else if k = 91 ∨ k = 93 then 91 else 123
def cp (k : Int) : Int := if k = 98 ∨ k = 40 ∨ k = 41 then 41 else if k = 91 ∨ k = 93 then 93 else 125
/-- is it a bracket's key -/
def isB (k : Int) : Prop := k = 40 ∨ k = 41 ∨ k = 98 ∨ k = 91 ∨ k = 93 ∨ k = 123 ∨ k = 125 ∨ k = 66
theorem op_ne (k : Int) : ¬ op k = cp k := by unfold op cp; split; omega; split <;> omega
set_option maxHeartbeats 2000000 in
theorem partner_k (k x : Int) (b : Bool) (w : World) (h : (k = 40 ∧ x = 41 ∧ b = true) ∨ (k = 41 ∧ x = 40 ∧ b = false) ∨ (k = 91 ∧ x = 93 ∧ b = true) ∨ (k = 93 ∧ x = 91 ∧ b = false) ∨ (k = 123 ∧ x = 125 ∧ b = true) ∨ (k = 125 ∧ x = 123 ∧ b = false)) :
    Calls Try.prog 68 #[.int .u8 k] w fun e w' => e = .returned (.tuple #[.int .u8 x, .bool b, .bool true]) ∧ w' = w := by
  rcases h with ⟨rfl, rfl, rfl⟩ | ⟨rfl, rfl, rfl⟩ | ⟨rfl, rfl, rfl⟩ | ⟨rfl, rfl, rfl⟩ | ⟨rfl, rfl, rfl⟩ | ⟨rfl, rfl, rfl⟩
  all_goals go_enter Try.func68, Try.ntmps68
  all_goals go_wp2
  all_goals go_ret3
  all_goals exact ⟨rfl, rfl⟩
set_option maxHeartbeats 2000000 in
theorem bracketsOf_any (k : Int) (w : World) (h : isB k) : Calls Try.prog 59 #[.int .u8 k] w fun e w' => e = .returned (.tuple #[.int .u8 (op k), .int .u8 (cp k)]) ∧ w' = w := by
  rcases h with rfl | rfl | rfl | rfl | rfl | rfl | rfl | rfl
  all_goals go_enter Try.func59, Try.ntmps59
  · go_wp2_with (go_at_call 68; refine (partner_k 40 41 true w (by simp)).mono ?_; rintro e w' ⟨rfl, hw⟩; have hq := hw.symm; subst hq; clear hw)
    go_ret2
    exact ⟨rfl, rfl⟩
  · go_wp2_with (go_at_call 68; refine (partner_k 41 40 false w (by simp)).mono ?_; rintro e w' ⟨rfl, hw⟩; have hq := hw.symm; subst hq; clear hw)
    go_ret2
    exact ⟨rfl, rfl⟩
  · go_wp2
    go_ret2
    exact ⟨rfl, rfl⟩
  · go_wp2_with (go_at_call 68; refine (partner_k 91 93 true w (by simp)).mono ?_; rintro e w' ⟨rfl, hw⟩; have hq := hw.symm; subst hq; clear hw)
    go_ret2
    exact ⟨rfl, rfl⟩
  · go_wp2_with (go_at_call 68; refine (partner_k 93 91 false w (by simp)).mono ?_; rintro e w' ⟨rfl, hw⟩; have hq := hw.symm; subst hq; clear hw)
    go_ret2
    exact ⟨rfl, rfl⟩
  · go_wp2_with (go_at_call 68; refine (partner_k 123 125 true w (by simp)).mono ?_; rintro e w' ⟨rfl, hw⟩; have hq := hw.symm; subst hq; clear hw)
    go_ret2
    exact ⟨rfl, rfl⟩
  · go_wp2_with (go_at_call 68; refine (partner_k 125 123 false w (by simp)).mono ?_; rintro e w' ⟨rfl, hw⟩; have hq := hw.symm; subst hq; clear hw)
    go_ret2
    exact ⟨rfl, rfl⟩
  · go_wp2
    go_ret2
    exact ⟨rfl, rfl⟩
theorem lof_at {ao : Option Addr} {n c k : Nat} {l : List UInt8} {w : World} (hk : k ≤ n) (HT : Hid (Tx w ao n c l)) :
    Calls Try.prog 43 #[.slice ao n c, .int .i64 (k : Int)] w fun e w' => e = .returned (.tuple #[.int .i64 (nl (l.take k) : Int), .int .i64 0]) ∧ Below w.heap.size w w' := by
  have := lof_any ao n c (k : Int) l w HT
  have hb : plB l (k : Int) = true := decide_eq_true (by have := HT.out.len; omega)
  have e : pr (aOf l (k : Int)) = .returned (.tuple #[.int .i64 (nl (l.take k) : Int), .int .i64 0]) := by unfold pr aOf ans; rw [hb]; rfl
  rwa [e] at this
theorem start_at {ao : Option Addr} {n c k : Nat} {l : List UInt8} {w : World} (hk : k ≤ nl l) (HT : Hid (Tx w ao n c l)) :
    Calls Try.prog 44 #[.slice ao n c, .int .i64 (k : Int)] w fun e w' => e = .returned (.tuple #[.int .i64 (sp l k : Int), .int .i64 0]) ∧ w' = w := by
  have hn := nl_le l
  have hl := HT.out.len
  have hb := HT.out.big
  have := start_any ao n c (k : Int) l w (by omega) HT
  have hb : lnB l (k : Int) = true := decide_eq_true (by omega)
  have e : pr (aStart l (k : Int)) = .returned (.tuple #[.int .i64 (sp l k : Int), .int .i64 0]) := by unfold pr aStart ans; rw [hb]; rfl
  rwa [e] at this
theorem end_at {ao : Option Addr} {n c k : Nat} {l : List UInt8} {w : World} (hk : k ≤ nl l) (HT : Hid (Tx w ao n c l)) :
    Calls Try.prog 45 #[.slice ao n c, .int .i64 (k : Int)] w fun e w' => e = .returned (.tuple #[.int .i64 (en l (sp l k) : Int), .int .i64 0]) ∧ w' = w := by
  have hn := nl_le l
  have hl := HT.out.len
  have hb := HT.out.big
  have := end_any ao n c (k : Int) l w (by omega) HT
  have hb : lnB l (k : Int) = true := decide_eq_true (by omega)
  have e : pr (aEnd l (k : Int)) = .returned (.tuple #[.int .i64 (en l (sp l k) : Int), .int .i64 0]) := by unfold pr aEnd ans; rw [hb]; rfl
  rwa [e] at this
set_option maxHeartbeats 1000000 in
theorem lineOf_any (ao : Option Addr) (n c k : Nat) (l : List UInt8) (w : World) (hk : k ≤ n) (HT : Hid (Tx w ao n c l)) :
    Calls Try.prog 28 #[.slice ao n c, .int .i64 (k : Int)] w fun e w' => e = .returned (.tuple #[.int .i64 (bg l k : Int), .int .i64 (en l (bg l k) : Int)]) ∧ Below w.heap.size w w' := by
  have hlen := HT.out.len
  have C1 := Hid.mk' (lof_at hk HT)
  have HL : nl (l.take k) ≤ nl l := nl_take_le l k
  have HS := Hid.mk' (sp_of l k (by omega))
  have C2 := Hid.mk' (fun W (hb : Below w.heap.size w W) => start_at HL (HT.out.keep hb))
  have C3 := Hid.mk' (fun W (hb : Below w.heap.size w W) => end_at HL (HT.out.keep hb))
  rw [HS.out] at C2 C3
  generalize nl (l.take k) = L at *
  generalize en l (bg l k) = E at *
  generalize bg l k = B at *
  clear HL HS hlen
  go_enter Try.func28, Try.ntmps28
  go_wp2_with (first | (go_at_call 43; refine C1.out.mono ?_; rintro e w1 ⟨rfl, hb1⟩; have B1 := Hid.mk' hb1; clear hb1) | (go_at_call 44; refine (C2.out _ B1.out).mono ?_; rintro e w2 ⟨rfl, hw⟩; have hq := hw.symm; subst hq; clear hw) | (go_at_call 45; refine (C3.out _ B1.out).mono ?_; rintro e w2 ⟨rfl, hw⟩; have hq := hw.symm; subst hq; clear hw))
  go_ret2
  exact ⟨rfl, B1.out⟩
/-- the keys -/
def srt : List UInt8 := [119, 87, 112, 34, 39, 96, 40, 41, 98, 91, 93, 123, 125, 66]
theorem ix_srt (y : UInt8) : decide (0 ≤ Lib.indexByte srt y) = decide (y ∈ srt) := by
  have : ∀ l : List UInt8, (0 ≤ Lib.indexByte l y ↔ y ∈ l) ∧ -1 ≤ Lib.indexByte l y := by
    intro l
    induction l with
    | nil => simp [Lib.indexByte]
    | cons b l ih =>
      unfold Lib.indexByte
      by_cases h : b = y
      · subst h; simp
      · have h1 : (b == y) = false := by simpa using h
        have h2 : ¬ y = b := fun e => h e.symm
        rw [h1]
        simp only [Bool.false_eq_true, if_false, List.mem_cons, h2, false_or]
        by_cases hm : Lib.indexByte l y = -1
        · rw [hm] at ih ⊢
          simp at ih ⊢
          exact ih
        · have h3 : (Lib.indexByte l y == -1) = false := by simpa using hm
          rw [h3]
          simp only [Bool.false_eq_true, if_false]
          have := ih.1
          have := ih.2
          constructor
          · rw [← ih.1]; omega
          · omega
  rw [Bool.eq_iff_iff]
  simp only [decide_eq_true_eq]
  exact (this srt).1
/-- is it a key of two bytes -/
def ky (x y : UInt8) : Bool := (decide ((x.toNat : Int) = 105) || decide ((x.toNat : Int) = 97)) && decide (y ∈ srt)
set_option maxHeartbeats 2000000 in
theorem isKey_two (x y : UInt8) (w : World) : Calls Try.prog 26 #[.string ⟨#[x, y]⟩] w fun e w' => e = .returned (.bool (ky x y)) ∧ w' = w := by
  have C1 := Hid.mk' (strings_IndexByte ⟨#[119, 87, 112, 34, 39, 96, 40, 41, 98, 91, 93, 123, 125, 66]⟩ (y.toNat : Int) w)
  have HK : Hid (ky x y = ((decide ((x.toNat : Int) = 105) || decide ((x.toNat : Int) = 97)) && decide (0 ≤ Lib.indexByte [119, 87, 112, 34, 39, 96, 40, 41, 98, 91, 93, 123, 125, 66] y))) := by unfold Hid ky; rw [← ix_srt]; rfl
  have e : ((y.toNat : Int).toNat.toUInt8) = y := by simp
  rw [e] at C1
  generalize hg : Lib.indexByte (ByteArray.data ⟨#[119, 87, 112, 34, 39, 96, 40, 41, 98, 91, 93, 123, 125, 66]⟩).toList y = J at C1
  have HJ : Hid (Lib.indexByte [119, 87, 112, 34, 39, 96, 40, 41, 98, 91, 93, 123, 125, 66] y = J) := hg
  clear hg
  have hx : (((⟨#[x, y]⟩ : ByteArray)[0]'(by show 0 < 2; omega)).toNat : Int) = (x.toNat : Int) := rfl
  have hy : (((⟨#[x, y]⟩ : ByteArray)[1]'(by show 1 < 2; omega)).toNat : Int) = (y.toNat : Int) := rfl
  have hs : (⟨#[x, y]⟩ : ByteArray).size = 2 := rfl
  go_enter Try.func26, Try.ntmps26
  go_wp2_with (go_at_call 37; refine C1.out.mono ?_; rintro e w' ⟨rfl, hw⟩; have hq := hw.symm; subst hq; clear hw)
  all_goals go_ret
  all_goals (refine ⟨?_, rfl⟩; rw [HK.out, HJ.out]; simp_all)
set_option maxHeartbeats 2000000 in
theorem isKey_not (s : ByteArray) (h : ¬ s.size = 2) (w : World) : Calls Try.prog 26 #[.string s] w fun e w' => e = .returned (.bool false) ∧ w' = w := by
  have h1 : (((s.size : Nat) : Int) == 2) = false := by simp; omega
  go_enter Try.func26, Try.ntmps26
  go_wp2
  all_goals go_ret
  all_goals exact ⟨rfl, rfl⟩
end Go.Proofs.Ytgdhdegmjljbfaa
