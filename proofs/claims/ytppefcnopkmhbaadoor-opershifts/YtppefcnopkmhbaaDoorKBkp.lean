/- taken out and put in again, pure: bytes. -/
import Derived.Test.YtppefcnopkmhbaaDoorKCsp
namespace Go.Proofs.YtppefcnopkmhbaaDoor
open Go.RowKit

set_option maxRecDepth 8000
theorem rp_one (X : List UInt8) : rp X 1 = X := by show X ++ [] = X; rw [List.append_nil]
theorem tk_plain (l : List UInt8) (f t : Nat) : tk l f t false false = sl l f t := by unfold tk tkb sl; simp
/-- what d answers to bytes -/
theorem do_dB {l : List UInt8} {f t : Nat} (hft : f ≤ t) (ht : t ≤ l.length) :
    doX l (f : Int) ⟨#[100]⟩ (f : Int) (t : Int) false false 1 = if f = t then (ef0, 190) else (⟨sw l f t [], (f : Int), true, false, sl l f t, hwE false (sl l f t), false⟩, 0) := by
  have hs : kn ⟨#[100]⟩ = 1 := by decide +kernel
  have hln : lnO l f (f : Int) (t : Int) false false = ((nl (l.take f) : Int), (nl (l.take (max (f : Int) ((t : Int) - 1)).toNat) : Int), true) := by
    unfold lnO
    rw [if_neg (by omega), if_pos rfl]
    rfl
  unfold doX
  rw [show ((f : Int)).toNat = f from rfl, hln, hs]
  rw [if_neg (by
    rintro (h | h | h | h)
    · omega
    · exact h ⟨by omega, by omega⟩
    · exact h ⟨by omega, by omega⟩
    · cases h)]
  by_cases he : f = t
  · rw [if_pos ⟨by omega, rfl⟩, if_pos he]
  · rw [if_neg (fun h => he (by omega)), if_neg he]
    unfold opX rEf rmC
    rw [if_pos rfl, show ((t : Int)).toNat = t from rfl, tk_plain, if_neg (by simp)]
/-- the text without some bytes -/
def wo (l : List UInt8) (f t : Nat) : List UInt8 := l.take f ++ l.drop t
theorem wo_len {l : List UInt8} {f t : Nat} (hft : f ≤ t) (ht : t ≤ l.length) : (wo l f t).length = l.length - (t - f) := by
  unfold wo
  rw [List.length_append, List.length_take, List.length_drop]
  omega
theorem wo_take {l : List UInt8} {f t : Nat} (hf : f ≤ l.length) : (wo l f t).take f = l.take f := by
  unfold wo
  rw [List.take_append_of_le_length (by rw [List.length_take]; omega), List.take_take, Nat.min_self]
theorem wo_drop {l : List UInt8} {f t : Nat} (hf : f ≤ l.length) : (wo l f t).drop f = l.drop t := by
  unfold wo
  rw [List.drop_append_of_le_length (by rw [List.length_take]; omega), List.drop_of_length_le (by rw [List.length_take]; omega), List.nil_append]
theorem cut_join {l : List UInt8} {f t : Nat} (hft : f ≤ t) : l.take f ++ sl l f t ++ l.drop t = l := by
  have : sl l f t ++ l.drop t = l.drop f := by
    show (l.drop f).take (t - f) ++ l.drop t = _
    conv => rhs; rw [← List.take_append_drop (t - f) (l.drop f)]
    rw [List.drop_drop]
    congr 2; omega
  rw [List.append_assoc, this, List.take_append_drop]
theorem apU_wo {l : List UInt8} {f t : Nat} (hft : f ≤ t) (ht : t ≤ l.length) : apU l (sw l f t []) = wo l f t ∧ apE l (sw l f t []) = 0 := by
  have h := apU_sw hft ht []
  rw [List.append_nil] at h
  exact h
/-- put in where they were -/
theorem put_B {l X : List UInt8} {f : Nat} (hf : f ≤ l.length) (h1 : 1 ≤ X.length) (h2 : X.length ≤ 65536) :
    ∃ x : Ef, ptX l (f : Int) 1 true false X true = (x, 0) ∧ x.es = sw l f f X := by
  have hc : cntB 1 = true := by decide
  unfold ptX
  rw [if_neg (fun h => h ⟨⟨by omega, by omega⟩, hc⟩), if_neg (by simp)]
  unfold ptM
  rw [show ptT false X = X from by unfold ptT; simp, show ((1 : Int)).toNat = 1 from rfl, Nat.div_one, if_neg (by omega), if_neg (by simp), rp_one, show ((f : Int)).toNat = f from rfl]
  refine ⟨_, rfl, ?_⟩
  unfold pbX
  rw [if_neg (by omega)]
  rfl
theorem back_B {l : List UInt8} {f t : Nat} (hft : f ≤ t) (ht : t ≤ l.length) : apU (wo l f t) (sw (wo l f t) f f (sl l f t)) = l ∧ apE (wo l f t) (sw (wo l f t) f f (sl l f t)) = 0 := by
  have hl := wo_len hft ht
  have h := apU_sw (l := wo l f t) (f := f) (t := f) (Nat.le_refl _) (by omega) (sl l f t)
  rw [wo_take (by omega), wo_drop (by omega), cut_join hft] at h
  exact h
end Go.Proofs.YtppefcnopkmhbaaDoor
