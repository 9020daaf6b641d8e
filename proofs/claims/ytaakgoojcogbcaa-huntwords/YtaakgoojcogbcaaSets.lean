/- Sets of bytes, as four words. -/
import Derived.Test.YtaakgoojcogbcaaKit
namespace Go.Proofs.Ytaakgoojcogbcaa
open Go.RowKit

/-- the number whose lowest n bits f tells -/
def wb (f : Nat → Bool) : Nat → Nat
  | 0 => 0
  | n + 1 => wb f n + if f n then 2 ^ n else 0
theorem wb_lt (f : Nat → Bool) : ∀ n, wb f n < 2 ^ n
  | 0 => by simp [wb]
  | n + 1 => by
    have := wb_lt f n
    unfold wb
    rw [Nat.pow_succ]
    split <;> omega
theorem wb_bit (f : Nat → Bool) : ∀ n i, (wb f n).testBit i = (decide (i < n) && f i)
  | 0, i => by simp [wb]
  | n + 1, i => by
    have h := wb_lt f n
    unfold wb
    cases hf : f n with
    | false =>
      simp only [Bool.false_eq_true, if_false, Nat.add_zero]
      rw [wb_bit f n i]
      by_cases hi : i = n
      · subst hi; simp [hf]
      · have : decide (i < n + 1) = decide (i < n) := by apply decide_eq_decide.2; omega
        rw [this]
    | true =>
      simp only [if_true]
      have e := Nat.two_pow_add_eq_or_of_lt h 1
      rw [Nat.mul_one] at e
      rw [Nat.add_comm, e]
      rw [Nat.testBit_or, Nat.testBit_two_pow, wb_bit f n i]
      by_cases hi : i = n
      · subst hi; simp [hf]
      · have : decide (i < n + 1) = decide (i < n) := by apply decide_eq_decide.2; omega
        rw [this]
        simp; omega
/-- the word of the bytes from 64 * j on -/
def wz (f : Nat → Bool) (j : Nat) : Nat := wb (fun i => f (64 * j + i)) 64
theorem wz_lt (f : Nat → Bool) (j : Nat) : wz f j < 2 ^ 64 := wb_lt _ _
theorem wz_bit (f : Nat → Bool) (j i : Nat) (h : i < 64) : (wz f j).testBit i = f (64 * j + i) := by
  unfold wz; rw [wb_bit]; simp [h]
theorem wz_eq (f : Nat → Bool) (j x : Nat) (hx : x < 2 ^ 64) (h : ∀ i, i < 64 → x.testBit i = f (64 * j + i)) : x = wz f j := by
  apply Nat.eq_of_testBit_eq
  intro i
  by_cases hi : i < 64
  · rw [h i hi, wz_bit f j i hi]
  · rw [Nat.testBit_lt_two_pow (Nat.lt_of_lt_of_le hx (Nat.pow_le_pow_right (by decide) (by omega))), Nat.testBit_lt_two_pow (Nat.lt_of_lt_of_le (wz_lt f j) (Nat.pow_le_pow_right (by decide) (by omega)))]
theorem bv64 (a : Nat) (h : a < 2 ^ 64) : (BitVec.ofInt 64 (a : Int)).toNat = a := by
  rw [BitVec.ofInt_natCast, BitVec.toNat_ofNat]; exact Nat.mod_eq_of_lt h
theorem wrap64 (a : Nat) (h : a < 2 ^ 64) : IntKind.u64.wrap (a : Int) = (a : Int) := by
  have : (a : Int) < 18446744073709551616 := by have h' : a < 18446744073709551616 := h; omega
  simp [IntKind.wrap, IntKind.bits, IntKind.signed]
  omega
theorem bits_and64 (x y : Int) : bits .and .u64 x y = IntKind.u64.wrap (((BitVec.ofInt 64 x &&& BitVec.ofInt 64 y : BitVec 64).toNat : Nat) : Int) := rfl
theorem bits_or64 (x y : Int) : bits .or .u64 x y = IntKind.u64.wrap (((BitVec.ofInt 64 x ||| BitVec.ofInt 64 y : BitVec 64).toNat : Nat) : Int) := rfl
theorem bits_xor64 (x y : Int) : bits .xor .u64 x y = IntKind.u64.wrap (((BitVec.ofInt 64 x ^^^ BitVec.ofInt 64 y : BitVec 64).toNat : Nat) : Int) := rfl
theorem has_word (f : Nat → Bool) (j r : Nat) (hr : r < 64) : (bits .and .u64 ((wz f j : Int) / 2 ^ r) 1 == 1) = f (64 * j + r) := by
  have h1 : ((wz f j : Int) / 2 ^ r) = ((wz f j / 2 ^ r : Nat) : Int) := by simp
  have h2 : wz f j / 2 ^ r < 2 ^ 64 := Nat.lt_of_le_of_lt (Nat.div_le_self _ _) (wz_lt f j)
  rw [h1, ← wz_bit f j r hr]
  rw [bits_and64]
  have h3 : (BitVec.ofInt 64 ((wz f j / 2 ^ r : Nat) : Int) &&& BitVec.ofInt 64 1).toNat = (wz f j / 2 ^ r) % 2 := by
    rw [BitVec.toNat_and, bv64 _ h2, show BitVec.ofInt 64 1 = BitVec.ofNat 64 1 from rfl, BitVec.toNat_ofNat]
    show _ &&& 1 = _
    rw [Nat.and_one_is_mod]
  rw [h3, wrap64 _ (by omega), Nat.testBit, Nat.shiftRight_eq_div_pow, Nat.one_and_eq_mod_two]
  rcases Nat.mod_two_eq_zero_or_one (wz f j / 2 ^ r) with h | h <;> rw [h] <;> decide
theorem or_word (f : Nat → Bool) (j r : Nat) (hr : r < 64) : bits .or .u64 (wz f j : Int) (IntKind.u64.wrap (1 * 2 ^ r)) = (wz (fun x => f x || x == 64 * j + r) j : Int) := by
  have h1 : (1 * 2 ^ r : Int) = ((2 ^ r : Nat) : Int) := by simp
  have h2 : (2 : Nat) ^ r < 2 ^ 64 := Nat.pow_lt_pow_right (by decide) hr
  rw [h1, wrap64 _ h2]
  rw [bits_or64]
  have h3 : (BitVec.ofInt 64 (wz f j : Int) ||| BitVec.ofInt 64 ((2 ^ r : Nat) : Int)).toNat = wz f j ||| 2 ^ r := by
    rw [BitVec.toNat_or, bv64 _ h2, bv64 _ (wz_lt f j)]
  rw [h3]
  have h4 : wz f j ||| 2 ^ r < 2 ^ 64 := Nat.or_lt_two_pow (wz_lt f j) h2
  rw [wrap64 _ h4]
  congr 1
  refine wz_eq _ j _ h4 fun i hi => ?_
  rw [Nat.testBit_or, wz_bit f j i hi, Nat.testBit_two_pow]
  congr 1
  rw [Bool.eq_iff_iff]; simp; omega
theorem or_other (f : Nat → Bool) (j k r : Nat) (hr : r < 64) (h : k ≠ j) : wz (fun x => f x || x == 64 * j + r) k = wz f k := by
  refine (wz_eq _ k _ (wz_lt f k) fun i hi => ?_).symm
  rw [wz_bit f k i hi]
  have : (64 * k + i == 64 * j + r) = false := by simp; omega
  rw [this, Bool.or_false]
theorem not_word (f : Nat → Bool) (j : Nat) : bits .xor .u64 (IntKind.u64.max) (wz f j : Int) = (wz (fun x => !f x) j : Int) := by
  rw [bits_xor64]
  have h0 : BitVec.ofInt 64 IntKind.u64.max = BitVec.allOnes 64 := by decide
  have h3 : (BitVec.ofInt 64 IntKind.u64.max ^^^ BitVec.ofInt 64 (wz f j : Int)).toNat < 2 ^ 64 := BitVec.isLt _
  rw [wrap64 _ h3]
  congr 1
  refine wz_eq _ j _ h3 fun i hi => ?_
  rw [h0, BitVec.toNat_xor, bv64 _ (wz_lt f j), Nat.testBit_xor, wz_bit f j i hi]
  have : (BitVec.allOnes 64).toNat.testBit i = true := by
    rw [BitVec.testBit_toNat, BitVec.getLsbD_allOnes]; simp [hi]
  rw [this, Bool.true_xor]
end Go.Proofs.Ytaakgoojcogbcaa
