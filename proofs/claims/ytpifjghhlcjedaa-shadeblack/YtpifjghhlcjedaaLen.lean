/- The contracts of bits.Len and of highest. -/
import Derived.Test.YtpifjghhlcjedaaRows2
import Derived.Lib.Strings
import Derived.Lib.Slices
import Derived.Lib.Small
import Derived.Lib.Walk
import Derived.Lib.BitFns
namespace Go.Proofs.Ytpifjghhlcjedaa
open Go.RowKit

theorem lt_bitLenAux : ∀ (f x : Nat), x < 2 ^ f → x < 2 ^ Lib.bitLenAux f x
  | 0, x, h => by simpa [Lib.bitLenAux] using h
  | f + 1, x, h => by
    simp only [Lib.bitLenAux]
    split
    · subst x; simp
    · have := lt_bitLenAux f (x / 2) (by rw [Nat.pow_succ] at h; omega)
      rw [Nat.pow_add, Nat.pow_one]; omega
theorem lt_bitLen (x : Nat) (h : x ≤ 2097152) : x < 2 ^ Lib.bitLen x := lt_bitLenAux 64 x (by omega)

theorem l8_get (y : Int) (h : y.toNat < Lib.len8tab.size) : ((Lib.len8tab[y.toNat]'h).toNat : Int) = Lib.len8 y := by
  unfold Lib.len8
  have e : Lib.len8tab[y.toNat]? = some (Lib.len8tab[y.toNat]'h) := by rw [getElem?_pos]
  rw [e]; rfl
theorem ret_int {a b : Int} (h : a = b) : Ending.returned (.int .i64 a) = .returned (.int .i64 b) := by rw [h]

set_option maxHeartbeats 4000000 in
set_option maxRecDepth 100000 in
theorem len64_a (x : Int) (w : World) (h0 : 0 ≤ x) (h1 : x < 256) :
    Calls Try.prog 116 #[.int .u64 x] w fun e w' => e = .returned (.int .i64 (Lib.bitLen x.toNat)) ∧ w' = w := by
  go_enter Try.func116, Try.ntmps116
  go_wp2
  all_goals first
    | (go_ret; refine ⟨ret_int ?_, rfl⟩)
    | (exfalso; have hs := Lib.len8tab_size; omega)
  have l := Lib.bitLen_le8' x (by omega) (by omega)
  rw [l8_get x _, Lib.len8_of x (by omega) (by omega), w64 (x := (Lib.bitLen x.toNat : Int)) (by omega) (by omega), w64 (by omega) (by omega)]
set_option maxHeartbeats 4000000 in
set_option maxRecDepth 100000 in
theorem len64_b (x : Int) (w : World) (h0 : 256 ≤ x) (h1 : x < 65536) :
    Calls Try.prog 116 #[.int .u64 x] w fun e w' => e = .returned (.int .i64 (Lib.bitLen x.toNat)) ∧ w' = w := by
  go_enter Try.func116, Try.ntmps116
  go_wp2
  all_goals first
    | (go_ret; refine ⟨ret_int ?_, rfl⟩)
    | (exfalso; have hs := Lib.len8tab_size; omega)
  have l := Lib.bitLen_le8' (x / 256) (by omega) (by omega)
  have e : (x / 256).toNat = x.toNat / 256 := by omega
  have q := Lib.bitLen_shift8 x.toNat (by omega) (by omega)
  rw [l8_get (x / 256) _, Lib.len8_of (x / 256) (by omega) (by omega), w64 (x := (Lib.bitLen (x / 256).toNat : Int)) (by omega) (by omega), w64 (by omega) (by omega), q, e]
  omega
set_option maxHeartbeats 4000000 in
set_option maxRecDepth 100000 in
theorem len64_c (x : Int) (w : World) (h0 : 65536 ≤ x) (h1 : x ≤ 2097152) :
    Calls Try.prog 116 #[.int .u64 x] w fun e w' => e = .returned (.int .i64 (Lib.bitLen x.toNat)) ∧ w' = w := by
  go_enter Try.func116, Try.ntmps116
  go_wp2
  all_goals first
    | (go_ret; refine ⟨ret_int ?_, rfl⟩)
    | (exfalso; have hs := Lib.len8tab_size; omega)
  have l := Lib.bitLen_le8' (x / 65536) (by omega) (by omega)
  have e : (x / 65536).toNat = x.toNat / 65536 := by omega
  have q := Lib.bitLen_shift16 x.toNat (by omega) (by omega)
  rw [l8_get (x / 65536) _, Lib.len8_of (x / 65536) (by omega) (by omega), w64 (x := (Lib.bitLen (x / 65536).toNat : Int)) (by omega) (by omega), w64 (by omega) (by omega), q, e]
  omega
theorem len64_any (x : Int) (w : World) (h0 : 0 ≤ x) (h1 : x ≤ 2097152) :
    Calls Try.prog 116 #[.int .u64 x] w fun e w' => e = .returned (.int .i64 (Lib.bitLen x.toNat)) ∧ w' = w := by
  by_cases a : x < 256
  · exact len64_a x w h0 a
  · by_cases b : x < 65536
    · exact len64_b x w (by omega) b
    · exact len64_c x w (by omega) h1
set_option maxHeartbeats 4000000 in
theorem len_any (x : Int) (w : World) (h0 : 0 ≤ x) (h1 : x ≤ 2097152) :
    Calls Try.prog 103 #[.int .u64 x] w fun e w' => e = .returned (.int .i64 (Lib.bitLen x.toNat)) ∧ w' = w := by
  go_enter Try.func103, Try.ntmps103
  go_wp2_with (go_at_call 116; refine (len64_any x _ h0 h1).mono ?_; rintro e w' ⟨rfl, rfl⟩)
  go_ret
  exact ⟨rfl, rfl⟩
theorem bitLen_small (n : Nat) (h : n ≤ 1048576) : Lib.bitLen n ≤ 21 := Lib.bitLen_le n 21 (by omega) (by omega)
set_option maxHeartbeats 4000000 in
theorem highest_any (n : Nat) (w : World) (h1 : n ≤ 1048576) :
    Calls Try.prog 75 #[.int .i64 (n : Nat)] w fun e w' => e = .returned (.int .i64 ((2 * Lib.bitLen n : Nat) : Int)) ∧ w' = w := by
  have hb := bitLen_small n h1
  have hw : wrap64 (2 * (Lib.bitLen n : Int)) = ((2 * Lib.bitLen n : Nat) : Int) := by rw [w64 (by omega) (by omega)]; omega
  go_enter Try.func75, Try.ntmps75
  go_wp2_with (go_at_call 103; refine (len_any (n : Int) _ (by omega) (by omega)).mono ?_; rintro e w' ⟨rfl, rfl⟩; rw [show ((n : Int)).toNat = n from rfl])
  go_ret
  exact ⟨rfl, rfl⟩
end Go.Proofs.Ytpifjghhlcjedaa
