/- The contracts of the reference's small functions: known, column, first, right, left. -/
import Derived.Test.YtbkhbnmihnomaaaAwk
import Derived.Test.YtbkhbnmihnomaaaRws
namespace Go.Proofs.Ytbkhbnmihnomaaa
open Go.RowKit

set_option maxHeartbeats 400000 in
theorem known_0 (s : ByteArray) (w : World) (h : kn s = 0) : Calls Try.prog 20 #[.string s] w fun e w' => e = .returned (.bool false) ∧ w' = w := by
  obtain ⟨q1, q2, q3, q4, q5, q6, q7, q8, q9, q10, q11, q12, q13, q14, q15, q16⟩ : (s.toList == [104]) = false ∧ (s.toList == [108]) = false ∧ (s.toList == [32]) = false ∧ (s.toList == [8]) = false ∧ (s.toList == [106]) = false ∧ (s.toList == [107]) = false ∧ (s.toList == [43]) = false ∧ (s.toList == [13]) = false ∧ (s.toList == [45]) = false ∧ (s.toList == [95]) = false ∧ (s.toList == [48]) = false ∧ (s.toList == [94]) = false ∧ (s.toList == [36]) = false ∧ (s.toList == [124]) = false ∧ (s.toList == [71]) = false ∧ (s.toList == [103, 103]) = false := kn_rules s 0 h
  clear h
  go_enter Try.func20, Try.ntmps20
  go_wp2
  go_ret
  exact ⟨rfl, rfl⟩
set_option maxHeartbeats 400000 in
theorem known_1 (s : ByteArray) (w : World) (h : kn s = 1) : Calls Try.prog 20 #[.string s] w fun e w' => e = .returned (.bool true) ∧ w' = w := by
  obtain ⟨q1, q2, q3, q4, q5, q6, q7, q8, q9, q10, q11, q12, q13, q14, q15, q16⟩ : (s.toList == [104]) = true ∧ (s.toList == [108]) = false ∧ (s.toList == [32]) = false ∧ (s.toList == [8]) = false ∧ (s.toList == [106]) = false ∧ (s.toList == [107]) = false ∧ (s.toList == [43]) = false ∧ (s.toList == [13]) = false ∧ (s.toList == [45]) = false ∧ (s.toList == [95]) = false ∧ (s.toList == [48]) = false ∧ (s.toList == [94]) = false ∧ (s.toList == [36]) = false ∧ (s.toList == [124]) = false ∧ (s.toList == [71]) = false ∧ (s.toList == [103, 103]) = false := kn_rules s 1 h
  clear h
  go_enter Try.func20, Try.ntmps20
  go_wp2
  go_ret
  exact ⟨rfl, rfl⟩
set_option maxHeartbeats 400000 in
theorem known_2 (s : ByteArray) (w : World) (h : kn s = 2) : Calls Try.prog 20 #[.string s] w fun e w' => e = .returned (.bool true) ∧ w' = w := by
  obtain ⟨q1, q2, q3, q4, q5, q6, q7, q8, q9, q10, q11, q12, q13, q14, q15, q16⟩ : (s.toList == [104]) = false ∧ (s.toList == [108]) = true ∧ (s.toList == [32]) = false ∧ (s.toList == [8]) = false ∧ (s.toList == [106]) = false ∧ (s.toList == [107]) = false ∧ (s.toList == [43]) = false ∧ (s.toList == [13]) = false ∧ (s.toList == [45]) = false ∧ (s.toList == [95]) = false ∧ (s.toList == [48]) = false ∧ (s.toList == [94]) = false ∧ (s.toList == [36]) = false ∧ (s.toList == [124]) = false ∧ (s.toList == [71]) = false ∧ (s.toList == [103, 103]) = false := kn_rules s 2 h
  clear h
  go_enter Try.func20, Try.ntmps20
  go_wp2
  go_ret
  exact ⟨rfl, rfl⟩
set_option maxHeartbeats 400000 in
theorem known_3 (s : ByteArray) (w : World) (h : kn s = 3) : Calls Try.prog 20 #[.string s] w fun e w' => e = .returned (.bool true) ∧ w' = w := by
  obtain ⟨q1, q2, q3, q4, q5, q6, q7, q8, q9, q10, q11, q12, q13, q14, q15, q16⟩ : (s.toList == [104]) = false ∧ (s.toList == [108]) = false ∧ (s.toList == [32]) = true ∧ (s.toList == [8]) = false ∧ (s.toList == [106]) = false ∧ (s.toList == [107]) = false ∧ (s.toList == [43]) = false ∧ (s.toList == [13]) = false ∧ (s.toList == [45]) = false ∧ (s.toList == [95]) = false ∧ (s.toList == [48]) = false ∧ (s.toList == [94]) = false ∧ (s.toList == [36]) = false ∧ (s.toList == [124]) = false ∧ (s.toList == [71]) = false ∧ (s.toList == [103, 103]) = false := kn_rules s 3 h
  clear h
  go_enter Try.func20, Try.ntmps20
  go_wp2
  go_ret
  exact ⟨rfl, rfl⟩
set_option maxHeartbeats 400000 in
theorem known_4 (s : ByteArray) (w : World) (h : kn s = 4) : Calls Try.prog 20 #[.string s] w fun e w' => e = .returned (.bool true) ∧ w' = w := by
  obtain ⟨q1, q2, q3, q4, q5, q6, q7, q8, q9, q10, q11, q12, q13, q14, q15, q16⟩ : (s.toList == [104]) = false ∧ (s.toList == [108]) = false ∧ (s.toList == [32]) = false ∧ (s.toList == [8]) = true ∧ (s.toList == [106]) = false ∧ (s.toList == [107]) = false ∧ (s.toList == [43]) = false ∧ (s.toList == [13]) = false ∧ (s.toList == [45]) = false ∧ (s.toList == [95]) = false ∧ (s.toList == [48]) = false ∧ (s.toList == [94]) = false ∧ (s.toList == [36]) = false ∧ (s.toList == [124]) = false ∧ (s.toList == [71]) = false ∧ (s.toList == [103, 103]) = false := kn_rules s 4 h
  clear h
  go_enter Try.func20, Try.ntmps20
  go_wp2
  go_ret
  exact ⟨rfl, rfl⟩
set_option maxHeartbeats 400000 in
theorem known_5 (s : ByteArray) (w : World) (h : kn s = 5) : Calls Try.prog 20 #[.string s] w fun e w' => e = .returned (.bool true) ∧ w' = w := by
  obtain ⟨q1, q2, q3, q4, q5, q6, q7, q8, q9, q10, q11, q12, q13, q14, q15, q16⟩ : (s.toList == [104]) = false ∧ (s.toList == [108]) = false ∧ (s.toList == [32]) = false ∧ (s.toList == [8]) = false ∧ (s.toList == [106]) = true ∧ (s.toList == [107]) = false ∧ (s.toList == [43]) = false ∧ (s.toList == [13]) = false ∧ (s.toList == [45]) = false ∧ (s.toList == [95]) = false ∧ (s.toList == [48]) = false ∧ (s.toList == [94]) = false ∧ (s.toList == [36]) = false ∧ (s.toList == [124]) = false ∧ (s.toList == [71]) = false ∧ (s.toList == [103, 103]) = false := kn_rules s 5 h
  clear h
  go_enter Try.func20, Try.ntmps20
  go_wp2
  go_ret
  exact ⟨rfl, rfl⟩
set_option maxHeartbeats 400000 in
theorem known_6 (s : ByteArray) (w : World) (h : kn s = 6) : Calls Try.prog 20 #[.string s] w fun e w' => e = .returned (.bool true) ∧ w' = w := by
  obtain ⟨q1, q2, q3, q4, q5, q6, q7, q8, q9, q10, q11, q12, q13, q14, q15, q16⟩ : (s.toList == [104]) = false ∧ (s.toList == [108]) = false ∧ (s.toList == [32]) = false ∧ (s.toList == [8]) = false ∧ (s.toList == [106]) = false ∧ (s.toList == [107]) = true ∧ (s.toList == [43]) = false ∧ (s.toList == [13]) = false ∧ (s.toList == [45]) = false ∧ (s.toList == [95]) = false ∧ (s.toList == [48]) = false ∧ (s.toList == [94]) = false ∧ (s.toList == [36]) = false ∧ (s.toList == [124]) = false ∧ (s.toList == [71]) = false ∧ (s.toList == [103, 103]) = false := kn_rules s 6 h
  clear h
  go_enter Try.func20, Try.ntmps20
  go_wp2
  go_ret
  exact ⟨rfl, rfl⟩
set_option maxHeartbeats 400000 in
theorem known_7 (s : ByteArray) (w : World) (h : kn s = 7) : Calls Try.prog 20 #[.string s] w fun e w' => e = .returned (.bool true) ∧ w' = w := by
  obtain ⟨q1, q2, q3, q4, q5, q6, q7, q8, q9, q10, q11, q12, q13, q14, q15, q16⟩ : (s.toList == [104]) = false ∧ (s.toList == [108]) = false ∧ (s.toList == [32]) = false ∧ (s.toList == [8]) = false ∧ (s.toList == [106]) = false ∧ (s.toList == [107]) = false ∧ (s.toList == [43]) = true ∧ (s.toList == [13]) = false ∧ (s.toList == [45]) = false ∧ (s.toList == [95]) = false ∧ (s.toList == [48]) = false ∧ (s.toList == [94]) = false ∧ (s.toList == [36]) = false ∧ (s.toList == [124]) = false ∧ (s.toList == [71]) = false ∧ (s.toList == [103, 103]) = false := kn_rules s 7 h
  clear h
  go_enter Try.func20, Try.ntmps20
  go_wp2
  go_ret
  exact ⟨rfl, rfl⟩
set_option maxHeartbeats 400000 in
theorem known_8 (s : ByteArray) (w : World) (h : kn s = 8) : Calls Try.prog 20 #[.string s] w fun e w' => e = .returned (.bool true) ∧ w' = w := by
  obtain ⟨q1, q2, q3, q4, q5, q6, q7, q8, q9, q10, q11, q12, q13, q14, q15, q16⟩ : (s.toList == [104]) = false ∧ (s.toList == [108]) = false ∧ (s.toList == [32]) = false ∧ (s.toList == [8]) = false ∧ (s.toList == [106]) = false ∧ (s.toList == [107]) = false ∧ (s.toList == [43]) = false ∧ (s.toList == [13]) = true ∧ (s.toList == [45]) = false ∧ (s.toList == [95]) = false ∧ (s.toList == [48]) = false ∧ (s.toList == [94]) = false ∧ (s.toList == [36]) = false ∧ (s.toList == [124]) = false ∧ (s.toList == [71]) = false ∧ (s.toList == [103, 103]) = false := kn_rules s 8 h
  clear h
  go_enter Try.func20, Try.ntmps20
  go_wp2
  go_ret
  exact ⟨rfl, rfl⟩
set_option maxHeartbeats 400000 in
theorem known_9 (s : ByteArray) (w : World) (h : kn s = 9) : Calls Try.prog 20 #[.string s] w fun e w' => e = .returned (.bool true) ∧ w' = w := by
  obtain ⟨q1, q2, q3, q4, q5, q6, q7, q8, q9, q10, q11, q12, q13, q14, q15, q16⟩ : (s.toList == [104]) = false ∧ (s.toList == [108]) = false ∧ (s.toList == [32]) = false ∧ (s.toList == [8]) = false ∧ (s.toList == [106]) = false ∧ (s.toList == [107]) = false ∧ (s.toList == [43]) = false ∧ (s.toList == [13]) = false ∧ (s.toList == [45]) = true ∧ (s.toList == [95]) = false ∧ (s.toList == [48]) = false ∧ (s.toList == [94]) = false ∧ (s.toList == [36]) = false ∧ (s.toList == [124]) = false ∧ (s.toList == [71]) = false ∧ (s.toList == [103, 103]) = false := kn_rules s 9 h
  clear h
  go_enter Try.func20, Try.ntmps20
  go_wp2
  go_ret
  exact ⟨rfl, rfl⟩
set_option maxHeartbeats 400000 in
theorem known_10 (s : ByteArray) (w : World) (h : kn s = 10) : Calls Try.prog 20 #[.string s] w fun e w' => e = .returned (.bool true) ∧ w' = w := by
  obtain ⟨q1, q2, q3, q4, q5, q6, q7, q8, q9, q10, q11, q12, q13, q14, q15, q16⟩ : (s.toList == [104]) = false ∧ (s.toList == [108]) = false ∧ (s.toList == [32]) = false ∧ (s.toList == [8]) = false ∧ (s.toList == [106]) = false ∧ (s.toList == [107]) = false ∧ (s.toList == [43]) = false ∧ (s.toList == [13]) = false ∧ (s.toList == [45]) = false ∧ (s.toList == [95]) = true ∧ (s.toList == [48]) = false ∧ (s.toList == [94]) = false ∧ (s.toList == [36]) = false ∧ (s.toList == [124]) = false ∧ (s.toList == [71]) = false ∧ (s.toList == [103, 103]) = false := kn_rules s 10 h
  clear h
  go_enter Try.func20, Try.ntmps20
  go_wp2
  go_ret
  exact ⟨rfl, rfl⟩
set_option maxHeartbeats 400000 in
theorem known_11 (s : ByteArray) (w : World) (h : kn s = 11) : Calls Try.prog 20 #[.string s] w fun e w' => e = .returned (.bool true) ∧ w' = w := by
  obtain ⟨q1, q2, q3, q4, q5, q6, q7, q8, q9, q10, q11, q12, q13, q14, q15, q16⟩ : (s.toList == [104]) = false ∧ (s.toList == [108]) = false ∧ (s.toList == [32]) = false ∧ (s.toList == [8]) = false ∧ (s.toList == [106]) = false ∧ (s.toList == [107]) = false ∧ (s.toList == [43]) = false ∧ (s.toList == [13]) = false ∧ (s.toList == [45]) = false ∧ (s.toList == [95]) = false ∧ (s.toList == [48]) = true ∧ (s.toList == [94]) = false ∧ (s.toList == [36]) = false ∧ (s.toList == [124]) = false ∧ (s.toList == [71]) = false ∧ (s.toList == [103, 103]) = false := kn_rules s 11 h
  clear h
  go_enter Try.func20, Try.ntmps20
  go_wp2
  go_ret
  exact ⟨rfl, rfl⟩
set_option maxHeartbeats 400000 in
theorem known_12 (s : ByteArray) (w : World) (h : kn s = 12) : Calls Try.prog 20 #[.string s] w fun e w' => e = .returned (.bool true) ∧ w' = w := by
  obtain ⟨q1, q2, q3, q4, q5, q6, q7, q8, q9, q10, q11, q12, q13, q14, q15, q16⟩ : (s.toList == [104]) = false ∧ (s.toList == [108]) = false ∧ (s.toList == [32]) = false ∧ (s.toList == [8]) = false ∧ (s.toList == [106]) = false ∧ (s.toList == [107]) = false ∧ (s.toList == [43]) = false ∧ (s.toList == [13]) = false ∧ (s.toList == [45]) = false ∧ (s.toList == [95]) = false ∧ (s.toList == [48]) = false ∧ (s.toList == [94]) = true ∧ (s.toList == [36]) = false ∧ (s.toList == [124]) = false ∧ (s.toList == [71]) = false ∧ (s.toList == [103, 103]) = false := kn_rules s 12 h
  clear h
  go_enter Try.func20, Try.ntmps20
  go_wp2
  go_ret
  exact ⟨rfl, rfl⟩
set_option maxHeartbeats 400000 in
theorem known_13 (s : ByteArray) (w : World) (h : kn s = 13) : Calls Try.prog 20 #[.string s] w fun e w' => e = .returned (.bool true) ∧ w' = w := by
  obtain ⟨q1, q2, q3, q4, q5, q6, q7, q8, q9, q10, q11, q12, q13, q14, q15, q16⟩ : (s.toList == [104]) = false ∧ (s.toList == [108]) = false ∧ (s.toList == [32]) = false ∧ (s.toList == [8]) = false ∧ (s.toList == [106]) = false ∧ (s.toList == [107]) = false ∧ (s.toList == [43]) = false ∧ (s.toList == [13]) = false ∧ (s.toList == [45]) = false ∧ (s.toList == [95]) = false ∧ (s.toList == [48]) = false ∧ (s.toList == [94]) = false ∧ (s.toList == [36]) = true ∧ (s.toList == [124]) = false ∧ (s.toList == [71]) = false ∧ (s.toList == [103, 103]) = false := kn_rules s 13 h
  clear h
  go_enter Try.func20, Try.ntmps20
  go_wp2
  go_ret
  exact ⟨rfl, rfl⟩
set_option maxHeartbeats 400000 in
theorem known_14 (s : ByteArray) (w : World) (h : kn s = 14) : Calls Try.prog 20 #[.string s] w fun e w' => e = .returned (.bool true) ∧ w' = w := by
  obtain ⟨q1, q2, q3, q4, q5, q6, q7, q8, q9, q10, q11, q12, q13, q14, q15, q16⟩ : (s.toList == [104]) = false ∧ (s.toList == [108]) = false ∧ (s.toList == [32]) = false ∧ (s.toList == [8]) = false ∧ (s.toList == [106]) = false ∧ (s.toList == [107]) = false ∧ (s.toList == [43]) = false ∧ (s.toList == [13]) = false ∧ (s.toList == [45]) = false ∧ (s.toList == [95]) = false ∧ (s.toList == [48]) = false ∧ (s.toList == [94]) = false ∧ (s.toList == [36]) = false ∧ (s.toList == [124]) = true ∧ (s.toList == [71]) = false ∧ (s.toList == [103, 103]) = false := kn_rules s 14 h
  clear h
  go_enter Try.func20, Try.ntmps20
  go_wp2
  go_ret
  exact ⟨rfl, rfl⟩
set_option maxHeartbeats 400000 in
theorem known_15 (s : ByteArray) (w : World) (h : kn s = 15) : Calls Try.prog 20 #[.string s] w fun e w' => e = .returned (.bool true) ∧ w' = w := by
  obtain ⟨q1, q2, q3, q4, q5, q6, q7, q8, q9, q10, q11, q12, q13, q14, q15, q16⟩ : (s.toList == [104]) = false ∧ (s.toList == [108]) = false ∧ (s.toList == [32]) = false ∧ (s.toList == [8]) = false ∧ (s.toList == [106]) = false ∧ (s.toList == [107]) = false ∧ (s.toList == [43]) = false ∧ (s.toList == [13]) = false ∧ (s.toList == [45]) = false ∧ (s.toList == [95]) = false ∧ (s.toList == [48]) = false ∧ (s.toList == [94]) = false ∧ (s.toList == [36]) = false ∧ (s.toList == [124]) = false ∧ (s.toList == [71]) = true ∧ (s.toList == [103, 103]) = false := kn_rules s 15 h
  clear h
  go_enter Try.func20, Try.ntmps20
  go_wp2
  go_ret
  exact ⟨rfl, rfl⟩
set_option maxHeartbeats 400000 in
theorem known_16 (s : ByteArray) (w : World) (h : kn s = 16) : Calls Try.prog 20 #[.string s] w fun e w' => e = .returned (.bool true) ∧ w' = w := by
  obtain ⟨q1, q2, q3, q4, q5, q6, q7, q8, q9, q10, q11, q12, q13, q14, q15, q16⟩ : (s.toList == [104]) = false ∧ (s.toList == [108]) = false ∧ (s.toList == [32]) = false ∧ (s.toList == [8]) = false ∧ (s.toList == [106]) = false ∧ (s.toList == [107]) = false ∧ (s.toList == [43]) = false ∧ (s.toList == [13]) = false ∧ (s.toList == [45]) = false ∧ (s.toList == [95]) = false ∧ (s.toList == [48]) = false ∧ (s.toList == [94]) = false ∧ (s.toList == [36]) = false ∧ (s.toList == [124]) = false ∧ (s.toList == [71]) = false ∧ (s.toList == [103, 103]) = true := kn_rules s 16 h
  clear h
  go_enter Try.func20, Try.ntmps20
  go_wp2
  go_ret
  exact ⟨rfl, rfl⟩
theorem known_any (s : ByteArray) (w : World) : Calls Try.prog 20 #[.string s] w fun e w' => e = .returned (.bool (decide (kn s ≠ 0))) ∧ w' = w := by
  refine kn_cases (P := fun k => kn s = k → Calls Try.prog 20 #[.string s] w fun e w' => e = .returned (.bool (decide (k ≠ 0))) ∧ w' = w) (kn s) (kn_le s) ?_ ?_ ?_ ?_ ?_ ?_ ?_ ?_ ?_ ?_ ?_ ?_ ?_ ?_ ?_ ?_ ?_ rfl
  · exact fun h => known_0 s w h
  · exact fun h => known_1 s w h
  · exact fun h => known_2 s w h
  · exact fun h => known_3 s w h
  · exact fun h => known_4 s w h
  · exact fun h => known_5 s w h
  · exact fun h => known_6 s w h
  · exact fun h => known_7 s w h
  · exact fun h => known_8 s w h
  · exact fun h => known_9 s w h
  · exact fun h => known_10 s w h
  · exact fun h => known_11 s w h
  · exact fun h => known_12 s w h
  · exact fun h => known_13 s w h
  · exact fun h => known_14 s w h
  · exact fun h => known_15 s w h
  · exact fun h => known_16 s w h

set_option maxHeartbeats 1000000 in
theorem rcol_no (ao : Option Addr) (n c : Nat) (p L want : Int) (l : List UInt8) (w : World) (h : L < 0 ∨ (nl l : Int) < L) (HT : Hid (Tx w ao n c l)) :
    Calls Try.prog 23 #[.slice ao n c, .int .i64 p, .int .i64 L, .int .i64 want, .int .i64 (nl l)] w fun e w' => e = .returned (.tuple #[.agg #[.int .i64 0, .int .i64 0, .int .i64 0], .int .i64 0, .int .i64 70]) ∧ Below w.heap.size w w' := by
  have _hu := HT
  by_cases h0 : L < 0
  · go_enter Try.func23, Try.ntmps23
    go_wp2
    exact bodyPost_ret (v := .tuple #[.agg #[.int .i64 0, .int .i64 0, .int .i64 0], .int .i64 0, .int .i64 70]) (by simp [results, Try.results23, go_sem]) rfl ⟨rfl, bAlloc (Below.refl _ _) _⟩
  · have h1 : (nl l : Int) < L := by omega
    go_enter Try.func23, Try.ntmps23
    go_wp2
    exact bodyPost_ret (v := .tuple #[.agg #[.int .i64 0, .int .i64 0, .int .i64 0], .int .i64 0, .int .i64 70]) (by simp [results, Try.results23, go_sem]) rfl ⟨rfl, bAlloc (Below.refl _ _) _⟩
set_option maxHeartbeats 1000000 in
theorem rcol_yes (ao : Option Addr) (n c : Nat) (p L want : Int) (q : Nat) (l : List UInt8) (w : World) (h0 : 0 ≤ L) (h1 : L ≤ (nl l : Int)) (hw1 : -1 ≤ want) (hw2 : want ≤ 9223372036854775807) (hq : Hid (lnAt l L want = some q)) (HT : Hid (Tx w ao n c l)) :
    Calls Try.prog 23 #[.slice ao n c, .int .i64 p, .int .i64 L, .int .i64 want, .int .i64 (nl l)] w fun e w' => e = .returned (.tuple #[.agg #[.int .i64 p, .int .i64 q, .int .i64 3], .int .i64 want, .int .i64 0]) ∧ Below w.heap.size w w' := by
  have hbig : (n : Int) ≤ 140737488355328 := by have := HT.out.big; omega
  have hnl : (nl l : Int) ≤ (n : Int) := by have := nl_le l; have := HT.out.len; omega
  have T1 := Hid.mk' (fun x => Hid.mk' (HT.out.keep (bAlloc (Below.refl _ _) x)))
  have E := Hid.mk' (show pr (aAt l L want) = .returned (.tuple #[.int .i64 q, .int .i64 0]) by rw [pr_at _ _ _ hw1, hq.out]; rfl)
  go_enter Try.func23, Try.ntmps23
  go_wp2_with fail
  refine (refAt_any ao n c L want l _ (by omega) hw2 (T1.out _)).mono ?_
  rintro e w9 ⟨rfl, hw⟩
  have hqq := hw.symm
  subst hqq
  clear hw
  rw [E.out]
  go_wp2
  exact bodyPost_ret (v := .tuple #[.agg #[.int .i64 p, .int .i64 q, .int .i64 3], .int .i64 want, .int .i64 0]) (by simp [results, Try.results23, go_sem]) rfl ⟨rfl, bAlloc (Below.refl _ _) _⟩
set_option maxHeartbeats 1000000 in
theorem rfst_no (ao : Option Addr) (n c : Nat) (p L : Int) (l : List UInt8) (w : World) (h : L < 0 ∨ (nl l : Int) < L) (HT : Hid (Tx w ao n c l)) :
    Calls Try.prog 24 #[.slice ao n c, .int .i64 p, .int .i64 L, .int .i64 (nl l)] w fun e w' => e = .returned (.tuple #[.agg #[.int .i64 0, .int .i64 0, .int .i64 0], .int .i64 0, .int .i64 70]) ∧ Below w.heap.size w w' := by
  have _hu := HT
  by_cases h0 : L < 0
  · go_enter Try.func24, Try.ntmps24
    go_wp2
    exact bodyPost_ret (v := .tuple #[.agg #[.int .i64 0, .int .i64 0, .int .i64 0], .int .i64 0, .int .i64 70]) (by simp [results, Try.results24, go_sem]) rfl ⟨rfl, bAlloc (Below.refl _ _) _⟩
  · have h1 : (nl l : Int) < L := by omega
    go_enter Try.func24, Try.ntmps24
    go_wp2
    exact bodyPost_ret (v := .tuple #[.agg #[.int .i64 0, .int .i64 0, .int .i64 0], .int .i64 0, .int .i64 70]) (by simp [results, Try.results24, go_sem]) rfl ⟨rfl, bAlloc (Below.refl _ _) _⟩
theorem rcolumn_is {ao : Option Addr} {n c k : Nat} {l : List UInt8} {w : World} (hk : k ≤ n) (HT : Hid (Tx w ao n c l)) :
    Calls Try.prog 39 #[.slice ao n c, .int .i64 k] w fun e w' => e = .returned (.tuple #[.int .i64 ((k - bg l k : Nat) : Int), .int .i64 0]) ∧ w' = w := by
  have := refColumn_any ao n c k l w HT
  have e : pr (aCol l (k : Int)) = .returned (.tuple #[.int .i64 ((k - bg l k : Nat) : Int), .int .i64 0]) := by
    unfold pr aCol ans plB; rw [decide_eq_true (by have := HT.out.len; omega)]; rfl
  rwa [e] at this
set_option maxHeartbeats 1000000 in
theorem rfst_yes (ao : Option Addr) (n c : Nat) (p L : Int) (q : Nat) (l : List UInt8) (w : World) (h0 : 0 ≤ L) (h1 : L ≤ (nl l : Int)) (hq : Hid (lnFirst l L = some q)) (HT : Hid (Tx w ao n c l)) :
    Calls Try.prog 24 #[.slice ao n c, .int .i64 p, .int .i64 L, .int .i64 (nl l)] w fun e w' => e = .returned (.tuple #[.agg #[.int .i64 p, .int .i64 q, .int .i64 3], .int .i64 ((q - bg l q : Nat) : Int), .int .i64 0]) ∧ Below w.heap.size w w' := by
  have hbig : (n : Int) ≤ 140737488355328 := by have := HT.out.big; omega
  have hnl : (nl l : Int) ≤ (n : Int) := by have := nl_le l; have := HT.out.len; omega
  have T1 := Hid.mk' (fun x => Hid.mk' (HT.out.keep (bAlloc (Below.refl _ _) x)))
  have E := Hid.mk' (show pr (aFirst l L) = .returned (.tuple #[.int .i64 q, .int .i64 0]) by rw [pr_first, hq.out]; rfl)
  have hqn : q ≤ n := by
    obtain ⟨a1, a2, a3⟩ := lnFirst_some hq.out
    rw [← HT.out.len]; exact (in_line (by omega) a3).1
  go_enter Try.func24, Try.ntmps24
  go_wp2_with fail
  refine (refFirst_any ao n c L l _ (by omega) (T1.out _)).mono ?_
  rintro e w9 ⟨rfl, hw⟩
  have hqq := hw.symm
  subst hqq
  clear hw
  rw [E.out]
  go_wp2_with fail
  refine (rcolumn_is hqn (T1.out _)).mono ?_
  rintro e w9 ⟨rfl, hw⟩
  have hqq := hw.symm
  subst hqq
  clear hw
  go_wp2
  exact bodyPost_ret (v := .tuple #[.agg #[.int .i64 p, .int .i64 q, .int .i64 3], .int .i64 ((q - bg l q : Nat) : Int), .int .i64 0]) (by simp [results, Try.results24, go_sem]) rfl ⟨rfl, bAlloc (Below.refl _ _) _⟩

theorem info3 : (Try.prog.info? 3).map (fun i => (i.zero, i.size, i.bytes)) = some (some (.int .i64 0), 1, 8) := by kernel_rfl
/-- numbers as cells -/
def iv (Z : List Nat) : List Value := Z.map fun (k : Nat) => Value.int .i64 (k : Int)
theorem iv_length (Z : List Nat) : (iv Z).length = Z.length := by simp [iv]
theorem iv_snoc (Z : List Nat) (k : Nat) : iv (Z ++ [k]) = iv Z ++ [.int .i64 (k : Int)] := by simp [iv]
/-- the last number of a list, p where there is none -/
def lst (p : Nat) (Z : List Nat) : Nat := Z.getLast?.getD p
theorem lst_snoc (p : Nat) (Z : List Nat) (k : Nat) : lst p (Z ++ [k]) = k := by simp [lst]
theorem lst_nil (p : Nat) : lst p [] = p := rfl
theorem rrest_is {ao : Option Addr} {n c k : Nat} {l : List UInt8} {w : World} (hk : k ≤ n) (HT : Hid (Tx w ao n c l)) :
    Calls Try.prog 54 #[.slice ao n c, .int .i64 k] w fun e w' => e = .returned (.int .i64 (rs l k)) ∧ w' = w := by
  have hb := HT.out.big
  have := refRest_any ao n c (k : Int) l w (by omega) (by omega) HT
  rwa [cl_nat (by rw [HT.out.len]; exact hk)] at this

set_option maxHeartbeats 2000000 in
theorem rright_any (ao : Option Addr) (n c p N : Nat) (l : List UInt8) (w : World) (hp : p ≤ n) (hN : (N : Int) ≤ 9999) (HT : Hid (Tx w ao n c l)) :
    Calls Try.prog 41 #[.slice ao n c, .int .i64 p, .int .i64 N] w fun e w' => ∃ (v : Value) (Z : List Nat), e = .returned v ∧ w'.ownsRow w.heap.size 3 1 v Z.length (iv Z) ∧ onwP l p N = lst p Z ∧ Z.length ≤ N ∧ Below w.heap.size w w' := by
  have hbig : (n : Int) ≤ 140737488355328 := by have := HT.out.big; omega
  have hpn : (p : Int) ≤ (n : Int) := by omega
  have hlen := Hid.mk' HT.out.len
  obtain ⟨i3, hi3, hz3, hs3, hb3⟩ := info_parts info3
  go_enter Try.func41, Try.ntmps41
  go_wp2_with fail
  go_loopw [7, 8] (fun u v wr => ∃ (q : Nat) (Z : List Nat), v = .int .i64 q ∧ q ≤ n + 1 ∧ p + 1 ≤ q ∧ Z.length ≤ N ∧ onwP l p N = onw l (n + 1 - q) q (N - Z.length) (lst p Z) ∧ wr.ownsRow w.heap.size 3 1 u Z.length (iv Z) ∧ Below w.heap.size w wr) (fun _ v _ => n + 1 - (intOf v).toNat)
  case atStart =>
    refine ⟨p + 1, [], by go_num, by omega, by omega, by simp, ?_, World.ownsRow_nil _ _ _ _, Below.refl _ _⟩
    unfold onwP; rw [hlen.out, show n + 1 - (p + 1) = n - p from by omega]; rfl
  case round =>
    obtain ⟨q, Z, rfl, hq, hpq, hZ, ho, hO, hB⟩ := hrel
    have HO := Hid.mk' hO
    have HB := Hid.mk' hB
    have HE := Hid.mk' ho
    clear hO hB ho
    have TR := Hid.mk' (HT.out.keep HB.out)
    obtain ⟨ax, cx, hu⟩ := own_shape HO.out
    subst hu
    have hq0 : (0 : Int) ≤ (q : Int) := by omega
    have hq1 : (q : Int) ≤ 140737488355329 := by omega
    have hZ' : (Z.length : Int) ≤ (N : Int) := by omega
    by_cases hgo : q ≤ n ∧ Z.length < N
    · obtain ⟨hqn, hZN⟩ := hgo
      have hqn' : (q : Int) ≤ (n : Int) := by omega
      have hZN' : (Z.length : Int) < (N : Int) := by omega
      cases hs : stp l q with
      | true =>
        have HY : Hid (onwP l p N = onw l (n + 1 - (q + 1)) (q + 1) (N - (Z ++ [q]).length) (lst p (Z ++ [q]))) := by
          unfold Hid
          rw [HE.out, show n + 1 - q = (n + 1 - (q + 1)) + 1 from by omega, onw_yes hs (by omega), lst_snoc]
          congr 1
          simp; omega
        have hzl : (Z ++ [q]).length ≤ N := by simp; omega
        cases hr : rst l q with
        | true =>
          have hr' : ((rs l q : Int) == (q : Int)) = true := by rw [rst_eq]; exact hr
          have hr2 : (rs l q == q) = true := by unfold rst at hr; simpa using hr
          clear hs hr
          go_wp2_with fail
          refine (rrest_is hqn TR).mono ?_
          rintro e w9 ⟨rfl, hw⟩
          have hqq := hw.symm
          subst hqq
          clear hw
          go_wp2_with (at_builtin; refine append_srv rfl (.tmp 36) (.tmp 38) 59 rfl w.heap.size 3 i3 (.int .i64 0) 1 8 Try.underlying59 hi3 hz3 hs3 hb3 rfl (by decide) (.slice ax Z.length cx) Z.length (iv Z) rfl (HO.out.alloc _) (.slice (some ⟨wr.heap.size, 0, none⟩) 1 1) 1 [.int .i64 (q : Int)] rfl (.inr ⟨⟨wr.heap.size, 0, none⟩, 1, rfl, fun j t hj => lit_cells wr _ 3 j t hj⟩) rfl ?r1 ?r2 ?r3 ?r4 ?_)
          case r1 => intro u hu; simp at hu; subst hu; rfl
          case r2 => unfold maxLen; omega
          case r3 => omega
          case r4 => have := HB.out.size; simp; omega
          intro v2 w3 hown2 hgrow2 hfr2
          have B3 : Hid (Below w.heap.size w w3) := (bAlloc HB.out _).grown hgrow2 (by have := HB.out.size; simp; omega) (fun k hk => (HO.out.lt k hk).1)
          rw [← iv_snoc] at hown2
          have O3 : Hid (w3.ownsRow w.heap.size 3 1 v2 (Z ++ [q]).length (iv (Z ++ [q]))) := by unfold Hid; simpa using hown2
          clear hown2 hgrow2 hfr2
          go_wp2
          go_roundw
          case rel => exact ⟨q + 1, Z ++ [q], by go_num, by omega, by omega, hzl, HY.out, O3.out, B3.out⟩
          case measure => first | (simp [intOf]; done) | (simp [intOf]; omega)
        | false =>
          have hqe : q = n := by
            unfold stp at hs
            unfold rst at hr
            rw [hr, Bool.or_false] at hs
            have := of_decide_eq_true hs
            rw [hlen.out] at this; exact this
          have hr' : ((rs l q : Int) == (q : Int)) = false := by rw [rst_eq]; exact hr
          have hr2 : (rs l q == q) = false := by unfold rst at hr; simpa using hr
          have hqe' : ((q : Int) == (n : Int)) = true := by simp; omega
          clear hs hr hqe
          go_wp2_with fail
          refine (rrest_is hqn TR).mono ?_
          rintro e w9 ⟨rfl, hw⟩
          have hqq := hw.symm
          subst hqq
          clear hw
          go_wp2_with (at_builtin; refine append_srv rfl (.tmp 36) (.tmp 38) 59 rfl w.heap.size 3 i3 (.int .i64 0) 1 8 Try.underlying59 hi3 hz3 hs3 hb3 rfl (by decide) (.slice ax Z.length cx) Z.length (iv Z) rfl (HO.out.alloc _) (.slice (some ⟨wr.heap.size, 0, none⟩) 1 1) 1 [.int .i64 (q : Int)] rfl (.inr ⟨⟨wr.heap.size, 0, none⟩, 1, rfl, fun j t hj => lit_cells wr _ 3 j t hj⟩) rfl ?r1 ?r2 ?r3 ?r4 ?_)
          case r1 => intro u hu; simp at hu; subst hu; rfl
          case r2 => unfold maxLen; omega
          case r3 => omega
          case r4 => have := HB.out.size; simp; omega
          intro v2 w3 hown2 hgrow2 hfr2
          have B3 : Hid (Below w.heap.size w w3) := (bAlloc HB.out _).grown hgrow2 (by have := HB.out.size; simp; omega) (fun k hk => (HO.out.lt k hk).1)
          rw [← iv_snoc] at hown2
          have O3 : Hid (w3.ownsRow w.heap.size 3 1 v2 (Z ++ [q]).length (iv (Z ++ [q]))) := by unfold Hid; simpa using hown2
          clear hown2 hgrow2 hfr2
          go_wp2
          go_roundw
          case rel => exact ⟨q + 1, Z ++ [q], by go_num, by omega, by omega, hzl, HY.out, O3.out, B3.out⟩
          case measure => first | (simp [intOf]; done) | (simp [intOf]; omega)
      | false =>
        have HY : Hid (onwP l p N = onw l (n + 1 - (q + 1)) (q + 1) (N - Z.length) (lst p Z)) := by
          unfold Hid
          rw [HE.out, show n + 1 - q = (n + 1 - (q + 1)) + 1 from by omega, onw_no hs (by omega)]
        have hs2 : decide (q = l.length) = false ∧ decide (rs l q = q) = false := by unfold stp at hs; simpa using hs
        have hr' : ((rs l q : Int) == (q : Int)) = false := by rw [rst_eq]; exact hs2.2
        have hr2 : (rs l q == q) = false := by simpa using hs2.2
        have hqe' : ((q : Int) == (n : Int)) = false := by have := of_decide_eq_false hs2.1; rw [hlen.out] at this; simp; omega
        clear hs hs2
        go_wp2_with fail
        refine (rrest_is hqn TR).mono ?_
        rintro e w9 ⟨rfl, hw⟩
        have hqq := hw.symm
        subst hqq
        clear hw
        go_wp2
        go_roundw
        case rel => exact ⟨q + 1, Z, by go_num, by omega, by omega, hZ, HY.out, HO.out, HB.out⟩
        case measure => first | (simp [intOf]; done) | (simp [intOf]; omega)
    · have HF : Hid (onwP l p N = lst p Z) := by
        unfold Hid
        rw [HE.out]
        by_cases hm : N - Z.length = 0
        · rw [hm, onw_stop]
        · rw [show n + 1 - q = 0 from by omega]; rfl
      by_cases hqn : q ≤ n
      · have hqn' : (q : Int) ≤ (n : Int) := by omega
        have hzz : ¬ ((Z.length : Int) < (N : Int)) := by omega
        go_wp2
        go_ret
        first | exact ⟨_, Z, rfl, HO.out, HF.out, hZ, HB.out⟩ | exact ⟨_, rfl, Z, HO.out, HF.out, hZ, HB.out⟩
      · have hqn' : (n : Int) < (q : Int) := by omega
        go_wp2
        go_ret
        first | exact ⟨_, Z, rfl, HO.out, HF.out, hZ, HB.out⟩ | exact ⟨_, rfl, Z, HO.out, HF.out, hZ, HB.out⟩

set_option maxHeartbeats 2000000 in
theorem rleft_any (ao : Option Addr) (n c p N : Nat) (l : List UInt8) (w : World) (hp : p ≤ n) (hN : (N : Int) ≤ 9999) (HT : Hid (Tx w ao n c l)) :
    Calls Try.prog 42 #[.slice ao n c, .int .i64 p, .int .i64 N] w fun e w' => ∃ (v : Value) (Z : List Nat), e = .returned v ∧ w'.ownsRow w.heap.size 3 1 v Z.length (iv Z) ∧ bkwP l p N = lst p Z ∧ Z.length ≤ N ∧ Below w.heap.size w w' := by
  have hbig : (n : Int) ≤ 140737488355328 := by have := HT.out.big; omega
  have hpn : (p : Int) ≤ (n : Int) := by omega
  have hp0 : (0 : Int) ≤ (p : Int) := by omega
  obtain ⟨i3, hi3, hz3, hs3, hb3⟩ := info_parts info3
  go_enter Try.func42, Try.ntmps42
  go_wp2_with fail
  go_loopw [7, 8] (fun u v wr => ∃ (q : Nat) (Z : List Nat), v = .int .i64 ((q : Int) - 1) ∧ q ≤ p ∧ Z.length ≤ N ∧ bkwP l p N = bkw l q (N - Z.length) (lst p Z) ∧ wr.ownsRow w.heap.size 3 1 u Z.length (iv Z) ∧ Below w.heap.size w wr) (fun _ v _ => (intOf v + 1).toNat)
  case atStart =>
    exact ⟨p, [], rfl, by omega, by simp, rfl, World.ownsRow_nil _ _ _ _, Below.refl _ _⟩
  case round =>
    obtain ⟨q, Z, rfl, hq, hZ, ho, hO, hB⟩ := hrel
    have HO := Hid.mk' hO
    have HB := Hid.mk' hB
    have HE := Hid.mk' ho
    clear hO hB ho
    have TR := Hid.mk' (HT.out.keep HB.out)
    obtain ⟨ax, cx, hu⟩ := own_shape HO.out
    subst hu
    have hZ' : (Z.length : Int) ≤ (N : Int) := by omega
    by_cases hgo : 0 < q ∧ Z.length < N
    · obtain ⟨hqn, hZN⟩ := hgo
      obtain ⟨j, rfl⟩ : ∃ j, q = j + 1 := ⟨q - 1, by omega⟩
      rw [show ((j + 1 : Nat) : Int) - 1 = (j : Int) from by omega]
      have hj0 : (0 : Int) ≤ (j : Int) := by omega
      have hj1 : (j : Int) ≤ 140737488355329 := by omega
      have hjn : j ≤ n := by omega
      have hZN' : (Z.length : Int) < (N : Int) := by omega
      cases hr : rst l j with
      | true =>
        have HY : Hid (bkwP l p N = bkw l j (N - (Z ++ [j]).length) (lst p (Z ++ [j]))) := by
          unfold Hid
          rw [HE.out, bkw_yes hr (by omega), lst_snoc]
          congr 1
          simp; omega
        have hzl : (Z ++ [j]).length ≤ N := by simp; omega
        have hr' : ((rs l j : Int) == (j : Int)) = true := by rw [rst_eq]; exact hr
        have hr2 : (rs l j == j) = true := by unfold rst at hr; simpa using hr
        clear hr
        go_wp2_with fail
        refine (rrest_is hjn TR).mono ?_
        rintro e w9 ⟨rfl, hw⟩
        have hqq := hw.symm
        subst hqq
        clear hw
        go_wp2_with (at_builtin; refine append_srv rfl (.tmp 28) (.tmp 30) 59 rfl w.heap.size 3 i3 (.int .i64 0) 1 8 Try.underlying59 hi3 hz3 hs3 hb3 rfl (by decide) (.slice ax Z.length cx) Z.length (iv Z) rfl (HO.out.alloc _) (.slice (some ⟨wr.heap.size, 0, none⟩) 1 1) 1 [.int .i64 (j : Int)] rfl (.inr ⟨⟨wr.heap.size, 0, none⟩, 1, rfl, fun j t hj => lit_cells wr _ 3 j t hj⟩) rfl ?r1 ?r2 ?r3 ?r4 ?_)
        case r1 => intro u hu; simp at hu; subst hu; rfl
        case r2 => unfold maxLen; omega
        case r3 => omega
        case r4 => have := HB.out.size; simp; omega
        intro v2 w3 hown2 hgrow2 hfr2
        have B3 : Hid (Below w.heap.size w w3) := (bAlloc HB.out _).grown hgrow2 (by have := HB.out.size; simp; omega) (fun k hk => (HO.out.lt k hk).1)
        rw [← iv_snoc] at hown2
        have O3 : Hid (w3.ownsRow w.heap.size 3 1 v2 (Z ++ [j]).length (iv (Z ++ [j]))) := by unfold Hid; simpa using hown2
        clear hown2 hgrow2 hfr2
        go_wp2
        go_roundw
        case rel => exact ⟨j, Z ++ [j], by go_num, by omega, hzl, HY.out, O3.out, B3.out⟩
        case measure => first | (simp [intOf]; done) | (simp [intOf]; omega)
      | false =>
        have HY : Hid (bkwP l p N = bkw l j (N - Z.length) (lst p Z)) := by
          unfold Hid
          rw [HE.out, bkw_no hr (by omega)]
        have hr' : ((rs l j : Int) == (j : Int)) = false := by rw [rst_eq]; exact hr
        have hr2 : (rs l j == j) = false := by unfold rst at hr; simpa using hr
        clear hr
        go_wp2_with fail
        refine (rrest_is hjn TR).mono ?_
        rintro e w9 ⟨rfl, hw⟩
        have hqq := hw.symm
        subst hqq
        clear hw
        go_wp2
        go_roundw
        case rel => exact ⟨j, Z, by go_num, by omega, hZ, HY.out, HO.out, HB.out⟩
        case measure => first | (simp [intOf]; done) | (simp [intOf]; omega)
    · have HF : Hid (bkwP l p N = lst p Z) := by
        unfold Hid
        rw [HE.out]
        by_cases hm : N - Z.length = 0
        · rw [hm, bkw_stop]
        · rw [show q = 0 from by omega]; rfl
      by_cases hqn : 0 < q
      · have hqn' : (0 : Int) ≤ (q : Int) - 1 := by omega
        have hzz : ¬ ((Z.length : Int) < (N : Int)) := by omega
        go_wp2
        go_ret
        first | exact ⟨_, Z, rfl, HO.out, HF.out, hZ, HB.out⟩ | exact ⟨_, rfl, Z, HO.out, HF.out, hZ, HB.out⟩
      · obtain rfl : q = 0 := by omega
        go_wp2
        go_ret
        first | exact ⟨_, Z, rfl, HO.out, HF.out, hZ, HB.out⟩ | exact ⟨_, rfl, Z, HO.out, HF.out, hZ, HB.out⟩
end Go.Proofs.Ytbkhbnmihnomaaa
