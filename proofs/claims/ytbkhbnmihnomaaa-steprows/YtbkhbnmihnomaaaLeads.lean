/- The contracts of step's kindOf, leads and wanted, key by key. -/
import Derived.Test.YtbkhbnmihnomaaaStp
namespace Go.Proofs.Ytbkhbnmihnomaaa
open Go.RowKit

set_option maxHeartbeats 400000 in
theorem kind_0 (s : ByteArray) (w : World) (h : kn s = 0) : Calls Try.prog 28 #[.string s] w fun e w' => e = .returned (.int .i64 0) ∧ w' = w := by
  obtain ⟨q1, q2, q3, q4, q5, q6, q7, q8, q9, q10, q11, q12, q13, q14, q15, q16⟩ : (s.toList == [104]) = false ∧ (s.toList == [108]) = false ∧ (s.toList == [32]) = false ∧ (s.toList == [8]) = false ∧ (s.toList == [106]) = false ∧ (s.toList == [107]) = false ∧ (s.toList == [43]) = false ∧ (s.toList == [13]) = false ∧ (s.toList == [45]) = false ∧ (s.toList == [95]) = false ∧ (s.toList == [48]) = false ∧ (s.toList == [94]) = false ∧ (s.toList == [36]) = false ∧ (s.toList == [124]) = false ∧ (s.toList == [71]) = false ∧ (s.toList == [103, 103]) = false := kn_rules s 0 h
  clear h
  go_enter Try.func28, Try.ntmps28
  go_wp2
  go_ret
  exact ⟨rfl, rfl⟩
set_option maxHeartbeats 400000 in
theorem kind_1 (s : ByteArray) (w : World) (h : kn s = 1) : Calls Try.prog 28 #[.string s] w fun e w' => e = .returned (.int .i64 1) ∧ w' = w := by
  obtain ⟨q1, q2, q3, q4, q5, q6, q7, q8, q9, q10, q11, q12, q13, q14, q15, q16⟩ : (s.toList == [104]) = true ∧ (s.toList == [108]) = false ∧ (s.toList == [32]) = false ∧ (s.toList == [8]) = false ∧ (s.toList == [106]) = false ∧ (s.toList == [107]) = false ∧ (s.toList == [43]) = false ∧ (s.toList == [13]) = false ∧ (s.toList == [45]) = false ∧ (s.toList == [95]) = false ∧ (s.toList == [48]) = false ∧ (s.toList == [94]) = false ∧ (s.toList == [36]) = false ∧ (s.toList == [124]) = false ∧ (s.toList == [71]) = false ∧ (s.toList == [103, 103]) = false := kn_rules s 1 h
  clear h
  go_enter Try.func28, Try.ntmps28
  go_wp2
  go_ret
  exact ⟨rfl, rfl⟩
set_option maxHeartbeats 400000 in
theorem kind_2 (s : ByteArray) (w : World) (h : kn s = 2) : Calls Try.prog 28 #[.string s] w fun e w' => e = .returned (.int .i64 1) ∧ w' = w := by
  obtain ⟨q1, q2, q3, q4, q5, q6, q7, q8, q9, q10, q11, q12, q13, q14, q15, q16⟩ : (s.toList == [104]) = false ∧ (s.toList == [108]) = true ∧ (s.toList == [32]) = false ∧ (s.toList == [8]) = false ∧ (s.toList == [106]) = false ∧ (s.toList == [107]) = false ∧ (s.toList == [43]) = false ∧ (s.toList == [13]) = false ∧ (s.toList == [45]) = false ∧ (s.toList == [95]) = false ∧ (s.toList == [48]) = false ∧ (s.toList == [94]) = false ∧ (s.toList == [36]) = false ∧ (s.toList == [124]) = false ∧ (s.toList == [71]) = false ∧ (s.toList == [103, 103]) = false := kn_rules s 2 h
  clear h
  go_enter Try.func28, Try.ntmps28
  go_wp2
  go_ret
  exact ⟨rfl, rfl⟩
set_option maxHeartbeats 400000 in
theorem kind_3 (s : ByteArray) (w : World) (h : kn s = 3) : Calls Try.prog 28 #[.string s] w fun e w' => e = .returned (.int .i64 1) ∧ w' = w := by
  obtain ⟨q1, q2, q3, q4, q5, q6, q7, q8, q9, q10, q11, q12, q13, q14, q15, q16⟩ : (s.toList == [104]) = false ∧ (s.toList == [108]) = false ∧ (s.toList == [32]) = true ∧ (s.toList == [8]) = false ∧ (s.toList == [106]) = false ∧ (s.toList == [107]) = false ∧ (s.toList == [43]) = false ∧ (s.toList == [13]) = false ∧ (s.toList == [45]) = false ∧ (s.toList == [95]) = false ∧ (s.toList == [48]) = false ∧ (s.toList == [94]) = false ∧ (s.toList == [36]) = false ∧ (s.toList == [124]) = false ∧ (s.toList == [71]) = false ∧ (s.toList == [103, 103]) = false := kn_rules s 3 h
  clear h
  go_enter Try.func28, Try.ntmps28
  go_wp2
  go_ret
  exact ⟨rfl, rfl⟩
set_option maxHeartbeats 400000 in
theorem kind_4 (s : ByteArray) (w : World) (h : kn s = 4) : Calls Try.prog 28 #[.string s] w fun e w' => e = .returned (.int .i64 1) ∧ w' = w := by
  obtain ⟨q1, q2, q3, q4, q5, q6, q7, q8, q9, q10, q11, q12, q13, q14, q15, q16⟩ : (s.toList == [104]) = false ∧ (s.toList == [108]) = false ∧ (s.toList == [32]) = false ∧ (s.toList == [8]) = true ∧ (s.toList == [106]) = false ∧ (s.toList == [107]) = false ∧ (s.toList == [43]) = false ∧ (s.toList == [13]) = false ∧ (s.toList == [45]) = false ∧ (s.toList == [95]) = false ∧ (s.toList == [48]) = false ∧ (s.toList == [94]) = false ∧ (s.toList == [36]) = false ∧ (s.toList == [124]) = false ∧ (s.toList == [71]) = false ∧ (s.toList == [103, 103]) = false := kn_rules s 4 h
  clear h
  go_enter Try.func28, Try.ntmps28
  go_wp2
  go_ret
  exact ⟨rfl, rfl⟩
set_option maxHeartbeats 400000 in
theorem kind_5 (s : ByteArray) (w : World) (h : kn s = 5) : Calls Try.prog 28 #[.string s] w fun e w' => e = .returned (.int .i64 3) ∧ w' = w := by
  obtain ⟨q1, q2, q3, q4, q5, q6, q7, q8, q9, q10, q11, q12, q13, q14, q15, q16⟩ : (s.toList == [104]) = false ∧ (s.toList == [108]) = false ∧ (s.toList == [32]) = false ∧ (s.toList == [8]) = false ∧ (s.toList == [106]) = true ∧ (s.toList == [107]) = false ∧ (s.toList == [43]) = false ∧ (s.toList == [13]) = false ∧ (s.toList == [45]) = false ∧ (s.toList == [95]) = false ∧ (s.toList == [48]) = false ∧ (s.toList == [94]) = false ∧ (s.toList == [36]) = false ∧ (s.toList == [124]) = false ∧ (s.toList == [71]) = false ∧ (s.toList == [103, 103]) = false := kn_rules s 5 h
  clear h
  go_enter Try.func28, Try.ntmps28
  go_wp2
  go_ret
  exact ⟨rfl, rfl⟩
set_option maxHeartbeats 400000 in
theorem kind_6 (s : ByteArray) (w : World) (h : kn s = 6) : Calls Try.prog 28 #[.string s] w fun e w' => e = .returned (.int .i64 3) ∧ w' = w := by
  obtain ⟨q1, q2, q3, q4, q5, q6, q7, q8, q9, q10, q11, q12, q13, q14, q15, q16⟩ : (s.toList == [104]) = false ∧ (s.toList == [108]) = false ∧ (s.toList == [32]) = false ∧ (s.toList == [8]) = false ∧ (s.toList == [106]) = false ∧ (s.toList == [107]) = true ∧ (s.toList == [43]) = false ∧ (s.toList == [13]) = false ∧ (s.toList == [45]) = false ∧ (s.toList == [95]) = false ∧ (s.toList == [48]) = false ∧ (s.toList == [94]) = false ∧ (s.toList == [36]) = false ∧ (s.toList == [124]) = false ∧ (s.toList == [71]) = false ∧ (s.toList == [103, 103]) = false := kn_rules s 6 h
  clear h
  go_enter Try.func28, Try.ntmps28
  go_wp2
  go_ret
  exact ⟨rfl, rfl⟩
set_option maxHeartbeats 400000 in
theorem kind_7 (s : ByteArray) (w : World) (h : kn s = 7) : Calls Try.prog 28 #[.string s] w fun e w' => e = .returned (.int .i64 3) ∧ w' = w := by
  obtain ⟨q1, q2, q3, q4, q5, q6, q7, q8, q9, q10, q11, q12, q13, q14, q15, q16⟩ : (s.toList == [104]) = false ∧ (s.toList == [108]) = false ∧ (s.toList == [32]) = false ∧ (s.toList == [8]) = false ∧ (s.toList == [106]) = false ∧ (s.toList == [107]) = false ∧ (s.toList == [43]) = true ∧ (s.toList == [13]) = false ∧ (s.toList == [45]) = false ∧ (s.toList == [95]) = false ∧ (s.toList == [48]) = false ∧ (s.toList == [94]) = false ∧ (s.toList == [36]) = false ∧ (s.toList == [124]) = false ∧ (s.toList == [71]) = false ∧ (s.toList == [103, 103]) = false := kn_rules s 7 h
  clear h
  go_enter Try.func28, Try.ntmps28
  go_wp2
  go_ret
  exact ⟨rfl, rfl⟩
set_option maxHeartbeats 400000 in
theorem kind_8 (s : ByteArray) (w : World) (h : kn s = 8) : Calls Try.prog 28 #[.string s] w fun e w' => e = .returned (.int .i64 3) ∧ w' = w := by
  obtain ⟨q1, q2, q3, q4, q5, q6, q7, q8, q9, q10, q11, q12, q13, q14, q15, q16⟩ : (s.toList == [104]) = false ∧ (s.toList == [108]) = false ∧ (s.toList == [32]) = false ∧ (s.toList == [8]) = false ∧ (s.toList == [106]) = false ∧ (s.toList == [107]) = false ∧ (s.toList == [43]) = false ∧ (s.toList == [13]) = true ∧ (s.toList == [45]) = false ∧ (s.toList == [95]) = false ∧ (s.toList == [48]) = false ∧ (s.toList == [94]) = false ∧ (s.toList == [36]) = false ∧ (s.toList == [124]) = false ∧ (s.toList == [71]) = false ∧ (s.toList == [103, 103]) = false := kn_rules s 8 h
  clear h
  go_enter Try.func28, Try.ntmps28
  go_wp2
  go_ret
  exact ⟨rfl, rfl⟩
set_option maxHeartbeats 400000 in
theorem kind_9 (s : ByteArray) (w : World) (h : kn s = 9) : Calls Try.prog 28 #[.string s] w fun e w' => e = .returned (.int .i64 3) ∧ w' = w := by
  obtain ⟨q1, q2, q3, q4, q5, q6, q7, q8, q9, q10, q11, q12, q13, q14, q15, q16⟩ : (s.toList == [104]) = false ∧ (s.toList == [108]) = false ∧ (s.toList == [32]) = false ∧ (s.toList == [8]) = false ∧ (s.toList == [106]) = false ∧ (s.toList == [107]) = false ∧ (s.toList == [43]) = false ∧ (s.toList == [13]) = false ∧ (s.toList == [45]) = true ∧ (s.toList == [95]) = false ∧ (s.toList == [48]) = false ∧ (s.toList == [94]) = false ∧ (s.toList == [36]) = false ∧ (s.toList == [124]) = false ∧ (s.toList == [71]) = false ∧ (s.toList == [103, 103]) = false := kn_rules s 9 h
  clear h
  go_enter Try.func28, Try.ntmps28
  go_wp2
  go_ret
  exact ⟨rfl, rfl⟩
set_option maxHeartbeats 400000 in
theorem kind_10 (s : ByteArray) (w : World) (h : kn s = 10) : Calls Try.prog 28 #[.string s] w fun e w' => e = .returned (.int .i64 3) ∧ w' = w := by
  obtain ⟨q1, q2, q3, q4, q5, q6, q7, q8, q9, q10, q11, q12, q13, q14, q15, q16⟩ : (s.toList == [104]) = false ∧ (s.toList == [108]) = false ∧ (s.toList == [32]) = false ∧ (s.toList == [8]) = false ∧ (s.toList == [106]) = false ∧ (s.toList == [107]) = false ∧ (s.toList == [43]) = false ∧ (s.toList == [13]) = false ∧ (s.toList == [45]) = false ∧ (s.toList == [95]) = true ∧ (s.toList == [48]) = false ∧ (s.toList == [94]) = false ∧ (s.toList == [36]) = false ∧ (s.toList == [124]) = false ∧ (s.toList == [71]) = false ∧ (s.toList == [103, 103]) = false := kn_rules s 10 h
  clear h
  go_enter Try.func28, Try.ntmps28
  go_wp2
  go_ret
  exact ⟨rfl, rfl⟩
set_option maxHeartbeats 400000 in
theorem kind_11 (s : ByteArray) (w : World) (h : kn s = 11) : Calls Try.prog 28 #[.string s] w fun e w' => e = .returned (.int .i64 1) ∧ w' = w := by
  obtain ⟨q1, q2, q3, q4, q5, q6, q7, q8, q9, q10, q11, q12, q13, q14, q15, q16⟩ : (s.toList == [104]) = false ∧ (s.toList == [108]) = false ∧ (s.toList == [32]) = false ∧ (s.toList == [8]) = false ∧ (s.toList == [106]) = false ∧ (s.toList == [107]) = false ∧ (s.toList == [43]) = false ∧ (s.toList == [13]) = false ∧ (s.toList == [45]) = false ∧ (s.toList == [95]) = false ∧ (s.toList == [48]) = true ∧ (s.toList == [94]) = false ∧ (s.toList == [36]) = false ∧ (s.toList == [124]) = false ∧ (s.toList == [71]) = false ∧ (s.toList == [103, 103]) = false := kn_rules s 11 h
  clear h
  go_enter Try.func28, Try.ntmps28
  go_wp2
  go_ret
  exact ⟨rfl, rfl⟩
set_option maxHeartbeats 400000 in
theorem kind_12 (s : ByteArray) (w : World) (h : kn s = 12) : Calls Try.prog 28 #[.string s] w fun e w' => e = .returned (.int .i64 1) ∧ w' = w := by
  obtain ⟨q1, q2, q3, q4, q5, q6, q7, q8, q9, q10, q11, q12, q13, q14, q15, q16⟩ : (s.toList == [104]) = false ∧ (s.toList == [108]) = false ∧ (s.toList == [32]) = false ∧ (s.toList == [8]) = false ∧ (s.toList == [106]) = false ∧ (s.toList == [107]) = false ∧ (s.toList == [43]) = false ∧ (s.toList == [13]) = false ∧ (s.toList == [45]) = false ∧ (s.toList == [95]) = false ∧ (s.toList == [48]) = false ∧ (s.toList == [94]) = true ∧ (s.toList == [36]) = false ∧ (s.toList == [124]) = false ∧ (s.toList == [71]) = false ∧ (s.toList == [103, 103]) = false := kn_rules s 12 h
  clear h
  go_enter Try.func28, Try.ntmps28
  go_wp2
  go_ret
  exact ⟨rfl, rfl⟩
set_option maxHeartbeats 400000 in
theorem kind_13 (s : ByteArray) (w : World) (h : kn s = 13) : Calls Try.prog 28 #[.string s] w fun e w' => e = .returned (.int .i64 1) ∧ w' = w := by
  obtain ⟨q1, q2, q3, q4, q5, q6, q7, q8, q9, q10, q11, q12, q13, q14, q15, q16⟩ : (s.toList == [104]) = false ∧ (s.toList == [108]) = false ∧ (s.toList == [32]) = false ∧ (s.toList == [8]) = false ∧ (s.toList == [106]) = false ∧ (s.toList == [107]) = false ∧ (s.toList == [43]) = false ∧ (s.toList == [13]) = false ∧ (s.toList == [45]) = false ∧ (s.toList == [95]) = false ∧ (s.toList == [48]) = false ∧ (s.toList == [94]) = false ∧ (s.toList == [36]) = true ∧ (s.toList == [124]) = false ∧ (s.toList == [71]) = false ∧ (s.toList == [103, 103]) = false := kn_rules s 13 h
  clear h
  go_enter Try.func28, Try.ntmps28
  go_wp2
  go_ret
  exact ⟨rfl, rfl⟩
set_option maxHeartbeats 400000 in
theorem kind_14 (s : ByteArray) (w : World) (h : kn s = 14) : Calls Try.prog 28 #[.string s] w fun e w' => e = .returned (.int .i64 1) ∧ w' = w := by
  obtain ⟨q1, q2, q3, q4, q5, q6, q7, q8, q9, q10, q11, q12, q13, q14, q15, q16⟩ : (s.toList == [104]) = false ∧ (s.toList == [108]) = false ∧ (s.toList == [32]) = false ∧ (s.toList == [8]) = false ∧ (s.toList == [106]) = false ∧ (s.toList == [107]) = false ∧ (s.toList == [43]) = false ∧ (s.toList == [13]) = false ∧ (s.toList == [45]) = false ∧ (s.toList == [95]) = false ∧ (s.toList == [48]) = false ∧ (s.toList == [94]) = false ∧ (s.toList == [36]) = false ∧ (s.toList == [124]) = true ∧ (s.toList == [71]) = false ∧ (s.toList == [103, 103]) = false := kn_rules s 14 h
  clear h
  go_enter Try.func28, Try.ntmps28
  go_wp2
  go_ret
  exact ⟨rfl, rfl⟩
set_option maxHeartbeats 400000 in
theorem kind_15 (s : ByteArray) (w : World) (h : kn s = 15) : Calls Try.prog 28 #[.string s] w fun e w' => e = .returned (.int .i64 3) ∧ w' = w := by
  obtain ⟨q1, q2, q3, q4, q5, q6, q7, q8, q9, q10, q11, q12, q13, q14, q15, q16⟩ : (s.toList == [104]) = false ∧ (s.toList == [108]) = false ∧ (s.toList == [32]) = false ∧ (s.toList == [8]) = false ∧ (s.toList == [106]) = false ∧ (s.toList == [107]) = false ∧ (s.toList == [43]) = false ∧ (s.toList == [13]) = false ∧ (s.toList == [45]) = false ∧ (s.toList == [95]) = false ∧ (s.toList == [48]) = false ∧ (s.toList == [94]) = false ∧ (s.toList == [36]) = false ∧ (s.toList == [124]) = false ∧ (s.toList == [71]) = true ∧ (s.toList == [103, 103]) = false := kn_rules s 15 h
  clear h
  go_enter Try.func28, Try.ntmps28
  go_wp2
  go_ret
  exact ⟨rfl, rfl⟩
set_option maxHeartbeats 400000 in
theorem kind_16 (s : ByteArray) (w : World) (h : kn s = 16) : Calls Try.prog 28 #[.string s] w fun e w' => e = .returned (.int .i64 3) ∧ w' = w := by
  obtain ⟨q1, q2, q3, q4, q5, q6, q7, q8, q9, q10, q11, q12, q13, q14, q15, q16⟩ : (s.toList == [104]) = false ∧ (s.toList == [108]) = false ∧ (s.toList == [32]) = false ∧ (s.toList == [8]) = false ∧ (s.toList == [106]) = false ∧ (s.toList == [107]) = false ∧ (s.toList == [43]) = false ∧ (s.toList == [13]) = false ∧ (s.toList == [45]) = false ∧ (s.toList == [95]) = false ∧ (s.toList == [48]) = false ∧ (s.toList == [94]) = false ∧ (s.toList == [36]) = false ∧ (s.toList == [124]) = false ∧ (s.toList == [71]) = false ∧ (s.toList == [103, 103]) = true := kn_rules s 16 h
  clear h
  go_enter Try.func28, Try.ntmps28
  go_wp2
  go_ret
  exact ⟨rfl, rfl⟩
theorem kn_cases {P : Nat → Prop} (k : Nat) (h : k ≤ 16) (h0 : P 0) (h1 : P 1) (h2 : P 2) (h3 : P 3) (h4 : P 4) (h5 : P 5) (h6 : P 6) (h7 : P 7) (h8 : P 8) (h9 : P 9) (h10 : P 10) (h11 : P 11) (h12 : P 12) (h13 : P 13) (h14 : P 14) (h15 : P 15) (h16 : P 16) : P k := by
  have : k = 0 ∨ k = 1 ∨ k = 2 ∨ k = 3 ∨ k = 4 ∨ k = 5 ∨ k = 6 ∨ k = 7 ∨ k = 8 ∨ k = 9 ∨ k = 10 ∨ k = 11 ∨ k = 12 ∨ k = 13 ∨ k = 14 ∨ k = 15 ∨ k = 16 := by omega
  rcases this with rfl | rfl | rfl | rfl | rfl | rfl | rfl | rfl | rfl | rfl | rfl | rfl | rfl | rfl | rfl | rfl | rfl
  · exact h0
  · exact h1
  · exact h2
  · exact h3
  · exact h4
  · exact h5
  · exact h6
  · exact h7
  · exact h8
  · exact h9
  · exact h10
  · exact h11
  · exact h12
  · exact h13
  · exact h14
  · exact h15
  · exact h16
theorem kind_any (s : ByteArray) (w : World) : Calls Try.prog 28 #[.string s] w fun e w' => e = .returned (.int .i64 (kd (kn s))) ∧ w' = w := by
  refine kn_cases (P := fun k => kn s = k → Calls Try.prog 28 #[.string s] w fun e w' => e = .returned (.int .i64 (kd k)) ∧ w' = w) (kn s) (kn_le s) ?_ ?_ ?_ ?_ ?_ ?_ ?_ ?_ ?_ ?_ ?_ ?_ ?_ ?_ ?_ ?_ ?_ rfl
  · exact fun h => kind_0 s w h
  · exact fun h => kind_1 s w h
  · exact fun h => kind_2 s w h
  · exact fun h => kind_3 s w h
  · exact fun h => kind_4 s w h
  · exact fun h => kind_5 s w h
  · exact fun h => kind_6 s w h
  · exact fun h => kind_7 s w h
  · exact fun h => kind_8 s w h
  · exact fun h => kind_9 s w h
  · exact fun h => kind_10 s w h
  · exact fun h => kind_11 s w h
  · exact fun h => kind_12 s w h
  · exact fun h => kind_13 s w h
  · exact fun h => kind_14 s w h
  · exact fun h => kind_15 s w h
  · exact fun h => kind_16 s w h
set_option maxHeartbeats 1000000 in
theorem leads_1 (ao : Option Addr) (n c p N : Nat) (want cnt : Int) (l : List UInt8) (s : ByteArray) (w : World) (hp : p ≤ n) (hc : max cnt 1 = (N : Int)) (hN : (N : Int) ≤ 9999) (hc0 : 0 ≤ cnt) (hw1 : -1 ≤ want) (hw2 : want ≤ 9223372036854775807) (HT : Hid (Tx w ao n c l)) (h : kn s = 1) :
    Calls Try.prog 29 #[mo ao n c p (nl (l.take p) : Nat) want cnt, .string s] w fun e w' => (e = prE (tgt l p want N (decide (cnt = 0)) 1) 70) ∧ Below w.heap.size w w' := by
  have _hu := And.intro hp (And.intro hc0 (And.intro hw1 hw2))
  have hbig : (n : Int) ≤ 140737488355328 := by have := HT.out.big; omega
  have hnl : (nl (l.take p) : Int) ≤ 140737488355328 := by have := nl_take_le l p; have := nl_le l; have := HT.out.len; omega
  have hnl0 : (0 : Int) ≤ (nl (l.take p) : Int) := by omega
  have hN1 : (1 : Int) ≤ (N : Int) := by omega
  have T1 := Hid.mk' (fun x y => Hid.mk' (HT.out.keep (bAlloc (bAlloc (Below.refl _ _) x) y)))
  have B1 := Hid.mk' (fun x y => bAlloc (bAlloc (Below.refl w.heap.size w) x) y)
  obtain ⟨q1, q2, q3, q4, q5, q6, q7, q8, q9, q10, q11, q12, q13, q14, q15, q16⟩ : (s.toList == [104]) = true ∧ (s.toList == [108]) = false ∧ (s.toList == [32]) = false ∧ (s.toList == [8]) = false ∧ (s.toList == [106]) = false ∧ (s.toList == [107]) = false ∧ (s.toList == [43]) = false ∧ (s.toList == [13]) = false ∧ (s.toList == [45]) = false ∧ (s.toList == [95]) = false ∧ (s.toList == [48]) = false ∧ (s.toList == [94]) = false ∧ (s.toList == [36]) = false ∧ (s.toList == [124]) = false ∧ (s.toList == [71]) = false ∧ (s.toList == [103, 103]) = false := kn_rules s 1 h
  clear h _hu
  generalize hA : tgt l p want N (decide (cnt = 0)) 1 = A
  have HA := Hid.mk' hA
  clear hA
  go_enter Try.func29, Try.ntmps29
  go_wp2_with (first | (go_at_call 43; refine (steps_any _ _ _ _ _ _).mono ?_; rintro e w9 ⟨rfl, rfl⟩) | fail)
  refine (left_any ao n c p N want cnt l _ hp hc hN (T1.out _ _)).mono ?_
  rintro e w2 ⟨rfl, hb2⟩
  rw [prE_pair]
  go_wp2
  go_ret2
  exact ⟨by rw [← HA.out, prE_pair]; rfl, bT (B1.out _ _) hb2⟩
set_option maxHeartbeats 1000000 in
theorem leads_2 (ao : Option Addr) (n c p N : Nat) (want cnt : Int) (l : List UInt8) (s : ByteArray) (w : World) (hp : p ≤ n) (hc : max cnt 1 = (N : Int)) (hN : (N : Int) ≤ 9999) (hc0 : 0 ≤ cnt) (hw1 : -1 ≤ want) (hw2 : want ≤ 9223372036854775807) (HT : Hid (Tx w ao n c l)) (h : kn s = 2) :
    Calls Try.prog 29 #[mo ao n c p (nl (l.take p) : Nat) want cnt, .string s] w fun e w' => (e = prE (tgt l p want N (decide (cnt = 0)) 2) 70) ∧ Below w.heap.size w w' := by
  have _hu := And.intro hp (And.intro hc0 (And.intro hw1 hw2))
  have hbig : (n : Int) ≤ 140737488355328 := by have := HT.out.big; omega
  have hnl : (nl (l.take p) : Int) ≤ 140737488355328 := by have := nl_take_le l p; have := nl_le l; have := HT.out.len; omega
  have hnl0 : (0 : Int) ≤ (nl (l.take p) : Int) := by omega
  have hN1 : (1 : Int) ≤ (N : Int) := by omega
  have T1 := Hid.mk' (fun x y => Hid.mk' (HT.out.keep (bAlloc (bAlloc (Below.refl _ _) x) y)))
  have B1 := Hid.mk' (fun x y => bAlloc (bAlloc (Below.refl w.heap.size w) x) y)
  obtain ⟨q1, q2, q3, q4, q5, q6, q7, q8, q9, q10, q11, q12, q13, q14, q15, q16⟩ : (s.toList == [104]) = false ∧ (s.toList == [108]) = true ∧ (s.toList == [32]) = false ∧ (s.toList == [8]) = false ∧ (s.toList == [106]) = false ∧ (s.toList == [107]) = false ∧ (s.toList == [43]) = false ∧ (s.toList == [13]) = false ∧ (s.toList == [45]) = false ∧ (s.toList == [95]) = false ∧ (s.toList == [48]) = false ∧ (s.toList == [94]) = false ∧ (s.toList == [36]) = false ∧ (s.toList == [124]) = false ∧ (s.toList == [71]) = false ∧ (s.toList == [103, 103]) = false := kn_rules s 2 h
  clear h _hu
  generalize hA : tgt l p want N (decide (cnt = 0)) 2 = A
  have HA := Hid.mk' hA
  clear hA
  go_enter Try.func29, Try.ntmps29
  go_wp2_with (first | (go_at_call 43; refine (steps_any _ _ _ _ _ _).mono ?_; rintro e w9 ⟨rfl, rfl⟩) | fail)
  refine (right_any ao n c p N want cnt l _ hp hc hN (T1.out _ _)).mono ?_
  rintro e w2 ⟨rfl, hb2⟩
  rw [prE_pair]
  go_wp2
  go_ret2
  exact ⟨by rw [← HA.out, prE_pair]; rfl, bT (B1.out _ _) hb2⟩
set_option maxHeartbeats 1000000 in
theorem leads_3 (ao : Option Addr) (n c p N : Nat) (want cnt : Int) (l : List UInt8) (s : ByteArray) (w : World) (hp : p ≤ n) (hc : max cnt 1 = (N : Int)) (hN : (N : Int) ≤ 9999) (hc0 : 0 ≤ cnt) (hw1 : -1 ≤ want) (hw2 : want ≤ 9223372036854775807) (HT : Hid (Tx w ao n c l)) (h : kn s = 3) :
    Calls Try.prog 29 #[mo ao n c p (nl (l.take p) : Nat) want cnt, .string s] w fun e w' => (e = prE (tgt l p want N (decide (cnt = 0)) 3) 70) ∧ Below w.heap.size w w' := by
  have _hu := And.intro hp (And.intro hc0 (And.intro hw1 hw2))
  have hbig : (n : Int) ≤ 140737488355328 := by have := HT.out.big; omega
  have hnl : (nl (l.take p) : Int) ≤ 140737488355328 := by have := nl_take_le l p; have := nl_le l; have := HT.out.len; omega
  have hnl0 : (0 : Int) ≤ (nl (l.take p) : Int) := by omega
  have hN1 : (1 : Int) ≤ (N : Int) := by omega
  have T1 := Hid.mk' (fun x y => Hid.mk' (HT.out.keep (bAlloc (bAlloc (Below.refl _ _) x) y)))
  have B1 := Hid.mk' (fun x y => bAlloc (bAlloc (Below.refl w.heap.size w) x) y)
  obtain ⟨q1, q2, q3, q4, q5, q6, q7, q8, q9, q10, q11, q12, q13, q14, q15, q16⟩ : (s.toList == [104]) = false ∧ (s.toList == [108]) = false ∧ (s.toList == [32]) = true ∧ (s.toList == [8]) = false ∧ (s.toList == [106]) = false ∧ (s.toList == [107]) = false ∧ (s.toList == [43]) = false ∧ (s.toList == [13]) = false ∧ (s.toList == [45]) = false ∧ (s.toList == [95]) = false ∧ (s.toList == [48]) = false ∧ (s.toList == [94]) = false ∧ (s.toList == [36]) = false ∧ (s.toList == [124]) = false ∧ (s.toList == [71]) = false ∧ (s.toList == [103, 103]) = false := kn_rules s 3 h
  clear h _hu
  generalize hA : tgt l p want N (decide (cnt = 0)) 3 = A
  have HA := Hid.mk' hA
  clear hA
  go_enter Try.func29, Try.ntmps29
  go_wp2_with (first | (go_at_call 43; refine (steps_any _ _ _ _ _ _).mono ?_; rintro e w9 ⟨rfl, rfl⟩) | fail)
  refine (onward_any ao n c p N want cnt l _ hp hc hN (T1.out _ _)).mono ?_
  rintro e w2 ⟨rfl, hb2⟩
  rw [prE_pair]
  go_wp2
  go_ret2
  exact ⟨by rw [← HA.out, prE_pair]; rfl, bT (B1.out _ _) hb2⟩
set_option maxHeartbeats 1000000 in
theorem leads_4 (ao : Option Addr) (n c p N : Nat) (want cnt : Int) (l : List UInt8) (s : ByteArray) (w : World) (hp : p ≤ n) (hc : max cnt 1 = (N : Int)) (hN : (N : Int) ≤ 9999) (hc0 : 0 ≤ cnt) (hw1 : -1 ≤ want) (hw2 : want ≤ 9223372036854775807) (HT : Hid (Tx w ao n c l)) (h : kn s = 4) :
    Calls Try.prog 29 #[mo ao n c p (nl (l.take p) : Nat) want cnt, .string s] w fun e w' => (e = prE (tgt l p want N (decide (cnt = 0)) 4) 70) ∧ Below w.heap.size w w' := by
  have _hu := And.intro hp (And.intro hc0 (And.intro hw1 hw2))
  have hbig : (n : Int) ≤ 140737488355328 := by have := HT.out.big; omega
  have hnl : (nl (l.take p) : Int) ≤ 140737488355328 := by have := nl_take_le l p; have := nl_le l; have := HT.out.len; omega
  have hnl0 : (0 : Int) ≤ (nl (l.take p) : Int) := by omega
  have hN1 : (1 : Int) ≤ (N : Int) := by omega
  have T1 := Hid.mk' (fun x y => Hid.mk' (HT.out.keep (bAlloc (bAlloc (Below.refl _ _) x) y)))
  have B1 := Hid.mk' (fun x y => bAlloc (bAlloc (Below.refl w.heap.size w) x) y)
  obtain ⟨q1, q2, q3, q4, q5, q6, q7, q8, q9, q10, q11, q12, q13, q14, q15, q16⟩ : (s.toList == [104]) = false ∧ (s.toList == [108]) = false ∧ (s.toList == [32]) = false ∧ (s.toList == [8]) = true ∧ (s.toList == [106]) = false ∧ (s.toList == [107]) = false ∧ (s.toList == [43]) = false ∧ (s.toList == [13]) = false ∧ (s.toList == [45]) = false ∧ (s.toList == [95]) = false ∧ (s.toList == [48]) = false ∧ (s.toList == [94]) = false ∧ (s.toList == [36]) = false ∧ (s.toList == [124]) = false ∧ (s.toList == [71]) = false ∧ (s.toList == [103, 103]) = false := kn_rules s 4 h
  clear h _hu
  generalize hA : tgt l p want N (decide (cnt = 0)) 4 = A
  have HA := Hid.mk' hA
  clear hA
  go_enter Try.func29, Try.ntmps29
  go_wp2_with (first | (go_at_call 43; refine (steps_any _ _ _ _ _ _).mono ?_; rintro e w9 ⟨rfl, rfl⟩) | fail)
  refine (backward_any ao n c p N want cnt l _ hp hc hN (T1.out _ _)).mono ?_
  rintro e w2 ⟨rfl, hb2⟩
  rw [prE_pair]
  go_wp2
  go_ret2
  exact ⟨by rw [← HA.out, prE_pair]; rfl, bT (B1.out _ _) hb2⟩
set_option maxHeartbeats 1000000 in
theorem leads_5 (ao : Option Addr) (n c p N : Nat) (want cnt : Int) (l : List UInt8) (s : ByteArray) (w : World) (hp : p ≤ n) (hc : max cnt 1 = (N : Int)) (hN : (N : Int) ≤ 9999) (hc0 : 0 ≤ cnt) (hw1 : -1 ≤ want) (hw2 : want ≤ 9223372036854775807) (HT : Hid (Tx w ao n c l)) (h : kn s = 5) :
    Calls Try.prog 29 #[mo ao n c p (nl (l.take p) : Nat) want cnt, .string s] w fun e w' => (e = prE (tgt l p want N (decide (cnt = 0)) 5) 2) ∧ Below w.heap.size w w' := by
  have _hu := And.intro hp (And.intro hc0 (And.intro hw1 hw2))
  have hbig : (n : Int) ≤ 140737488355328 := by have := HT.out.big; omega
  have hnl : (nl (l.take p) : Int) ≤ 140737488355328 := by have := nl_take_le l p; have := nl_le l; have := HT.out.len; omega
  have hnl0 : (0 : Int) ≤ (nl (l.take p) : Int) := by omega
  have hN1 : (1 : Int) ≤ (N : Int) := by omega
  have T1 := Hid.mk' (fun x y => Hid.mk' (HT.out.keep (bAlloc (bAlloc (Below.refl _ _) x) y)))
  have B1 := Hid.mk' (fun x y => bAlloc (bAlloc (Below.refl w.heap.size w) x) y)
  obtain ⟨q1, q2, q3, q4, q5, q6, q7, q8, q9, q10, q11, q12, q13, q14, q15, q16⟩ : (s.toList == [104]) = false ∧ (s.toList == [108]) = false ∧ (s.toList == [32]) = false ∧ (s.toList == [8]) = false ∧ (s.toList == [106]) = true ∧ (s.toList == [107]) = false ∧ (s.toList == [43]) = false ∧ (s.toList == [13]) = false ∧ (s.toList == [45]) = false ∧ (s.toList == [95]) = false ∧ (s.toList == [48]) = false ∧ (s.toList == [94]) = false ∧ (s.toList == [36]) = false ∧ (s.toList == [124]) = false ∧ (s.toList == [71]) = false ∧ (s.toList == [103, 103]) = false := kn_rules s 5 h
  clear h _hu
  generalize hA : tgt l p want N (decide (cnt = 0)) 5 = A
  have HA := Hid.mk' hA
  clear hA
  go_enter Try.func29, Try.ntmps29
  go_wp2_with (first | (go_at_call 43; refine (steps_any _ _ _ _ _ _).mono ?_; rintro e w9 ⟨rfl, rfl⟩) | fail)
  refine (at_any ao n c _ want l _ (by omega) hw2 (T1.out _ _)).mono ?_
  rintro e w9 ⟨rfl, hw⟩
  have hq := hw.symm
  subst hq
  clear hw
  rw [pr_at _ _ _ hw1, prE_pair]
  go_wp2
  go_ret2
  exact ⟨by rw [← HA.out]; exact (prE_pair _ _).symm, B1.out _ _⟩
set_option maxHeartbeats 1000000 in
theorem leads_6 (ao : Option Addr) (n c p N : Nat) (want cnt : Int) (l : List UInt8) (s : ByteArray) (w : World) (hp : p ≤ n) (hc : max cnt 1 = (N : Int)) (hN : (N : Int) ≤ 9999) (hc0 : 0 ≤ cnt) (hw1 : -1 ≤ want) (hw2 : want ≤ 9223372036854775807) (HT : Hid (Tx w ao n c l)) (h : kn s = 6) :
    Calls Try.prog 29 #[mo ao n c p (nl (l.take p) : Nat) want cnt, .string s] w fun e w' => (e = prE (tgt l p want N (decide (cnt = 0)) 6) 2) ∧ Below w.heap.size w w' := by
  have _hu := And.intro hp (And.intro hc0 (And.intro hw1 hw2))
  have hbig : (n : Int) ≤ 140737488355328 := by have := HT.out.big; omega
  have hnl : (nl (l.take p) : Int) ≤ 140737488355328 := by have := nl_take_le l p; have := nl_le l; have := HT.out.len; omega
  have hnl0 : (0 : Int) ≤ (nl (l.take p) : Int) := by omega
  have hN1 : (1 : Int) ≤ (N : Int) := by omega
  have T1 := Hid.mk' (fun x y => Hid.mk' (HT.out.keep (bAlloc (bAlloc (Below.refl _ _) x) y)))
  have B1 := Hid.mk' (fun x y => bAlloc (bAlloc (Below.refl w.heap.size w) x) y)
  obtain ⟨q1, q2, q3, q4, q5, q6, q7, q8, q9, q10, q11, q12, q13, q14, q15, q16⟩ : (s.toList == [104]) = false ∧ (s.toList == [108]) = false ∧ (s.toList == [32]) = false ∧ (s.toList == [8]) = false ∧ (s.toList == [106]) = false ∧ (s.toList == [107]) = true ∧ (s.toList == [43]) = false ∧ (s.toList == [13]) = false ∧ (s.toList == [45]) = false ∧ (s.toList == [95]) = false ∧ (s.toList == [48]) = false ∧ (s.toList == [94]) = false ∧ (s.toList == [36]) = false ∧ (s.toList == [124]) = false ∧ (s.toList == [71]) = false ∧ (s.toList == [103, 103]) = false := kn_rules s 6 h
  clear h _hu
  generalize hA : tgt l p want N (decide (cnt = 0)) 6 = A
  have HA := Hid.mk' hA
  clear hA
  go_enter Try.func29, Try.ntmps29
  go_wp2_with (first | (go_at_call 43; refine (steps_any _ _ _ _ _ _).mono ?_; rintro e w9 ⟨rfl, rfl⟩) | fail)
  refine (at_any ao n c _ want l _ (by omega) hw2 (T1.out _ _)).mono ?_
  rintro e w9 ⟨rfl, hw⟩
  have hq := hw.symm
  subst hq
  clear hw
  rw [pr_at _ _ _ hw1, prE_pair]
  go_wp2
  go_ret2
  exact ⟨by rw [← HA.out]; exact (prE_pair _ _).symm, B1.out _ _⟩
set_option maxHeartbeats 1000000 in
theorem leads_7 (ao : Option Addr) (n c p N : Nat) (want cnt : Int) (l : List UInt8) (s : ByteArray) (w : World) (hp : p ≤ n) (hc : max cnt 1 = (N : Int)) (hN : (N : Int) ≤ 9999) (hc0 : 0 ≤ cnt) (hw1 : -1 ≤ want) (hw2 : want ≤ 9223372036854775807) (HT : Hid (Tx w ao n c l)) (h : kn s = 7) :
    Calls Try.prog 29 #[mo ao n c p (nl (l.take p) : Nat) want cnt, .string s] w fun e w' => (e = prE (tgt l p want N (decide (cnt = 0)) 7) 2) ∧ Below w.heap.size w w' := by
  have _hu := And.intro hp (And.intro hc0 (And.intro hw1 hw2))
  have hbig : (n : Int) ≤ 140737488355328 := by have := HT.out.big; omega
  have hnl : (nl (l.take p) : Int) ≤ 140737488355328 := by have := nl_take_le l p; have := nl_le l; have := HT.out.len; omega
  have hnl0 : (0 : Int) ≤ (nl (l.take p) : Int) := by omega
  have hN1 : (1 : Int) ≤ (N : Int) := by omega
  have T1 := Hid.mk' (fun x y => Hid.mk' (HT.out.keep (bAlloc (bAlloc (Below.refl _ _) x) y)))
  have B1 := Hid.mk' (fun x y => bAlloc (bAlloc (Below.refl w.heap.size w) x) y)
  obtain ⟨q1, q2, q3, q4, q5, q6, q7, q8, q9, q10, q11, q12, q13, q14, q15, q16⟩ : (s.toList == [104]) = false ∧ (s.toList == [108]) = false ∧ (s.toList == [32]) = false ∧ (s.toList == [8]) = false ∧ (s.toList == [106]) = false ∧ (s.toList == [107]) = false ∧ (s.toList == [43]) = true ∧ (s.toList == [13]) = false ∧ (s.toList == [45]) = false ∧ (s.toList == [95]) = false ∧ (s.toList == [48]) = false ∧ (s.toList == [94]) = false ∧ (s.toList == [36]) = false ∧ (s.toList == [124]) = false ∧ (s.toList == [71]) = false ∧ (s.toList == [103, 103]) = false := kn_rules s 7 h
  clear h _hu
  generalize hA : tgt l p want N (decide (cnt = 0)) 7 = A
  have HA := Hid.mk' hA
  clear hA
  go_enter Try.func29, Try.ntmps29
  go_wp2_with (first | (go_at_call 43; refine (steps_any _ _ _ _ _ _).mono ?_; rintro e w9 ⟨rfl, rfl⟩) | fail)
  refine (first_any ao n c _ l _ (by omega) (T1.out _ _)).mono ?_
  rintro e w9 ⟨rfl, hw⟩
  have hq := hw.symm
  subst hq
  clear hw
  rw [pr_first, prE_pair]
  go_wp2
  go_ret2
  exact ⟨by rw [← HA.out]; exact (prE_pair _ _).symm, B1.out _ _⟩
set_option maxHeartbeats 1000000 in
theorem leads_8 (ao : Option Addr) (n c p N : Nat) (want cnt : Int) (l : List UInt8) (s : ByteArray) (w : World) (hp : p ≤ n) (hc : max cnt 1 = (N : Int)) (hN : (N : Int) ≤ 9999) (hc0 : 0 ≤ cnt) (hw1 : -1 ≤ want) (hw2 : want ≤ 9223372036854775807) (HT : Hid (Tx w ao n c l)) (h : kn s = 8) :
    Calls Try.prog 29 #[mo ao n c p (nl (l.take p) : Nat) want cnt, .string s] w fun e w' => (e = prE (tgt l p want N (decide (cnt = 0)) 8) 2) ∧ Below w.heap.size w w' := by
  have _hu := And.intro hp (And.intro hc0 (And.intro hw1 hw2))
  have hbig : (n : Int) ≤ 140737488355328 := by have := HT.out.big; omega
  have hnl : (nl (l.take p) : Int) ≤ 140737488355328 := by have := nl_take_le l p; have := nl_le l; have := HT.out.len; omega
  have hnl0 : (0 : Int) ≤ (nl (l.take p) : Int) := by omega
  have hN1 : (1 : Int) ≤ (N : Int) := by omega
  have T1 := Hid.mk' (fun x y => Hid.mk' (HT.out.keep (bAlloc (bAlloc (Below.refl _ _) x) y)))
  have B1 := Hid.mk' (fun x y => bAlloc (bAlloc (Below.refl w.heap.size w) x) y)
  obtain ⟨q1, q2, q3, q4, q5, q6, q7, q8, q9, q10, q11, q12, q13, q14, q15, q16⟩ : (s.toList == [104]) = false ∧ (s.toList == [108]) = false ∧ (s.toList == [32]) = false ∧ (s.toList == [8]) = false ∧ (s.toList == [106]) = false ∧ (s.toList == [107]) = false ∧ (s.toList == [43]) = false ∧ (s.toList == [13]) = true ∧ (s.toList == [45]) = false ∧ (s.toList == [95]) = false ∧ (s.toList == [48]) = false ∧ (s.toList == [94]) = false ∧ (s.toList == [36]) = false ∧ (s.toList == [124]) = false ∧ (s.toList == [71]) = false ∧ (s.toList == [103, 103]) = false := kn_rules s 8 h
  clear h _hu
  generalize hA : tgt l p want N (decide (cnt = 0)) 8 = A
  have HA := Hid.mk' hA
  clear hA
  go_enter Try.func29, Try.ntmps29
  go_wp2_with (first | (go_at_call 43; refine (steps_any _ _ _ _ _ _).mono ?_; rintro e w9 ⟨rfl, rfl⟩) | fail)
  refine (first_any ao n c _ l _ (by omega) (T1.out _ _)).mono ?_
  rintro e w9 ⟨rfl, hw⟩
  have hq := hw.symm
  subst hq
  clear hw
  rw [pr_first, prE_pair]
  go_wp2
  go_ret2
  exact ⟨by rw [← HA.out]; exact (prE_pair _ _).symm, B1.out _ _⟩
set_option maxHeartbeats 1000000 in
theorem leads_9 (ao : Option Addr) (n c p N : Nat) (want cnt : Int) (l : List UInt8) (s : ByteArray) (w : World) (hp : p ≤ n) (hc : max cnt 1 = (N : Int)) (hN : (N : Int) ≤ 9999) (hc0 : 0 ≤ cnt) (hw1 : -1 ≤ want) (hw2 : want ≤ 9223372036854775807) (HT : Hid (Tx w ao n c l)) (h : kn s = 9) :
    Calls Try.prog 29 #[mo ao n c p (nl (l.take p) : Nat) want cnt, .string s] w fun e w' => (e = prE (tgt l p want N (decide (cnt = 0)) 9) 2) ∧ Below w.heap.size w w' := by
  have _hu := And.intro hp (And.intro hc0 (And.intro hw1 hw2))
  have hbig : (n : Int) ≤ 140737488355328 := by have := HT.out.big; omega
  have hnl : (nl (l.take p) : Int) ≤ 140737488355328 := by have := nl_take_le l p; have := nl_le l; have := HT.out.len; omega
  have hnl0 : (0 : Int) ≤ (nl (l.take p) : Int) := by omega
  have hN1 : (1 : Int) ≤ (N : Int) := by omega
  have T1 := Hid.mk' (fun x y => Hid.mk' (HT.out.keep (bAlloc (bAlloc (Below.refl _ _) x) y)))
  have B1 := Hid.mk' (fun x y => bAlloc (bAlloc (Below.refl w.heap.size w) x) y)
  obtain ⟨q1, q2, q3, q4, q5, q6, q7, q8, q9, q10, q11, q12, q13, q14, q15, q16⟩ : (s.toList == [104]) = false ∧ (s.toList == [108]) = false ∧ (s.toList == [32]) = false ∧ (s.toList == [8]) = false ∧ (s.toList == [106]) = false ∧ (s.toList == [107]) = false ∧ (s.toList == [43]) = false ∧ (s.toList == [13]) = false ∧ (s.toList == [45]) = true ∧ (s.toList == [95]) = false ∧ (s.toList == [48]) = false ∧ (s.toList == [94]) = false ∧ (s.toList == [36]) = false ∧ (s.toList == [124]) = false ∧ (s.toList == [71]) = false ∧ (s.toList == [103, 103]) = false := kn_rules s 9 h
  clear h _hu
  generalize hA : tgt l p want N (decide (cnt = 0)) 9 = A
  have HA := Hid.mk' hA
  clear hA
  go_enter Try.func29, Try.ntmps29
  go_wp2_with (first | (go_at_call 43; refine (steps_any _ _ _ _ _ _).mono ?_; rintro e w9 ⟨rfl, rfl⟩) | fail)
  refine (first_any ao n c _ l _ (by omega) (T1.out _ _)).mono ?_
  rintro e w9 ⟨rfl, hw⟩
  have hq := hw.symm
  subst hq
  clear hw
  rw [pr_first, prE_pair]
  go_wp2
  go_ret2
  exact ⟨by rw [← HA.out]; exact (prE_pair _ _).symm, B1.out _ _⟩
set_option maxHeartbeats 1000000 in
theorem leads_10 (ao : Option Addr) (n c p N : Nat) (want cnt : Int) (l : List UInt8) (s : ByteArray) (w : World) (hp : p ≤ n) (hc : max cnt 1 = (N : Int)) (hN : (N : Int) ≤ 9999) (hc0 : 0 ≤ cnt) (hw1 : -1 ≤ want) (hw2 : want ≤ 9223372036854775807) (HT : Hid (Tx w ao n c l)) (h : kn s = 10) :
    Calls Try.prog 29 #[mo ao n c p (nl (l.take p) : Nat) want cnt, .string s] w fun e w' => (e = prE (tgt l p want N (decide (cnt = 0)) 10) 2) ∧ Below w.heap.size w w' := by
  have _hu := And.intro hp (And.intro hc0 (And.intro hw1 hw2))
  have hbig : (n : Int) ≤ 140737488355328 := by have := HT.out.big; omega
  have hnl : (nl (l.take p) : Int) ≤ 140737488355328 := by have := nl_take_le l p; have := nl_le l; have := HT.out.len; omega
  have hnl0 : (0 : Int) ≤ (nl (l.take p) : Int) := by omega
  have hN1 : (1 : Int) ≤ (N : Int) := by omega
  have T1 := Hid.mk' (fun x y => Hid.mk' (HT.out.keep (bAlloc (bAlloc (Below.refl _ _) x) y)))
  have B1 := Hid.mk' (fun x y => bAlloc (bAlloc (Below.refl w.heap.size w) x) y)
  obtain ⟨q1, q2, q3, q4, q5, q6, q7, q8, q9, q10, q11, q12, q13, q14, q15, q16⟩ : (s.toList == [104]) = false ∧ (s.toList == [108]) = false ∧ (s.toList == [32]) = false ∧ (s.toList == [8]) = false ∧ (s.toList == [106]) = false ∧ (s.toList == [107]) = false ∧ (s.toList == [43]) = false ∧ (s.toList == [13]) = false ∧ (s.toList == [45]) = false ∧ (s.toList == [95]) = true ∧ (s.toList == [48]) = false ∧ (s.toList == [94]) = false ∧ (s.toList == [36]) = false ∧ (s.toList == [124]) = false ∧ (s.toList == [71]) = false ∧ (s.toList == [103, 103]) = false := kn_rules s 10 h
  clear h _hu
  generalize hA : tgt l p want N (decide (cnt = 0)) 10 = A
  have HA := Hid.mk' hA
  clear hA
  go_enter Try.func29, Try.ntmps29
  go_wp2_with (first | (go_at_call 43; refine (steps_any _ _ _ _ _ _).mono ?_; rintro e w9 ⟨rfl, rfl⟩) | fail)
  refine (first_any ao n c _ l _ (by omega) (T1.out _ _)).mono ?_
  rintro e w9 ⟨rfl, hw⟩
  have hq := hw.symm
  subst hq
  clear hw
  rw [pr_first, prE_pair]
  go_wp2
  go_ret2
  exact ⟨by rw [← HA.out]; exact (prE_pair _ _).symm, B1.out _ _⟩
set_option maxHeartbeats 1000000 in
theorem leads_11 (ao : Option Addr) (n c p N : Nat) (want cnt : Int) (l : List UInt8) (s : ByteArray) (w : World) (hp : p ≤ n) (hc : max cnt 1 = (N : Int)) (hN : (N : Int) ≤ 9999) (hc0 : 0 ≤ cnt) (hw1 : -1 ≤ want) (hw2 : want ≤ 9223372036854775807) (HT : Hid (Tx w ao n c l)) (h : kn s = 11) :
    Calls Try.prog 29 #[mo ao n c p (nl (l.take p) : Nat) want cnt, .string s] w fun e w' => (e = prE (tgt l p want N (decide (cnt = 0)) 11) 2) ∧ Below w.heap.size w w' := by
  have _hu := And.intro hp (And.intro hc0 (And.intro hw1 hw2))
  have hbig : (n : Int) ≤ 140737488355328 := by have := HT.out.big; omega
  have hnl : (nl (l.take p) : Int) ≤ 140737488355328 := by have := nl_take_le l p; have := nl_le l; have := HT.out.len; omega
  have hnl0 : (0 : Int) ≤ (nl (l.take p) : Int) := by omega
  have hN1 : (1 : Int) ≤ (N : Int) := by omega
  have T1 := Hid.mk' (fun x y => Hid.mk' (HT.out.keep (bAlloc (bAlloc (Below.refl _ _) x) y)))
  have B1 := Hid.mk' (fun x y => bAlloc (bAlloc (Below.refl w.heap.size w) x) y)
  obtain ⟨q1, q2, q3, q4, q5, q6, q7, q8, q9, q10, q11, q12, q13, q14, q15, q16⟩ : (s.toList == [104]) = false ∧ (s.toList == [108]) = false ∧ (s.toList == [32]) = false ∧ (s.toList == [8]) = false ∧ (s.toList == [106]) = false ∧ (s.toList == [107]) = false ∧ (s.toList == [43]) = false ∧ (s.toList == [13]) = false ∧ (s.toList == [45]) = false ∧ (s.toList == [95]) = false ∧ (s.toList == [48]) = true ∧ (s.toList == [94]) = false ∧ (s.toList == [36]) = false ∧ (s.toList == [124]) = false ∧ (s.toList == [71]) = false ∧ (s.toList == [103, 103]) = false := kn_rules s 11 h
  clear h _hu
  generalize hA : tgt l p want N (decide (cnt = 0)) 11 = A
  have HA := Hid.mk' hA
  clear hA
  go_enter Try.func29, Try.ntmps29
  go_wp2_with (first | (go_at_call 43; refine (steps_any _ _ _ _ _ _).mono ?_; rintro e w9 ⟨rfl, rfl⟩) | fail)
  refine (start_is hp (T1.out _ _)).mono ?_
  rintro e w9 ⟨rfl, hw⟩
  have hq := hw.symm
  subst hq
  clear hw
  go_wp2
  go_ret2
  exact ⟨by rw [← HA.out]; rfl, B1.out _ _⟩
set_option maxHeartbeats 1000000 in
theorem leads_12 (ao : Option Addr) (n c p N : Nat) (want cnt : Int) (l : List UInt8) (s : ByteArray) (w : World) (hp : p ≤ n) (hc : max cnt 1 = (N : Int)) (hN : (N : Int) ≤ 9999) (hc0 : 0 ≤ cnt) (hw1 : -1 ≤ want) (hw2 : want ≤ 9223372036854775807) (HT : Hid (Tx w ao n c l)) (h : kn s = 12) :
    Calls Try.prog 29 #[mo ao n c p (nl (l.take p) : Nat) want cnt, .string s] w fun e w' => (e = prE (tgt l p want N (decide (cnt = 0)) 12) 2) ∧ Below w.heap.size w w' := by
  have _hu := And.intro hp (And.intro hc0 (And.intro hw1 hw2))
  have hbig : (n : Int) ≤ 140737488355328 := by have := HT.out.big; omega
  have hnl : (nl (l.take p) : Int) ≤ 140737488355328 := by have := nl_take_le l p; have := nl_le l; have := HT.out.len; omega
  have hnl0 : (0 : Int) ≤ (nl (l.take p) : Int) := by omega
  have hN1 : (1 : Int) ≤ (N : Int) := by omega
  have T1 := Hid.mk' (fun x y => Hid.mk' (HT.out.keep (bAlloc (bAlloc (Below.refl _ _) x) y)))
  have B1 := Hid.mk' (fun x y => bAlloc (bAlloc (Below.refl w.heap.size w) x) y)
  obtain ⟨q1, q2, q3, q4, q5, q6, q7, q8, q9, q10, q11, q12, q13, q14, q15, q16⟩ : (s.toList == [104]) = false ∧ (s.toList == [108]) = false ∧ (s.toList == [32]) = false ∧ (s.toList == [8]) = false ∧ (s.toList == [106]) = false ∧ (s.toList == [107]) = false ∧ (s.toList == [43]) = false ∧ (s.toList == [13]) = false ∧ (s.toList == [45]) = false ∧ (s.toList == [95]) = false ∧ (s.toList == [48]) = false ∧ (s.toList == [94]) = true ∧ (s.toList == [36]) = false ∧ (s.toList == [124]) = false ∧ (s.toList == [71]) = false ∧ (s.toList == [103, 103]) = false := kn_rules s 12 h
  clear h _hu
  generalize hA : tgt l p want N (decide (cnt = 0)) 12 = A
  have HA := Hid.mk' hA
  clear hA
  go_enter Try.func29, Try.ntmps29
  go_wp2_with (first | (go_at_call 43; refine (steps_any _ _ _ _ _ _).mono ?_; rintro e w9 ⟨rfl, rfl⟩) | fail)
  refine (first_any ao n c _ l _ (by omega) (T1.out _ _)).mono ?_
  rintro e w9 ⟨rfl, hw⟩
  have hq := hw.symm
  subst hq
  clear hw
  rw [pr_first, prE_pair]
  go_wp2
  go_ret2
  exact ⟨by rw [← HA.out]; exact (prE_pair _ _).symm, B1.out _ _⟩
set_option maxHeartbeats 1000000 in
theorem leads_13 (ao : Option Addr) (n c p N : Nat) (want cnt : Int) (l : List UInt8) (s : ByteArray) (w : World) (hp : p ≤ n) (hc : max cnt 1 = (N : Int)) (hN : (N : Int) ≤ 9999) (hc0 : 0 ≤ cnt) (hw1 : -1 ≤ want) (hw2 : want ≤ 9223372036854775807) (HT : Hid (Tx w ao n c l)) (h : kn s = 13) :
    Calls Try.prog 29 #[mo ao n c p (nl (l.take p) : Nat) want cnt, .string s] w fun e w' => (e = prE (tgt l p want N (decide (cnt = 0)) 13) 2) ∧ Below w.heap.size w w' := by
  have _hu := And.intro hp (And.intro hc0 (And.intro hw1 hw2))
  have hbig : (n : Int) ≤ 140737488355328 := by have := HT.out.big; omega
  have hnl : (nl (l.take p) : Int) ≤ 140737488355328 := by have := nl_take_le l p; have := nl_le l; have := HT.out.len; omega
  have hnl0 : (0 : Int) ≤ (nl (l.take p) : Int) := by omega
  have hN1 : (1 : Int) ≤ (N : Int) := by omega
  have T1 := Hid.mk' (fun x y => Hid.mk' (HT.out.keep (bAlloc (bAlloc (Below.refl _ _) x) y)))
  have B1 := Hid.mk' (fun x y => bAlloc (bAlloc (Below.refl w.heap.size w) x) y)
  obtain ⟨q1, q2, q3, q4, q5, q6, q7, q8, q9, q10, q11, q12, q13, q14, q15, q16⟩ : (s.toList == [104]) = false ∧ (s.toList == [108]) = false ∧ (s.toList == [32]) = false ∧ (s.toList == [8]) = false ∧ (s.toList == [106]) = false ∧ (s.toList == [107]) = false ∧ (s.toList == [43]) = false ∧ (s.toList == [13]) = false ∧ (s.toList == [45]) = false ∧ (s.toList == [95]) = false ∧ (s.toList == [48]) = false ∧ (s.toList == [94]) = false ∧ (s.toList == [36]) = true ∧ (s.toList == [124]) = false ∧ (s.toList == [71]) = false ∧ (s.toList == [103, 103]) = false := kn_rules s 13 h
  clear h _hu
  generalize hA : tgt l p want N (decide (cnt = 0)) 13 = A
  have HA := Hid.mk' hA
  clear hA
  go_enter Try.func29, Try.ntmps29
  go_wp2_with (first | (go_at_call 43; refine (steps_any _ _ _ _ _ _).mono ?_; rintro e w9 ⟨rfl, rfl⟩) | fail)
  refine (end_any ao n c _ l _ (by omega) (T1.out _ _)).mono ?_
  rintro e w9 ⟨rfl, hw⟩
  have hq := hw.symm
  subst hq
  clear hw
  rw [pr_end, prE_pair]
  go_wp2
  go_ret2
  exact ⟨by rw [← HA.out]; exact (prE_pair _ _).symm, B1.out _ _⟩
set_option maxHeartbeats 1000000 in
theorem leads_14 (ao : Option Addr) (n c p N : Nat) (want cnt : Int) (l : List UInt8) (s : ByteArray) (w : World) (hp : p ≤ n) (hc : max cnt 1 = (N : Int)) (hN : (N : Int) ≤ 9999) (hc0 : 0 ≤ cnt) (hw1 : -1 ≤ want) (hw2 : want ≤ 9223372036854775807) (HT : Hid (Tx w ao n c l)) (h : kn s = 14) :
    Calls Try.prog 29 #[mo ao n c p (nl (l.take p) : Nat) want cnt, .string s] w fun e w' => (e = prE (tgt l p want N (decide (cnt = 0)) 14) 2) ∧ Below w.heap.size w w' := by
  have _hu := And.intro hp (And.intro hc0 (And.intro hw1 hw2))
  have hbig : (n : Int) ≤ 140737488355328 := by have := HT.out.big; omega
  have hnl : (nl (l.take p) : Int) ≤ 140737488355328 := by have := nl_take_le l p; have := nl_le l; have := HT.out.len; omega
  have hnl0 : (0 : Int) ≤ (nl (l.take p) : Int) := by omega
  have hN1 : (1 : Int) ≤ (N : Int) := by omega
  have T1 := Hid.mk' (fun x y => Hid.mk' (HT.out.keep (bAlloc (bAlloc (Below.refl _ _) x) y)))
  have B1 := Hid.mk' (fun x y => bAlloc (bAlloc (Below.refl w.heap.size w) x) y)
  obtain ⟨q1, q2, q3, q4, q5, q6, q7, q8, q9, q10, q11, q12, q13, q14, q15, q16⟩ : (s.toList == [104]) = false ∧ (s.toList == [108]) = false ∧ (s.toList == [32]) = false ∧ (s.toList == [8]) = false ∧ (s.toList == [106]) = false ∧ (s.toList == [107]) = false ∧ (s.toList == [43]) = false ∧ (s.toList == [13]) = false ∧ (s.toList == [45]) = false ∧ (s.toList == [95]) = false ∧ (s.toList == [48]) = false ∧ (s.toList == [94]) = false ∧ (s.toList == [36]) = false ∧ (s.toList == [124]) = true ∧ (s.toList == [71]) = false ∧ (s.toList == [103, 103]) = false := kn_rules s 14 h
  clear h _hu
  generalize hA : tgt l p want N (decide (cnt = 0)) 14 = A
  have HA := Hid.mk' hA
  clear hA
  go_enter Try.func29, Try.ntmps29
  go_wp2_with (first | (go_at_call 43; refine (steps_any _ _ _ _ _ _).mono ?_; rintro e w9 ⟨rfl, rfl⟩) | fail)
  refine (at_any ao n c _ ((N : Int) - 1) l _ (by omega) (by omega) (T1.out _ _)).mono ?_
  rintro e w9 ⟨rfl, hw⟩
  have hq := hw.symm
  subst hq
  clear hw
  rw [pr_at _ _ _ (by omega), prE_pair]
  go_wp2
  go_ret2
  refine ⟨?_, B1.out _ _⟩
  rw [← HA.out]
  have e1 : lnAt l ((nl (l.take p) : Nat) : Int) ((N : Int) - 1) = some (pc (bg l p) (en l (bg l p)) ((N : Int) - 1)) := by
    unfold lnAt opt
    rw [ln_at, Int.toNat_natCast, sp_of l p (by rw [HT.out.len]; exact hp)]; rfl
  refine Eq.trans (prE_pair (lnAt l ((nl (l.take p) : Nat) : Int) ((N : Int) - 1)) 2).symm ?_
  rw [e1]
  rfl
set_option maxHeartbeats 1000000 in
theorem leads_15 (ao : Option Addr) (n c p N : Nat) (want cnt : Int) (l : List UInt8) (s : ByteArray) (w : World) (hp : p ≤ n) (hc : max cnt 1 = (N : Int)) (hN : (N : Int) ≤ 9999) (hc0 : 0 ≤ cnt) (hw1 : -1 ≤ want) (hw2 : want ≤ 9223372036854775807) (HT : Hid (Tx w ao n c l)) (h : kn s = 15) :
    Calls Try.prog 29 #[mo ao n c p (nl (l.take p) : Nat) want cnt, .string s] w fun e w' => (e = prE (tgt l p want N (decide (cnt = 0)) 15) 2) ∧ Below w.heap.size w w' := by
  have _hu := And.intro hp (And.intro hc0 (And.intro hw1 hw2))
  have hbig : (n : Int) ≤ 140737488355328 := by have := HT.out.big; omega
  have hnl : (nl (l.take p) : Int) ≤ 140737488355328 := by have := nl_take_le l p; have := nl_le l; have := HT.out.len; omega
  have hnl0 : (0 : Int) ≤ (nl (l.take p) : Int) := by omega
  have hN1 : (1 : Int) ≤ (N : Int) := by omega
  have T1 := Hid.mk' (fun x y => Hid.mk' (HT.out.keep (bAlloc (bAlloc (Below.refl _ _) x) y)))
  have B1 := Hid.mk' (fun x y => bAlloc (bAlloc (Below.refl w.heap.size w) x) y)
  obtain ⟨q1, q2, q3, q4, q5, q6, q7, q8, q9, q10, q11, q12, q13, q14, q15, q16⟩ : (s.toList == [104]) = false ∧ (s.toList == [108]) = false ∧ (s.toList == [32]) = false ∧ (s.toList == [8]) = false ∧ (s.toList == [106]) = false ∧ (s.toList == [107]) = false ∧ (s.toList == [43]) = false ∧ (s.toList == [13]) = false ∧ (s.toList == [45]) = false ∧ (s.toList == [95]) = false ∧ (s.toList == [48]) = false ∧ (s.toList == [94]) = false ∧ (s.toList == [36]) = false ∧ (s.toList == [124]) = false ∧ (s.toList == [71]) = true ∧ (s.toList == [103, 103]) = false := kn_rules s 15 h
  clear h _hu
  generalize hA : tgt l p want N (decide (cnt = 0)) 15 = A
  have HA := Hid.mk' hA
  clear hA
  go_enter Try.func29, Try.ntmps29
  go_wp2_with (first | (go_at_call 43; refine (steps_any _ _ _ _ _ _).mono ?_; rintro e w9 ⟨rfl, rfl⟩) | fail)
  refine (lineOrLast_any ao n c p N want cnt l _ hc hN hc0 (T1.out _ _)).mono ?_
  rintro e w2 ⟨rfl, hb2⟩
  rw [prE_pair]
  go_wp2
  go_ret2
  exact ⟨by rw [← HA.out, prE_pair]; rfl, bT (B1.out _ _) hb2⟩
set_option maxHeartbeats 1000000 in
theorem leads_16 (ao : Option Addr) (n c p N : Nat) (want cnt : Int) (l : List UInt8) (s : ByteArray) (w : World) (hp : p ≤ n) (hc : max cnt 1 = (N : Int)) (hN : (N : Int) ≤ 9999) (hc0 : 0 ≤ cnt) (hw1 : -1 ≤ want) (hw2 : want ≤ 9223372036854775807) (HT : Hid (Tx w ao n c l)) (h : kn s = 16) :
    Calls Try.prog 29 #[mo ao n c p (nl (l.take p) : Nat) want cnt, .string s] w fun e w' => (e = prE (tgt l p want N (decide (cnt = 0)) 16) 2) ∧ Below w.heap.size w w' := by
  have _hu := And.intro hp (And.intro hc0 (And.intro hw1 hw2))
  have hbig : (n : Int) ≤ 140737488355328 := by have := HT.out.big; omega
  have hnl : (nl (l.take p) : Int) ≤ 140737488355328 := by have := nl_take_le l p; have := nl_le l; have := HT.out.len; omega
  have hnl0 : (0 : Int) ≤ (nl (l.take p) : Int) := by omega
  have hN1 : (1 : Int) ≤ (N : Int) := by omega
  have T1 := Hid.mk' (fun x y => Hid.mk' (HT.out.keep (bAlloc (bAlloc (Below.refl _ _) x) y)))
  have B1 := Hid.mk' (fun x y => bAlloc (bAlloc (Below.refl w.heap.size w) x) y)
  obtain ⟨q1, q2, q3, q4, q5, q6, q7, q8, q9, q10, q11, q12, q13, q14, q15, q16⟩ : (s.toList == [104]) = false ∧ (s.toList == [108]) = false ∧ (s.toList == [32]) = false ∧ (s.toList == [8]) = false ∧ (s.toList == [106]) = false ∧ (s.toList == [107]) = false ∧ (s.toList == [43]) = false ∧ (s.toList == [13]) = false ∧ (s.toList == [45]) = false ∧ (s.toList == [95]) = false ∧ (s.toList == [48]) = false ∧ (s.toList == [94]) = false ∧ (s.toList == [36]) = false ∧ (s.toList == [124]) = false ∧ (s.toList == [71]) = false ∧ (s.toList == [103, 103]) = true := kn_rules s 16 h
  clear h _hu
  generalize hA : tgt l p want N (decide (cnt = 0)) 16 = A
  have HA := Hid.mk' hA
  clear hA
  go_enter Try.func29, Try.ntmps29
  go_wp2_with (first | (go_at_call 43; refine (steps_any _ _ _ _ _ _).mono ?_; rintro e w9 ⟨rfl, rfl⟩) | fail)
  refine (first_any ao n c _ l _ (by omega) (T1.out _ _)).mono ?_
  rintro e w9 ⟨rfl, hw⟩
  have hq := hw.symm
  subst hq
  clear hw
  rw [pr_first, prE_pair]
  go_wp2
  go_ret2
  exact ⟨by rw [← HA.out]; exact (prE_pair _ _).symm, B1.out _ _⟩
set_option maxHeartbeats 1000000 in
theorem wanted_col (ao : Option Addr) (n c p : Nat) (L want cnt : Int) (l : List UInt8) (s : ByteArray) (q : Nat) (w : World) (hq : q ≤ n) (HT : Hid (Tx w ao n c l)) (k : Nat) (h : kn s = k) (h5 : (k == 5) = false) (h6 : (k == 6) = false) (h13 : (k == 13) = false) (h14 : (k == 14) = false) :
    Calls Try.prog 30 #[mo ao n c p L want cnt, .string s, .int .i64 q] w fun e w' => e = .returned (.int .i64 ((q - bg l q : Nat) : Int)) ∧ Below w.heap.size w w' := by
  obtain ⟨q1, q2, q3, q4, q5, q6, q7, q8, q9, q10, q11, q12, q13, q14, q15, q16⟩ := kn_rules s k h
  rw [h5] at q5
  rw [h6] at q6
  rw [h13] at q13
  rw [h14] at q14
  clear h h5 h6 h13 h14 q1 q2 q3 q4 q7 q8 q9 q10 q11 q12 q15 q16
  have T1 := Hid.mk' (fun x => Hid.mk' (HT.out.keep (bAlloc (Below.refl _ _) x)))
  go_enter Try.func30, Try.ntmps30
  go_wp2_with (go_at_call 33; refine (col_is hq (T1.out _)).mono ?_; rintro e w' ⟨rfl, hw⟩; subst hw)
  go_ret
  exact ⟨rfl, bAlloc (Below.refl _ _) _⟩
set_option maxHeartbeats 1000000 in
theorem wanted_j (ao : Option Addr) (n c p : Nat) (L want cnt : Int) (l : List UInt8) (s : ByteArray) (q : Nat) (w : World) (h : kn s = 5) :
    Calls Try.prog 30 #[mo ao n c p L want cnt, .string s, .int .i64 q] w fun e w' => e = .returned (.int .i64 (want)) ∧ Below w.heap.size w w' := by
  have _hu := l
  obtain ⟨q1, q2, q3, q4, q5, q6, q7, q8, q9, q10, q11, q12, q13, q14, q15, q16⟩ : (s.toList == [104]) = false ∧ (s.toList == [108]) = false ∧ (s.toList == [32]) = false ∧ (s.toList == [8]) = false ∧ (s.toList == [106]) = true ∧ (s.toList == [107]) = false ∧ (s.toList == [43]) = false ∧ (s.toList == [13]) = false ∧ (s.toList == [45]) = false ∧ (s.toList == [95]) = false ∧ (s.toList == [48]) = false ∧ (s.toList == [94]) = false ∧ (s.toList == [36]) = false ∧ (s.toList == [124]) = false ∧ (s.toList == [71]) = false ∧ (s.toList == [103, 103]) = false := kn_rules s 5 h
  clear h _hu
  go_enter Try.func30, Try.ntmps30
  go_wp2
  go_ret
  exact ⟨rfl, bAlloc (Below.refl _ _) _⟩
set_option maxHeartbeats 1000000 in
theorem wanted_k (ao : Option Addr) (n c p : Nat) (L want cnt : Int) (l : List UInt8) (s : ByteArray) (q : Nat) (w : World) (h : kn s = 6) :
    Calls Try.prog 30 #[mo ao n c p L want cnt, .string s, .int .i64 q] w fun e w' => e = .returned (.int .i64 (want)) ∧ Below w.heap.size w w' := by
  have _hu := l
  obtain ⟨q1, q2, q3, q4, q5, q6, q7, q8, q9, q10, q11, q12, q13, q14, q15, q16⟩ : (s.toList == [104]) = false ∧ (s.toList == [108]) = false ∧ (s.toList == [32]) = false ∧ (s.toList == [8]) = false ∧ (s.toList == [106]) = false ∧ (s.toList == [107]) = true ∧ (s.toList == [43]) = false ∧ (s.toList == [13]) = false ∧ (s.toList == [45]) = false ∧ (s.toList == [95]) = false ∧ (s.toList == [48]) = false ∧ (s.toList == [94]) = false ∧ (s.toList == [36]) = false ∧ (s.toList == [124]) = false ∧ (s.toList == [71]) = false ∧ (s.toList == [103, 103]) = false := kn_rules s 6 h
  clear h _hu
  go_enter Try.func30, Try.ntmps30
  go_wp2
  go_ret
  exact ⟨rfl, bAlloc (Below.refl _ _) _⟩
set_option maxHeartbeats 1000000 in
theorem wanted_end (ao : Option Addr) (n c p : Nat) (L want cnt : Int) (l : List UInt8) (s : ByteArray) (q : Nat) (w : World) (h : kn s = 13) :
    Calls Try.prog 30 #[mo ao n c p L want cnt, .string s, .int .i64 q] w fun e w' => e = .returned (.int .i64 (-1)) ∧ Below w.heap.size w w' := by
  have _hu := l
  obtain ⟨q1, q2, q3, q4, q5, q6, q7, q8, q9, q10, q11, q12, q13, q14, q15, q16⟩ : (s.toList == [104]) = false ∧ (s.toList == [108]) = false ∧ (s.toList == [32]) = false ∧ (s.toList == [8]) = false ∧ (s.toList == [106]) = false ∧ (s.toList == [107]) = false ∧ (s.toList == [43]) = false ∧ (s.toList == [13]) = false ∧ (s.toList == [45]) = false ∧ (s.toList == [95]) = false ∧ (s.toList == [48]) = false ∧ (s.toList == [94]) = false ∧ (s.toList == [36]) = true ∧ (s.toList == [124]) = false ∧ (s.toList == [71]) = false ∧ (s.toList == [103, 103]) = false := kn_rules s 13 h
  clear h _hu
  go_enter Try.func30, Try.ntmps30
  go_wp2
  go_ret
  exact ⟨rfl, bAlloc (Below.refl _ _) _⟩
set_option maxHeartbeats 1000000 in
theorem wanted_bar (ao : Option Addr) (n c p : Nat) (L want cnt : Int) (l : List UInt8) (s : ByteArray) (q : Nat) (w : World) (h : kn s = 14) (N : Nat) (hc : max cnt 1 = (N : Int)) (hN : (N : Int) ≤ 9999) :
    Calls Try.prog 30 #[mo ao n c p L want cnt, .string s, .int .i64 q] w fun e w' => e = .returned (.int .i64 ((N : Int) - 1)) ∧ Below w.heap.size w w' := by
  have _hu := l
  obtain ⟨q1, q2, q3, q4, q5, q6, q7, q8, q9, q10, q11, q12, q13, q14, q15, q16⟩ : (s.toList == [104]) = false ∧ (s.toList == [108]) = false ∧ (s.toList == [32]) = false ∧ (s.toList == [8]) = false ∧ (s.toList == [106]) = false ∧ (s.toList == [107]) = false ∧ (s.toList == [43]) = false ∧ (s.toList == [13]) = false ∧ (s.toList == [45]) = false ∧ (s.toList == [95]) = false ∧ (s.toList == [48]) = false ∧ (s.toList == [94]) = false ∧ (s.toList == [36]) = false ∧ (s.toList == [124]) = true ∧ (s.toList == [71]) = false ∧ (s.toList == [103, 103]) = false := kn_rules s 14 h
  clear h _hu
  have hN1 : (1 : Int) ≤ (N : Int) := by omega
  go_enter Try.func30, Try.ntmps30
  go_wp2_with (first | (go_at_call 43; refine (steps_any _ _ _ _ _ _).mono ?_; rintro e w9 ⟨rfl, rfl⟩) | fail)
  go_ret
  exact ⟨rfl, bAlloc (bAlloc (Below.refl _ _) _) _⟩
theorem wanted_any (ao : Option Addr) (n c p N : Nat) (L want cnt : Int) (l : List UInt8) (s : ByteArray) (q : Nat) (w : World) (hq : q ≤ n) (HT : Hid (Tx w ao n c l)) (hc : max cnt 1 = (N : Int)) (hN : (N : Int) ≤ 9999) :
    Calls Try.prog 30 #[mo ao n c p L want cnt, .string s, .int .i64 q] w fun e w' => e = .returned (.int .i64 (wn l want N (kn s) q)) ∧ Below w.heap.size w w' := by
  unfold wn
  by_cases h1 : kn s = 5 ∨ kn s = 6
  · rw [if_pos h1]
    rcases h1 with h | h
    · exact wanted_j ao n c p L want cnt l s q w h
    · exact wanted_k ao n c p L want cnt l s q w h
  · rw [if_neg h1]
    by_cases h2 : kn s = 13
    · rw [if_pos h2]; exact wanted_end ao n c p L want cnt l s q w h2
    · rw [if_neg h2]
      by_cases h3 : kn s = 14
      · rw [if_pos h3]; exact wanted_bar ao n c p L want cnt l s q w h3 N hc hN
      · rw [if_neg h3]
        exact wanted_col ao n c p L want cnt l s q w hq HT (kn s) rfl (by simp; omega) (by simp; omega) (by simpa using h2) (by simpa using h3)
theorem leads_any (ao : Option Addr) (n c p N : Nat) (want cnt : Int) (l : List UInt8) (s : ByteArray) (w : World) (hp : p ≤ n) (hc : max cnt 1 = (N : Int)) (hN : (N : Int) ≤ 9999) (hc0 : 0 ≤ cnt) (hw1 : -1 ≤ want) (hw2 : want ≤ 9223372036854775807) (HT : Hid (Tx w ao n c l)) (h : kn s ≠ 0) :
    Calls Try.prog 29 #[mo ao n c p (nl (l.take p) : Nat) want cnt, .string s] w fun e w' => (∃ z : Int, (z = 2 ∨ z = 70) ∧ e = prE (tgt l p want N (decide (cnt = 0)) (kn s)) z) ∧ Below w.heap.size w w' := by
  refine kn_cases (P := fun k => kn s = k → k ≠ 0 → Calls Try.prog 29 #[mo ao n c p (nl (l.take p) : Nat) want cnt, .string s] w fun e w' => (∃ z : Int, (z = 2 ∨ z = 70) ∧ e = prE (tgt l p want N (decide (cnt = 0)) k) z) ∧ Below w.heap.size w w') (kn s) (kn_le s) (fun _ h => absurd rfl h) ?_ ?_ ?_ ?_ ?_ ?_ ?_ ?_ ?_ ?_ ?_ ?_ ?_ ?_ ?_ ?_ rfl h
  · exact fun hk _ => (leads_1 ao n c p N want cnt l s w hp hc hN hc0 hw1 hw2 HT hk).mono fun e w' hh => ⟨⟨70, .inr rfl, hh.1⟩, hh.2⟩
  · exact fun hk _ => (leads_2 ao n c p N want cnt l s w hp hc hN hc0 hw1 hw2 HT hk).mono fun e w' hh => ⟨⟨70, .inr rfl, hh.1⟩, hh.2⟩
  · exact fun hk _ => (leads_3 ao n c p N want cnt l s w hp hc hN hc0 hw1 hw2 HT hk).mono fun e w' hh => ⟨⟨70, .inr rfl, hh.1⟩, hh.2⟩
  · exact fun hk _ => (leads_4 ao n c p N want cnt l s w hp hc hN hc0 hw1 hw2 HT hk).mono fun e w' hh => ⟨⟨70, .inr rfl, hh.1⟩, hh.2⟩
  · exact fun hk _ => (leads_5 ao n c p N want cnt l s w hp hc hN hc0 hw1 hw2 HT hk).mono fun e w' hh => ⟨⟨2, .inl rfl, hh.1⟩, hh.2⟩
  · exact fun hk _ => (leads_6 ao n c p N want cnt l s w hp hc hN hc0 hw1 hw2 HT hk).mono fun e w' hh => ⟨⟨2, .inl rfl, hh.1⟩, hh.2⟩
  · exact fun hk _ => (leads_7 ao n c p N want cnt l s w hp hc hN hc0 hw1 hw2 HT hk).mono fun e w' hh => ⟨⟨2, .inl rfl, hh.1⟩, hh.2⟩
  · exact fun hk _ => (leads_8 ao n c p N want cnt l s w hp hc hN hc0 hw1 hw2 HT hk).mono fun e w' hh => ⟨⟨2, .inl rfl, hh.1⟩, hh.2⟩
  · exact fun hk _ => (leads_9 ao n c p N want cnt l s w hp hc hN hc0 hw1 hw2 HT hk).mono fun e w' hh => ⟨⟨2, .inl rfl, hh.1⟩, hh.2⟩
  · exact fun hk _ => (leads_10 ao n c p N want cnt l s w hp hc hN hc0 hw1 hw2 HT hk).mono fun e w' hh => ⟨⟨2, .inl rfl, hh.1⟩, hh.2⟩
  · exact fun hk _ => (leads_11 ao n c p N want cnt l s w hp hc hN hc0 hw1 hw2 HT hk).mono fun e w' hh => ⟨⟨2, .inl rfl, hh.1⟩, hh.2⟩
  · exact fun hk _ => (leads_12 ao n c p N want cnt l s w hp hc hN hc0 hw1 hw2 HT hk).mono fun e w' hh => ⟨⟨2, .inl rfl, hh.1⟩, hh.2⟩
  · exact fun hk _ => (leads_13 ao n c p N want cnt l s w hp hc hN hc0 hw1 hw2 HT hk).mono fun e w' hh => ⟨⟨2, .inl rfl, hh.1⟩, hh.2⟩
  · exact fun hk _ => (leads_14 ao n c p N want cnt l s w hp hc hN hc0 hw1 hw2 HT hk).mono fun e w' hh => ⟨⟨2, .inl rfl, hh.1⟩, hh.2⟩
  · exact fun hk _ => (leads_15 ao n c p N want cnt l s w hp hc hN hc0 hw1 hw2 HT hk).mono fun e w' hh => ⟨⟨2, .inl rfl, hh.1⟩, hh.2⟩
  · exact fun hk _ => (leads_16 ao n c p N want cnt l s w hp hc hN hc0 hw1 hw2 HT hk).mono fun e w' hh => ⟨⟨2, .inl rfl, hh.1⟩, hh.2⟩
end Go.Proofs.Ytbkhbnmihnomaaa
