/- quoinlaw04.plain: steps that are refused, and steps of another kind. -/
import Derived.Test.YtpifjghhlcjedaaPm27
namespace Go.Proofs.Ytpifjghhlcjedaa
open Go.RowKit Go.Shelf

set_option maxRecDepth 8000 in
set_option maxHeartbeats 4000000 in
theorem plain0_no (n tc : Nat) (ta : Option Addr) (x y : Int) (vp ve : Value) (W : World) (hx : x < 0 ∨ (n : Int) < x) :
    Calls Try.prog 28 #[.slice ta n tc, .agg #[.int .i64 0, .int .i64 x, .int .i64 y, vp, ve]] W fun e' w' => e' = .returned (.tuple #[.slice ta n tc, .bool false]) ∧ Below W.heap.size W w' := by
  have hd : Hid (decide (x < 0) = true ∨ (decide (x < 0) = false ∧ decide ((n : Int) < x) = true)) := by
    unfold Hid; by_cases h : x < 0
    · simp [h]
    · right; simp; omega
  clear hx
  rcases hd.out with h | ⟨h, h'⟩
  all_goals
    clear hd
    go_enter Try.func28, Try.ntmps28
    go_wp2
    exact bodyPost_ret (v := .tuple #[.slice ta n tc, .bool false]) (by simp [results, Try.results28, go_sem]) rfl ⟨rfl, bAlloc (Below.refl _ _) _⟩

set_option maxRecDepth 8000 in
set_option maxHeartbeats 4000000 in
theorem plain1_no (n tc : Nat) (ta : Option Addr) (x y : Int) (vp ve : Value) (W : World) (hx : x < 0 ∨ y < x ∨ (n : Int) < y) :
    Calls Try.prog 28 #[.slice ta n tc, .agg #[.int .i64 1, .int .i64 x, .int .i64 y, vp, ve]] W fun e' w' => e' = .returned (.tuple #[.slice ta n tc, .bool false]) ∧ Below W.heap.size W w' := by
  have hd : Hid (decide (x < 0) = true ∨ (decide (x < 0) = false ∧ decide (y < x) = true) ∨ (decide (x < 0) = false ∧ decide (y < x) = false ∧ decide ((n : Int) < y) = true)) := by
    unfold Hid; by_cases h : x < 0
    · simp [h]
    · by_cases h' : y < x
      · simp [h, h']
      · right; right; simp; omega
  clear hx
  rcases hd.out with h | ⟨h, h'⟩ | ⟨h, h', h''⟩
  all_goals
    clear hd
    go_enter Try.func28, Try.ntmps28
    go_wp2
    exact bodyPost_ret (v := .tuple #[.slice ta n tc, .bool false]) (by simp [results, Try.results28, go_sem]) rfl ⟨rfl, bAlloc (Below.refl _ _) _⟩
end Go.Proofs.Ytpifjghhlcjedaa

