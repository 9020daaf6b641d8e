/- The contracts of Len, Bytes, Lines, Height, hasGap, hasPiece, Get. -/
import Derived.Test.YtpifjghhlcjedaaBuildAll
namespace Go.Proofs.Ytpifjghhlcjedaa
open Go.RowKit

theorem bcell {W w1 : World} (hb : Below W.heap.size W w1) : (∀ b o, b < W.heap.size → w1.cell? ⟨b, o, none⟩ = W.cell? ⟨b, o, none⟩) ∧ (∀ b o, b < W.heap.size → w1.frozen? ⟨b, o, none⟩ = W.frozen? ⟨b, o, none⟩) :=
  ⟨fun b o h => hb.cell (p := ⟨b, o, none⟩) h, fun b o h => hb.frozen (p := ⟨b, o, none⟩) h⟩

set_option maxHeartbeats 400000 in
theorem Len_any (t : Tr) (a : Option Addr) (w : World) (h : Hid (At w t a)) : Calls Try.prog 19 #[.agg #[.pointer a]] w fun e w' => e = .returned (.int .i64 (t.size : Nat)) ∧ w' = w.alloc (.cells #[.pointer a] 26) := by
  go_enter Try.func19, Try.ntmps19
  go_wp2_with (go_at_call 61; refine (pieces_any t _ _ (h.out.alloc _)).mono ?_; rintro e w' ⟨rfl, rfl⟩)
  go_ret
  exact ⟨rfl, rfl⟩
set_option maxHeartbeats 400000 in
theorem Bytes_any (t : Tr) (a : Option Addr) (w : World) (h : Hid (At w t a)) : Calls Try.prog 52 #[.agg #[.pointer a]] w fun e w' => e = .returned (.int .i64 t.byt) ∧ w' = w.alloc (.cells #[.pointer a] 26) := by
  go_enter Try.func52, Try.ntmps52
  go_wp2_with (go_at_call 89; refine (bytes_any t _ _ (h.out.alloc _)).mono ?_; rintro e w' ⟨rfl, rfl⟩)
  go_ret
  exact ⟨rfl, rfl⟩
set_option maxHeartbeats 400000 in
theorem Lines_any (t : Tr) (a : Option Addr) (w : World) (h : Hid (At w t a)) : Calls Try.prog 63 #[.agg #[.pointer a]] w fun e w' => e = .returned (.int .i64 t.lin) ∧ w' = w.alloc (.cells #[.pointer a] 26) := by
  go_enter Try.func63, Try.ntmps63
  go_wp2_with (go_at_call 96; refine (lines_any t _ _ (h.out.alloc _)).mono ?_; rintro e w' ⟨rfl, rfl⟩)
  go_ret
  exact ⟨rfl, rfl⟩
set_option maxHeartbeats 400000 in
theorem Height_any (t : Tr) (a : Option Addr) (w : World) (h : Hid (At w t a)) : Calls Try.prog 62 #[.agg #[.pointer a]] w fun e w' => e = .returned (.int .i64 (t.ht : Nat)) ∧ w' = w.alloc (.cells #[.pointer a] 26) := by
  go_enter Try.func62, Try.ntmps62
  go_wp2_with (go_at_call 95; refine (height_any t _ _ (h.out.alloc _)).mono ?_; rintro e w' ⟨rfl, rfl⟩)
  go_ret
  exact ⟨rfl, rfl⟩

set_option maxHeartbeats 400000 in
theorem hasGap_any (t : Tr) (a : Option Addr) (i : Int) (w : World) (h : Hid (At w t a)) : Calls Try.prog 57 #[.agg #[.pointer a], .int .i64 i] w fun e w' => e = .returned (.bool (decide (0 ≤ i ∧ i ≤ (t.size : Int)))) ∧ Below w.heap.size w w' := by
  by_cases hi : 0 ≤ i
  · go_enter Try.func57, Try.ntmps57
    go_wp2_with (go_at_call 19; refine (Len_any t _ _ (h.out.alloc _)).mono ?_; rintro e w' ⟨rfl, rfl⟩)
    go_ret
    exact ⟨ret_bool (by simp [hi]), bAlloc (bAlloc (Below.refl _ _) _) _⟩
  · have hd : decide (0 ≤ i) = false := by simpa using hi
    go_enter Try.func57, Try.ntmps57
    go_wp2_with fail
    go_ret
    exact ⟨ret_bool (by first | rfl | (symm; rw [decide_eq_false_iff_not]; omega)), bAlloc (Below.refl _ _) _⟩
set_option maxHeartbeats 400000 in
theorem hasPiece_any (t : Tr) (a : Option Addr) (i : Int) (w : World) (h : Hid (At w t a)) : Calls Try.prog 59 #[.agg #[.pointer a], .int .i64 i] w fun e w' => e = .returned (.bool (decide (0 ≤ i ∧ i < (t.size : Int)))) ∧ Below w.heap.size w w' := by
  by_cases hi : 0 ≤ i
  · go_enter Try.func59, Try.ntmps59
    go_wp2_with (go_at_call 19; refine (Len_any t _ _ (h.out.alloc _)).mono ?_; rintro e w' ⟨rfl, rfl⟩)
    go_ret
    exact ⟨ret_bool (by simp [hi]), bAlloc (bAlloc (Below.refl _ _) _) _⟩
  · have hd : decide (0 ≤ i) = false := by simpa using hi
    go_enter Try.func59, Try.ntmps59
    go_wp2_with fail
    go_ret
    exact ⟨ret_bool (by first | rfl | (symm; rw [decide_eq_false_iff_not]; omega)), bAlloc (Below.refl _ _) _⟩

theorem bA2 {w w' : World} {x y : Obj} (h : Below ((w.alloc x).alloc y).heap.size ((w.alloc x).alloc y) w') : Below w.heap.size w w' := bA (bA h)

/-- what Get answers -/
def pcAt (L : List Pc) (i : Int) : Pc := if 0 ≤ i then (L[i.toNat]?).getD ⟨0, 0, 0, 0⟩ else ⟨0, 0, 0, 0⟩

set_option maxHeartbeats 1000000 in
theorem Get_yes (t : Tr) (a : Option Addr) (i : Nat) (w : World) (hi : i < t.size) (hz : t.size ≤ 1048576) (h : Hid (At w t a)) :
    Calls Try.prog 24 #[.agg #[.pointer a], .int .i64 (i : Nat)] w fun e w' => ∃ s o n k, t.list[i]? = some ⟨s, o, n, k⟩ ∧ e = .returned (.tuple #[.agg #[.int .i64 s, .int .i64 o, .int .i64 n, .int .i64 k], .int .i64 0]) ∧ Below w.heap.size w w' := by
  have hd : decide (0 ≤ (i : Int) ∧ (i : Int) < (t.size : Int)) = true := by simp; omega
  go_enter Try.func24, Try.ntmps24
  go_wp2_with (first | (go_at_call 59; refine (hasPiece_any t _ _ _ ((h.out.alloc _).alloc _)).mono ?_; rw [hd]; rintro e w9 ⟨rfl, hb9⟩; obtain ⟨c9, f9⟩ := bcell hb9)
                     | (go_at_call 68; refine (get_any t i _ _ hi hz (((h.out.alloc _).alloc _).keep hb9)).mono ?_; rintro e w8 ⟨s, o, n, k, hg, rfl, hb8⟩; have L8 := hb9.trans (hb8.mono hb9.size); obtain ⟨c8, f8⟩ := bcell L8))
  refine bodyPost_ret (v := .tuple #[.agg #[.int .i64 s, .int .i64 o, .int .i64 n, .int .i64 k], .int .i64 0]) (by simp [results, Try.results24, go_sem, c8]) rfl ⟨s, o, n, k, hg, rfl, ?_⟩
  exact below_put4 (bA2 L8) (by omega) _ _ _ _

set_option maxHeartbeats 1000000 in
theorem Get_no (t : Tr) (a : Option Addr) (i : Int) (w : World) (hd : decide (0 ≤ i ∧ i < (t.size : Int)) = false) (h : Hid (At w t a)) :
    Calls Try.prog 24 #[.agg #[.pointer a], .int .i64 i] w fun e w' => e = .returned (.tuple #[.agg #[.int .i64 0, .int .i64 0, .int .i64 0, .int .i64 0], .int .i64 20]) ∧ Below w.heap.size w w' := by
  go_enter Try.func24, Try.ntmps24
  go_wp2_with (first | (go_at_call 59; refine (hasPiece_any t _ _ _ ((h.out.alloc _).alloc _)).mono ?_; rw [hd]; rintro e w9 ⟨rfl, hb9⟩; obtain ⟨c9, f9⟩ := bcell hb9))
  refine bodyPost_ret (v := .tuple #[.agg #[.int .i64 0, .int .i64 0, .int .i64 0, .int .i64 0], .int .i64 20]) (by simp [results, Try.results24, go_sem, c9]) rfl ⟨rfl, ?_⟩
  exact below_put4 (bA2 hb9) (by omega) _ _ _ _
end Go.Proofs.Ytpifjghhlcjedaa
