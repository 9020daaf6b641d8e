/- The walk of quoinlaw01.AddbufNil: it answers true for every list and every span. -/
import Derived.Test.YtfjfflkdcmpgnaaAwake
import Derived.Test.YtfjfflkdcmpgnaaLines
namespace Go.Proofs.Ytfjfflkdcmpgnaa
open Go.RowKit

theorem bf_nil (w : World) (base : Nat) : Bf w base none [] [] := .inl ⟨rfl, rfl, rfl⟩
theorem size_nil (k : Int) (w : World) : Calls Try.prog 15 #[.pointer none, .int .i64 k] w fun e w' => e = .returned (.int .i64 0) ∧ w' = w := by
  have h := size_any none k [] [] 0 w (bf_nil w 0)
  have e : which k [] [] = [] := by unfold which; split <;> (try split) <;> rfl
  rw [e] at h
  exact h

theorem hd_nil_src {s : Int} (h : s = 0 ∨ s = 1) : sndB s ((0 : Nat) : Int) ((0 : Nat) : Int) = true := by
  unfold sndB; exact decide_eq_true ⟨h, by omega, by omega, by omega⟩
theorem cut_nil (s o l : Int) : cutL s o l [] [] = [] := by
  have e : which s [] [] = [] := by unfold which; split <;> (try split) <;> rfl
  unfold cutL; rw [e]; simp
theorem lines_nil0 (s : Int) (w : World) (h : s = 0 ∨ s = 1) :
    Calls Try.prog 24 #[.pointer none, .agg #[.int .i64 s, .int .i64 0, .int .i64 0]] w fun e w' => e = .returned (.tuple #[.int .i64 0, .int .i64 0]) ∧ Below w.heap.size w w' := by
  have h := lines_yes none s 0 0 [] [] 0 w (hd_nil_src h) (Nat.zero_le _) (bf_nil w 0)
  rw [cut_nil] at h
  exact h
theorem read_nil0 (s : Int) (w : World) (h : s = 0 ∨ s = 1) :
    Calls Try.prog 20 #[.pointer none, .agg #[.int .i64 s, .int .i64 0, .int .i64 0]] w fun e w' => ∃ ao c, e = .returned (.tuple #[.slice ao 0 c, .int .i64 0]) ∧ Below w.heap.size w w' := by
  refine (read_yes none s 0 0 [] [] 0 w (hd_nil_src h) (Nat.zero_le _) (by omega) (bf_nil w 0)).mono ?_
  rintro e w' ⟨ao, c, rfl, _, hb⟩
  exact ⟨ao, c, rfl, hb⟩
theorem holds_nil0 (s : Int) (w : World) (h : s = 0 ∨ s = 1) :
    Calls Try.prog 22 #[.pointer none, .agg #[.int .i64 s, .int .i64 0, .int .i64 0]] w fun e w' => e = .returned (.bool true) ∧ Below w.heap.size w w' := by
  have h2 := holds_any none s 0 0 [] [] 0 w (by omega) (by omega) (bf_nil w 0)
  have e : hdB s 0 0 [] [] = true := hd_true (o := 0) (l := 0) (hd_nil_src h) (Nat.zero_le _)
  rw [e] at h2
  exact h2

theorem hd_nil_cases {s o l : Int} (h : hdB s o l [] [] = false) :
    ((s == 0) = false ∧ (s == 1) = false) ∨ ((s = 0 ∨ s = 1) ∧ (o == 0) = false) ∨ ((s = 0 ∨ s = 1) ∧ o = 0 ∧ (l == 0) = false) := by
  by_cases h0 : s = 0 ∨ s = 1
  · by_cases h1 : o = 0
    · by_cases h2 : l = 0
      · exfalso
        subst h1 h2
        have e : hdB s 0 0 [] [] = true := hd_true (o := 0) (l := 0) (hd_nil_src h0) (Nat.zero_le _)
        rw [e] at h
        cases h
      · exact .inr (.inr ⟨h0, h1, by simpa using h2⟩)
    · exact .inr (.inl ⟨h0, by simpa using h1⟩)
  · refine .inl ⟨?_, ?_⟩
    · simp; omega
    · simp; omega

theorem holds_off (s o l : Int) (w : World) (h1 : -9223372036854775808 ≤ l) (h2 : l ≤ 9223372036854775807) (h : hdB s o l [] [] = false) :
    Calls Try.prog 22 #[.pointer none, .agg #[.int .i64 s, .int .i64 o, .int .i64 l]] w fun e w' => e = .returned (.bool false) ∧ Below w.heap.size w w' := by
  have h3 := holds_any none s o l [] [] 0 w h1 h2 (bf_nil w 0)
  rwa [h] at h3

set_option maxHeartbeats 800000 in
theorem nil_yes (v : Value) (s : Int) (w : World) (hs : s = 0 ∨ s = 1) :
    Calls Try.prog 7 #[v, .agg #[.int .i64 s, .int .i64 0, .int .i64 0]] w fun e w' => e = .returned (.bool true) ∧ Below w.heap.size w w' := by
  rcases hs with h | h
  all_goals
    subst h
    go_enter Try.func7, Try.ntmps7
    go_wp2_with fail
    refine (awake_any _).mono ?_
    rintro e w1 ⟨rfl, hb⟩
    have A1 := (SpanAt.new w _ 0 0).keep hb
    have L1 : Below w.heap.size w w1 := (bAlloc (Below.refl _ _) _).trans (hb.mono (by simp))
    clear hb
    go_wp2_with fail
    refine (add_nil _ _).mono ?_
    rintro e w2 ⟨rfl, hb⟩
    have A2 := A1.keep hb
    have L2 := L1.trans (hb.mono L1.size)
    clear hb A1 L1
    obtain ⟨az, a0, a1, a2, -⟩ := id A2
    go_wp2_with fail
    refine (size_nil _ _).mono ?_
    rintro e w3 ⟨rfl, rfl⟩
    go_wp2_with fail
    refine (size_nil _ _).mono ?_
    rintro e w3 ⟨rfl, rfl⟩
    go_wp2_with fail
    refine (read_nil0 _ _ (by decide)).mono ?_
    rintro e w3 ⟨ao, c, rfl, hb⟩
    have A3 := A2.keep hb
    have L3 := L2.trans (hb.mono L2.size)
    clear hb A2 L2 az a0 a1 a2
    obtain ⟨az, a0, a1, a2, -⟩ := id A3
    go_wp2_with fail
    refine (lines_nil0 _ _ (by decide)).mono ?_
    rintro e w4 ⟨rfl, hb⟩
    have A4 := A3.keep hb
    have L4 := L3.trans (hb.mono L3.size)
    clear hb A3 L3 az a0 a1 a2
    obtain ⟨az, a0, a1, a2, -⟩ := id A4
    go_wp2_with fail
    refine (holds_nil0 _ _ (by decide)).mono ?_
    rintro e w5 ⟨rfl, hb⟩
    have L5 := L4.trans (hb.mono L4.size)
    clear hb A4 L4 az a0 a1 a2
    go_wp2
    go_ret
    exact ⟨rfl, L5⟩
set_option maxHeartbeats 800000 in
theorem nil_no (v : Value) (s o l : Int) (w : World) (h1 : -9223372036854775808 ≤ l) (h2 : l ≤ 9223372036854775807) (hd : hdB s o l [] [] = false) :
    Calls Try.prog 7 #[v, .agg #[.int .i64 s, .int .i64 o, .int .i64 l]] w fun e w' => e = .returned (.bool true) ∧ Below w.heap.size w w' := by
  have HD : Hid (hdB s o l [] [] = false) := hd
  rcases hd_nil_cases hd with ⟨e1, e2⟩ | ⟨e | e, e2⟩ | ⟨e | e, e2, e3⟩
  all_goals
    clear hd
    (try subst e)
    (try subst e2)
    go_enter Try.func7, Try.ntmps7
    go_wp2_with fail
    refine (awake_any _).mono ?_
    rintro e w1 ⟨rfl, hb⟩
    have A1 := (SpanAt.new w _ _ _).keep hb
    have L1 : Below w.heap.size w w1 := (bAlloc (Below.refl _ _) _).trans (hb.mono (by simp))
    clear hb
    go_wp2_with fail
    refine (add_nil _ _).mono ?_
    rintro e w2 ⟨rfl, hb⟩
    have A2 := A1.keep hb
    have L2 := L1.trans (hb.mono L1.size)
    clear hb A1 L1
    obtain ⟨az, a0, a1, a2, -⟩ := id A2
    go_wp2_with fail
    refine (size_nil _ _).mono ?_
    rintro e w3 ⟨rfl, rfl⟩
    go_wp2_with fail
    refine (size_nil _ _).mono ?_
    rintro e w3 ⟨rfl, rfl⟩
    go_wp2_with fail
    refine (read_no none _ _ _ [] [] 0 _ h1 h2 HD.out (bf_nil _ _)).mono ?_
    rintro e w3 ⟨rfl, hb⟩
    have A3 := A2.keep hb
    have L3 := L2.trans (hb.mono L2.size)
    clear hb A2 L2 az a0 a1 a2
    obtain ⟨az, a0, a1, a2, -⟩ := id A3
    go_wp2_with fail
    refine (lines_no none _ _ _ [] [] 0 _ h1 h2 HD.out (bf_nil _ _)).mono ?_
    rintro e w4 ⟨rfl, hb⟩
    have A4 := A3.keep hb
    have L4 := L3.trans (hb.mono L3.size)
    clear hb A3 L3 az a0 a1 a2
    obtain ⟨az, a0, a1, a2, -⟩ := id A4
    go_wp2_with fail
    refine (holds_off _ _ _ _ h1 h2 HD.out).mono ?_
    rintro e w5 ⟨rfl, hb⟩
    have L5 := L4.trans (hb.mono L4.size)
    clear hb A4 L4 az a0 a1 a2
    go_wp2
    go_ret
    exact ⟨rfl, L5⟩
theorem nil_walk (v : Value) (s o l : Int) (w : World) (h1 : -9223372036854775808 ≤ l) (h2 : l ≤ 9223372036854775807) :
    Calls Try.prog 7 #[v, .agg #[.int .i64 s, .int .i64 o, .int .i64 l]] w fun e w' => e = .returned (.bool true) ∧ Below w.heap.size w w' := by
  cases hd : hdB s o l [] [] with
  | false => exact nil_no v s o l w h1 h2 hd
  | true =>
    obtain ⟨o', l', rfl, rfl, hs, hh, _⟩ := hd_parts hd
    have e : which s [] [] = [] := by unfold which; split <;> (try split) <;> rfl
    rw [e] at hh
    simp at hh
    obtain ⟨rfl, rfl⟩ := hh
    unfold sndB at hs
    exact nil_yes v s w (of_decide_eq_true hs).1
end Go.Proofs.Ytfjfflkdcmpgnaa
