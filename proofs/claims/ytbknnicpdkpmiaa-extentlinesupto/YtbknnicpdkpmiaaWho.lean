/- extent.Whole and the reference's Whole: the range of lines. -/
import Derived.Test.YtbknnicpdkpmiaaSml
namespace Go.Proofs.Ytbknnicpdkpmiaa
open Go.RowKit

set_option maxRecDepth 8000
theorem pr_start {l : List UInt8} {k : Nat} (h : k ≤ nl l) : pr (aStart l (k : Int)) = .returned (.tuple #[.int .i64 (sp l k : Int), .int .i64 0]) := by unfold pr aStart ans; rw [ln_at h]; rfl
theorem pr_startN {l : List UInt8} {k : Int} (h : lnB l k = false) : pr (aStart l k) = .returned (.tuple #[.int .i64 0, .int .i64 2]) := by unfold pr aStart ans; rw [h]; rfl
theorem pr_end {l : List UInt8} {k : Nat} (h : k ≤ nl l) : pr (aEnd l (k : Int)) = .returned (.tuple #[.int .i64 (en l (sp l k) : Int), .int .i64 0]) := by unfold pr aEnd ans; rw [ln_at h]; rfl
/-- the error of a line's number -/
def lnE (l : List UInt8) (k : Int) : Int := if lnB l k then 0 else 2
theorem start_pair (l : List UInt8) (k : Int) : ∃ x : Int, pr (aStart l k) = .returned (.tuple #[.int .i64 x, .int .i64 (lnE l k)]) := by
  unfold pr aStart ans lnE
  cases lnB l k <;> exact ⟨_, rfl⟩
theorem end_pair (l : List UInt8) (k : Int) : ∃ x : Int, pr (aEnd l k) = .returned (.tuple #[.int .i64 x, .int .i64 (lnE l k)]) := by
  unfold pr aEnd ans lnE
  cases lnB l k <;> exact ⟨_, rfl⟩
theorem wh_no {l : List UInt8} {f t : Int} (h : (lnB l f && lnB l t && decide (f ≤ t)) = false) : wh l f t = rno := by unfold wh; rw [h]; rfl
theorem wh_yes {l : List UInt8} {f t : Nat} (h1 : f ≤ nl l) (h2 : t ≤ nl l) (h3 : f ≤ t) : wh l f t = whY l (sp l f) (en l (sp l t)) := by
  unfold wh; rw [ln_at h1, ln_at h2, decide_eq_true (by omega)]; rfl
theorem wh_cases {l : List UInt8} {f t : Int} (h : (lnB l f && lnB l t && decide (f ≤ t)) = true) : ∃ F T : Nat, f = F ∧ t = T ∧ F ≤ nl l ∧ T ≤ nl l ∧ F ≤ T := by
  simp only [Bool.and_eq_true, decide_eq_true_eq] at h
  obtain ⟨F, rfl, hF⟩ := ln_yes h.1.1
  obtain ⟨T, rfl, hT⟩ := ln_yes h.1.2
  exact ⟨F, T, rfl, rfl, hF, hT, by omega⟩
set_option maxHeartbeats 1000000 in
theorem whole_no (ao : Option Addr) (n c : Nat) (f t : Int) (l : List UInt8) (w : World) (hf : f ≤ 9223372036854775807) (ht : t ≤ 9223372036854775807) (HT : Hid (Tx w ao n c l)) (h : (lnB l f && lnB l t && decide (f ≤ t)) = false) :
    Calls Try.prog 12 #[.slice ao n c, .int .i64 f, .int .i64 t] w fun e w' => e = rt rno ∧ Below w.heap.size w w' := by
  have C1 := Hid.mk' (fun W (hb : Below w.heap.size w W) => start_any ao n c f l W hf (HT.out.keep hb))
  have C2 := Hid.mk' (fun W (hb : Below w.heap.size w W) => end_any ao n c t l W ht (HT.out.keep hb))
  obtain ⟨x, hx⟩ := start_pair l f
  obtain ⟨y, hy⟩ := end_pair l t
  rw [hx] at C1
  rw [hy] at C2
  unfold lnE at C1 C2
  clear hx hy
  have B0 := Hid.mk' (bAlloc (Below.refl _ w) (.cells #[.int .i64 0, .int .i64 0, .bool false, .bool false] 27))
  cases h1 : lnB l f with
  | false =>
    rw [h1] at C1
    simp only [Bool.false_eq_true, if_false] at C1
    generalize (if lnB l t = true then (0 : Int) else 2) = z at C2
    by_cases hz : z = 0
    · subst hz
      go_enter Try.func12, Try.ntmps12
      go_wp2_with (first | (go_at_call 28; refine (C1.out _ B0.out).mono ?_; rintro e w' ⟨rfl, hw⟩; have hq := hw.symm; subst hq; clear hw) | (go_at_call 29; refine (C2.out _ B0.out).mono ?_; rintro e w' ⟨rfl, hw⟩; have hq := hw.symm; subst hq; clear hw))
      all_goals exact bodyPost_ret (v := .tuple #[.agg #[.int .i64 (0), .int .i64 (0), .bool false, .bool false], .int .i64 2]) (by simp [results, Try.results12, go_sem]) rfl ⟨rfl, bAlloc (Below.refl _ _) _⟩
    · have hz1 : (z != 0) = true := by simpa using hz
      have hz2 : (z == 0) = false := by simpa using hz
      go_enter Try.func12, Try.ntmps12
      go_wp2_with (first | (go_at_call 28; refine (C1.out _ B0.out).mono ?_; rintro e w' ⟨rfl, hw⟩; have hq := hw.symm; subst hq; clear hw) | (go_at_call 29; refine (C2.out _ B0.out).mono ?_; rintro e w' ⟨rfl, hw⟩; have hq := hw.symm; subst hq; clear hw))
      all_goals exact bodyPost_ret (v := .tuple #[.agg #[.int .i64 (0), .int .i64 (0), .bool false, .bool false], .int .i64 2]) (by simp [results, Try.results12, go_sem]) rfl ⟨rfl, bAlloc (Below.refl _ _) _⟩
  | true =>
    rw [h1] at C1 h
    simp only [if_true] at C1
    cases h2 : lnB l t with
    | false =>
      rw [h2] at C2
      simp only [Bool.false_eq_true, if_false] at C2
      go_enter Try.func12, Try.ntmps12
      go_wp2_with (first | (go_at_call 28; refine (C1.out _ B0.out).mono ?_; rintro e w' ⟨rfl, hw⟩; have hq := hw.symm; subst hq; clear hw) | (go_at_call 29; refine (C2.out _ B0.out).mono ?_; rintro e w' ⟨rfl, hw⟩; have hq := hw.symm; subst hq; clear hw))
      all_goals exact bodyPost_ret (v := .tuple #[.agg #[.int .i64 (0), .int .i64 (0), .bool false, .bool false], .int .i64 2]) (by simp [results, Try.results12, go_sem]) rfl ⟨rfl, bAlloc (Below.refl _ _) _⟩
    | true =>
      rw [h2] at C2 h
      simp only [if_true] at C2
      have h3 : ¬ f ≤ t := by simpa using h
      have h4 : t < f := by omega
      clear h h3
      go_enter Try.func12, Try.ntmps12
      go_wp2_with (first | (go_at_call 28; refine (C1.out _ B0.out).mono ?_; rintro e w' ⟨rfl, hw⟩; have hq := hw.symm; subst hq; clear hw) | (go_at_call 29; refine (C2.out _ B0.out).mono ?_; rintro e w' ⟨rfl, hw⟩; have hq := hw.symm; subst hq; clear hw))
      all_goals exact bodyPost_ret (v := .tuple #[.agg #[.int .i64 (0), .int .i64 (0), .bool false, .bool false], .int .i64 2]) (by simp [results, Try.results12, go_sem]) rfl ⟨rfl, bAlloc (Below.refl _ _) _⟩
set_option maxHeartbeats 1000000 in
theorem rwhole_no (ao : Option Addr) (n c : Nat) (f t : Int) (l : List UInt8) (w : World) (hf : f ≤ 9223372036854775807) (ht : t ≤ 9223372036854775807) (HT : Hid (Tx w ao n c l)) (h : (lnB l f && lnB l t && decide (f ≤ t)) = false) :
    Calls Try.prog 11 #[.slice ao n c, .int .i64 f, .int .i64 t] w fun e w' => e = rt rno ∧ Below w.heap.size w w' := by
  have C1 := Hid.mk' (fun W (hb : Below w.heap.size w W) => refStart_any ao n c f l W hf (HT.out.keep hb))
  have C2 := Hid.mk' (fun W (hb : Below w.heap.size w W) => refStart_any ao n c t l W ht (HT.out.keep hb))
  obtain ⟨x, hx⟩ := start_pair l f
  obtain ⟨y, hy⟩ := start_pair l t
  rw [hx] at C1
  rw [hy] at C2
  unfold lnE at C1 C2
  clear hx hy
  have B0 := Hid.mk' (bAlloc (Below.refl _ w) (.cells #[.int .i64 0, .int .i64 0, .bool false, .bool false] 27))
  cases h1 : lnB l f with
  | false =>
    rw [h1] at C1
    simp only [Bool.false_eq_true, if_false] at C1
    generalize (if lnB l t = true then (0 : Int) else 2) = z at C2
    by_cases hz : z = 0
    · subst hz
      go_enter Try.func11, Try.ntmps11
      go_wp2_with fail
      refine (C1.out _ B0.out).mono ?_
      rintro e w' ⟨rfl, hw⟩
      have hq := hw.symm
      subst hq
      clear hw
      go_wp2_with fail
      refine (C2.out _ B0.out).mono ?_
      rintro e w' ⟨rfl, hw⟩
      have hq := hw.symm
      subst hq
      clear hw
      go_wp2
      all_goals exact bodyPost_ret (v := .tuple #[.agg #[.int .i64 (0), .int .i64 (0), .bool false, .bool false], .int .i64 2]) (by simp [results, Try.results11, go_sem]) rfl ⟨rfl, bAlloc (Below.refl _ _) _⟩
    · have hz1 : (z != 0) = true := by simpa using hz
      have hz2 : (z == 0) = false := by simpa using hz
      go_enter Try.func11, Try.ntmps11
      go_wp2_with fail
      refine (C1.out _ B0.out).mono ?_
      rintro e w' ⟨rfl, hw⟩
      have hq := hw.symm
      subst hq
      clear hw
      go_wp2_with fail
      refine (C2.out _ B0.out).mono ?_
      rintro e w' ⟨rfl, hw⟩
      have hq := hw.symm
      subst hq
      clear hw
      go_wp2
      all_goals exact bodyPost_ret (v := .tuple #[.agg #[.int .i64 (0), .int .i64 (0), .bool false, .bool false], .int .i64 2]) (by simp [results, Try.results11, go_sem]) rfl ⟨rfl, bAlloc (Below.refl _ _) _⟩
  | true =>
    rw [h1] at C1 h
    simp only [if_true] at C1
    cases h2 : lnB l t with
    | false =>
      rw [h2] at C2
      simp only [Bool.false_eq_true, if_false] at C2
      go_enter Try.func11, Try.ntmps11
      go_wp2_with fail
      refine (C1.out _ B0.out).mono ?_
      rintro e w' ⟨rfl, hw⟩
      have hq := hw.symm
      subst hq
      clear hw
      go_wp2_with fail
      refine (C2.out _ B0.out).mono ?_
      rintro e w' ⟨rfl, hw⟩
      have hq := hw.symm
      subst hq
      clear hw
      go_wp2
      all_goals exact bodyPost_ret (v := .tuple #[.agg #[.int .i64 (0), .int .i64 (0), .bool false, .bool false], .int .i64 2]) (by simp [results, Try.results11, go_sem]) rfl ⟨rfl, bAlloc (Below.refl _ _) _⟩
    | true =>
      rw [h2] at C2 h
      simp only [if_true] at C2
      have h3 : ¬ f ≤ t := by simpa using h
      have h4 : t < f := by omega
      clear h h3
      go_enter Try.func11, Try.ntmps11
      go_wp2_with fail
      refine (C1.out _ B0.out).mono ?_
      rintro e w' ⟨rfl, hw⟩
      have hq := hw.symm
      subst hq
      clear hw
      go_wp2_with fail
      refine (C2.out _ B0.out).mono ?_
      rintro e w' ⟨rfl, hw⟩
      have hq := hw.symm
      subst hq
      clear hw
      go_wp2
      all_goals exact bodyPost_ret (v := .tuple #[.agg #[.int .i64 (0), .int .i64 (0), .bool false, .bool false], .int .i64 2]) (by simp [results, Try.results11, go_sem]) rfl ⟨rfl, bAlloc (Below.refl _ _) _⟩
set_option maxHeartbeats 1000000 in
theorem whole_yes (ao : Option Addr) (n c f t : Nat) (l : List UInt8) (w : World) (h1 : f ≤ nl l) (h2 : t ≤ nl l) (h3 : f ≤ t) (HT : Hid (Tx w ao n c l)) :
    Calls Try.prog 12 #[.slice ao n c, .int .i64 (f : Int), .int .i64 (t : Int)] w fun e w' => e = rt (whY l (sp l f) (en l (sp l t))) ∧ Below w.heap.size w w' := by
  have hlen := HT.out.len
  have hbig := HT.out.big
  have hnl := nl_le l
  have C1 := Hid.mk' (fun W (hb : Below w.heap.size w W) => start_any ao n c (f : Int) l W (by omega) (HT.out.keep hb))
  have C2 := Hid.mk' (fun W (hb : Below w.heap.size w W) => end_any ao n c (t : Int) l W (by omega) (HT.out.keep hb))
  rw [pr_start h1] at C1
  rw [pr_end h2] at C2
  have hs : sp l f ≤ n := by have := sp_le h1; omega
  have he : en l (sp l t) ≤ n := by have := en_le (sp_le h2); omega
  have B0 := Hid.mk' (bAlloc (Below.refl _ w) (.cells #[.int .i64 0, .int .i64 0, .bool false, .bool false] 27))
  unfold whY
  generalize sp l f = s at *
  generalize en l (sp l t) = E at *
  rw [hlen]
  have h3' : (f : Int) ≤ t := by omega
  have hb1 : (n : Int) ≤ 140737488355328 := by omega
  clear hbig hnl h1 h2 h3 hlen
  by_cases hE : E < n
  · rw [if_pos hE]
    have hE' : (E : Int) < n := by omega
    go_enter Try.func12, Try.ntmps12
    go_wp2_with (first | (go_at_call 28; refine (C1.out _ B0.out).mono ?_; rintro e w' ⟨rfl, hw⟩; have hq := hw.symm; subst hq; clear hw) | (go_at_call 29; refine (C2.out _ B0.out).mono ?_; rintro e w' ⟨rfl, hw⟩; have hq := hw.symm; subst hq; clear hw))
    all_goals exact bodyPost_ret (v := .tuple #[.agg #[.int .i64 ((s : Int)), .int .i64 ((E : Int) + 1), .bool true, .bool false], .int .i64 0]) (by simp [results, Try.results12, go_sem]) rfl ⟨rfl, bAlloc (Below.refl _ _) _⟩
  · rw [if_neg hE]
    have hE' : ¬ (E : Int) < n := by omega
    by_cases hs0 : 0 < s
    · rw [if_pos hs0]
      have hs0' : (0 : Int) < s := by omega
      go_enter Try.func12, Try.ntmps12
      go_wp2_with (first | (go_at_call 28; refine (C1.out _ B0.out).mono ?_; rintro e w' ⟨rfl, hw⟩; have hq := hw.symm; subst hq; clear hw) | (go_at_call 29; refine (C2.out _ B0.out).mono ?_; rintro e w' ⟨rfl, hw⟩; have hq := hw.symm; subst hq; clear hw))
      all_goals exact bodyPost_ret (v := .tuple #[.agg #[.int .i64 ((s : Int) - 1), .int .i64 ((E : Int)), .bool true, .bool true], .int .i64 0]) (by simp [results, Try.results12, go_sem]) rfl ⟨rfl, bAlloc (Below.refl _ _) _⟩
    · rw [if_neg hs0]
      obtain rfl : s = 0 := by omega
      go_enter Try.func12, Try.ntmps12
      go_wp2_with (first | (go_at_call 28; refine (C1.out _ B0.out).mono ?_; rintro e w' ⟨rfl, hw⟩; have hq := hw.symm; subst hq; clear hw) | (go_at_call 29; refine (C2.out _ B0.out).mono ?_; rintro e w' ⟨rfl, hw⟩; have hq := hw.symm; subst hq; clear hw))
      all_goals exact bodyPost_ret (v := .tuple #[.agg #[.int .i64 (0), .int .i64 ((E : Int)), .bool true, .bool false], .int .i64 0]) (by simp [results, Try.results12, go_sem]) rfl ⟨rfl, bAlloc (Below.refl _ _) _⟩
set_option maxHeartbeats 1000000 in
theorem rwhole_yes (ao : Option Addr) (n c f t : Nat) (l : List UInt8) (w : World) (h1 : f ≤ nl l) (h2 : t ≤ nl l) (h3 : f ≤ t) (HT : Hid (Tx w ao n c l)) :
    Calls Try.prog 11 #[.slice ao n c, .int .i64 (f : Int), .int .i64 (t : Int)] w fun e w' => e = rt (whY l (sp l f) (en l (sp l t))) ∧ Below w.heap.size w w' := by
  have hlen := HT.out.len
  have hbig := HT.out.big
  have hnl := nl_le l
  have C1 := Hid.mk' (fun W (hb : Below w.heap.size w W) => refStart_any ao n c (f : Int) l W (by omega) (HT.out.keep hb))
  have C2 := Hid.mk' (fun W (hb : Below w.heap.size w W) => refStart_any ao n c (t : Int) l W (by omega) (HT.out.keep hb))
  have C3 := Hid.mk' (fun W (hb : Below w.heap.size w W) => refStart_any ao n c ((t : Int) + 1) l W (by omega) (HT.out.keep hb))
  rw [pr_start h1] at C1
  rw [pr_start h2] at C2
  have hs : sp l f ≤ n := by have := sp_le h1; omega
  have he : en l (sp l t) ≤ n := by have := en_le (sp_le h2); omega
  have B0 := Hid.mk' (bAlloc (Below.refl _ w) (.cells #[.int .i64 0, .int .i64 0, .bool false, .bool false] 27))
  have hw1 : IntKind.i64.wrap ((t : Int) + 1) = (t : Int) + 1 := by rw [IntKind.wrap_i64]; omega
  have hsf : 0 < f → 0 < sp l f := fun h => by
    rcases Nat.eq_zero_or_pos (sp l f) with h0 | h0
    · have := (sp_st h1).num
      rw [h0] at this
      have e : nl (l.take 0) = 0 := rfl
      omega
    · exact h0
  have h3' : (f : Int) ≤ t := by omega
  have hb1 : (n : Int) ≤ 140737488355328 := by omega
  have ht1 : (t : Int) ≤ 140737488355328 := by omega
  unfold whY
  rw [hlen]
  by_cases hE : t + 1 ≤ nl l
  · obtain ⟨q1, q2⟩ := sp_next hE
    rw [if_pos (by omega)]
    have e1 : pr (aStart l ((t : Int) + 1)) = .returned (.tuple #[.int .i64 ((en l (sp l t) : Int) + 1), .int .i64 0]) := by
      have := pr_start hE
      rw [q2] at this
      exact this
    rw [e1] at C3
    clear q1 q2 e1 hsf
    generalize sp l f = s at *
    generalize en l (sp l t) = E at *
    generalize sp l t = S2 at *
    clear hbig hnl h1 h2 h3 hlen hE
    go_enter Try.func11, Try.ntmps11
    go_wp2_with fail
    refine (C1.out _ B0.out).mono ?_
    rintro e w' ⟨rfl, hw⟩
    have hq := hw.symm
    subst hq
    clear hw
    go_wp2_with fail
    refine (C2.out _ B0.out).mono ?_
    rintro e w' ⟨rfl, hw⟩
    have hq := hw.symm
    subst hq
    clear hw
    go_wp2_with fail
    refine (C3.out _ B0.out).mono ?_
    rintro e w' ⟨rfl, hw⟩
    have hq := hw.symm
    subst hq
    clear hw
    go_wp2
    all_goals exact bodyPost_ret (v := .tuple #[.agg #[.int .i64 ((s : Int)), .int .i64 ((E : Int) + 1), .bool true, .bool false], .int .i64 0]) (by simp [results, Try.results11, go_sem]) rfl ⟨rfl, bAlloc (Below.refl _ _) _⟩
  · have q1 : en l (sp l t) = n := by
      rcases Nat.lt_or_ge (en l (sp l t)) l.length with h | h
      · have := ((sp_st h2).next h).low; omega
      · omega
    rw [if_neg (by omega), q1]
    have e1 : pr (aStart l ((t : Int) + 1)) = .returned (.tuple #[.int .i64 0, .int .i64 2]) := pr_startN (decide_eq_false (by omega))
    rw [e1] at C3
    clear e1 q1 he
    by_cases hf0 : 0 < f
    · have hs0 := hsf hf0
      rw [if_pos hs0]
      have hs0' : (0 : Int) < sp l f := by omega
      have hf0' : (0 : Int) < f := by omega
      clear hsf
      generalize sp l f = s at *
      generalize sp l t = S2 at *
      clear hbig hnl h1 h2 h3 hlen hE
      go_enter Try.func11, Try.ntmps11
      go_wp2_with fail
      refine (C1.out _ B0.out).mono ?_
      rintro e w' ⟨rfl, hw⟩
      have hq := hw.symm
      subst hq
      clear hw
      go_wp2_with fail
      refine (C2.out _ B0.out).mono ?_
      rintro e w' ⟨rfl, hw⟩
      have hq := hw.symm
      subst hq
      clear hw
      go_wp2_with fail
      refine (C3.out _ B0.out).mono ?_
      rintro e w' ⟨rfl, hw⟩
      have hq := hw.symm
      subst hq
      clear hw
      go_wp2
      all_goals exact bodyPost_ret (v := .tuple #[.agg #[.int .i64 ((s : Int) - 1), .int .i64 ((n : Int)), .bool true, .bool true], .int .i64 0]) (by simp [results, Try.results11, go_sem]) rfl ⟨rfl, bAlloc (Below.refl _ _) _⟩
    · obtain rfl : f = 0 := by omega
      rw [sp_zero] at C1 ⊢
      rw [if_neg (by omega)]
      clear hsf
      generalize sp l t = S2 at *
      clear hbig hnl h1 h2 h3 hlen hE hs
      go_enter Try.func11, Try.ntmps11
      go_wp2_with fail
      refine (C1.out _ B0.out).mono ?_
      rintro e w' ⟨rfl, hw⟩
      have hq := hw.symm
      subst hq
      clear hw
      go_wp2_with fail
      refine (C2.out _ B0.out).mono ?_
      rintro e w' ⟨rfl, hw⟩
      have hq := hw.symm
      subst hq
      clear hw
      go_wp2_with fail
      refine (C3.out _ B0.out).mono ?_
      rintro e w' ⟨rfl, hw⟩
      have hq := hw.symm
      subst hq
      clear hw
      go_wp2
      all_goals exact bodyPost_ret (v := .tuple #[.agg #[.int .i64 (0), .int .i64 ((n : Int)), .bool true, .bool false], .int .i64 0]) (by simp [results, Try.results11, go_sem]) rfl ⟨rfl, bAlloc (Below.refl _ _) _⟩
theorem whole_any (ao : Option Addr) (n c : Nat) (f t : Int) (l : List UInt8) (w : World) (hf : f ≤ 9223372036854775807) (ht : t ≤ 9223372036854775807) (HT : Hid (Tx w ao n c l)) :
    Calls Try.prog 12 #[.slice ao n c, .int .i64 f, .int .i64 t] w fun e w' => e = rt (wh l f t) ∧ Below w.heap.size w w' := by
  cases h : (lnB l f && lnB l t && decide (f ≤ t)) with
  | false => rw [wh_no h]; exact whole_no ao n c f t l w hf ht HT h
  | true =>
    obtain ⟨F, T, rfl, rfl, h1, h2, h3⟩ := wh_cases h
    rw [wh_yes h1 h2 h3]
    exact whole_yes ao n c F T l w h1 h2 h3 HT
theorem rwhole_any (ao : Option Addr) (n c : Nat) (f t : Int) (l : List UInt8) (w : World) (hf : f ≤ 9223372036854775807) (ht : t ≤ 9223372036854775807) (HT : Hid (Tx w ao n c l)) :
    Calls Try.prog 11 #[.slice ao n c, .int .i64 f, .int .i64 t] w fun e w' => e = rt (wh l f t) ∧ Below w.heap.size w w' := by
  cases h : (lnB l f && lnB l t && decide (f ≤ t)) with
  | false => rw [wh_no h]; exact rwhole_no ao n c f t l w hf ht HT h
  | true =>
    obtain ⟨F, T, rfl, rfl, h1, h2, h3⟩ := wh_cases h
    rw [wh_yes h1 h2 h3]
    exact rwhole_yes ao n c F T l w h1 h2 h3 HT

end Go.Proofs.Ytbknnicpdkpmiaa
