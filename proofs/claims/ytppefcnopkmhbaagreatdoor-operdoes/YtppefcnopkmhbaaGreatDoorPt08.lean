/- Who, Cls, Op1 -/
import Derived.Test.YtppefcnopkmhbaaGreatDoorPt07
import Derived.Test.YtppefcnopkmhbaaGreatDoorPt01
import Derived.Test.YtppefcnopkmhbaaGreatDoorPt04
namespace Go.Proofs.YtppefcnopkmhbaaGreatDoor
open Go.RowKit

set_option maxRecDepth 8000
theorem pr_start {l : List UInt8} {k : Nat} (h : k ≤ nl l) : pr (aStart l (k : Int)) = .returned (.tuple #[.int .i64 (sp l k : Int), .int .i64 0]) := by unfold pr aStart ans; rw [ln_at h]; rfl
theorem pr_startN {l : List UInt8} {k : Int} (h : lnB l k = false) : pr (aStart l k) = .returned (.tuple #[.int .i64 0, .int .i64 2]) := by unfold pr aStart ans; rw [h]; rfl
theorem pr_end {l : List UInt8} {k : Nat} (h : k ≤ nl l) : pr (aEnd l (k : Int)) = .returned (.tuple #[.int .i64 (en l (sp l k) : Int), .int .i64 0]) := by unfold pr aEnd ans; rw [ln_at h]; rfl
/-- the error of a line's number -/
def lnE (l : List UInt8) (k : Int) : Int := if lnB l k then 0 else 2
theorem start_pair (l : List UInt8) (k : Int) : ∃ x : Int, pr (aStart l k) = .returned (.tuple #[.int .i64 x, .int .i64 (lnE l k)]) := by
  unfold pr aStart ans lnE
  cases lnB l k <;> exact ⟨_, rfl⟩
theorem end_pair (l : List UInt8) (k : Int) : ∃ x : Int, pr (aEnd l k) = .returned (.tuple #[.int .i64 x, .int .i64 (lnE l k)]) := by
  unfold pr aEnd ans lnE
  cases lnB l k <;> exact ⟨_, rfl⟩
theorem wh_no {l : List UInt8} {f t : Int} (h : (lnB l f && lnB l t && decide (f ≤ t)) = false) : wh l f t = rno := by unfold wh; rw [h]; rfl
theorem wh_yes {l : List UInt8} {f t : Nat} (h1 : f ≤ nl l) (h2 : t ≤ nl l) (h3 : f ≤ t) : wh l f t = whY l (sp l f) (en l (sp l t)) := by
  unfold wh; rw [ln_at h1, ln_at h2, decide_eq_true (by omega)]; rfl
theorem wh_cases {l : List UInt8} {f t : Int} (h : (lnB l f && lnB l t && decide (f ≤ t)) = true) : ∃ F T : Nat, f = F ∧ t = T ∧ F ≤ nl l ∧ T ≤ nl l ∧ F ≤ T := by
  simp only [Bool.and_eq_true, decide_eq_true_eq] at h
  obtain ⟨F, rfl, hF⟩ := ln_yes h.1.1
  obtain ⟨T, rfl, hT⟩ := ln_yes h.1.2
  exact ⟨F, T, rfl, rfl, hF, hT, by omega⟩
set_option maxHeartbeats 1000000 in
theorem whole_no (ao : Option Addr) (n c : Nat) (f t : Int) (l : List UInt8) (w : World) (hf : f ≤ 9223372036854775807) (ht : t ≤ 9223372036854775807) (HT : Hid (Tx w ao n c l)) (h : (lnB l f && lnB l t && decide (f ≤ t)) = false) :
    Calls Tryz.prog 111 #[.slice ao n c, .int .i64 f, .int .i64 t] w fun e w' => e = rt rno ∧ Below w.heap.size w w' := by
  have C1 := Hid.mk' (fun W (hb : Below w.heap.size w W) => start_any ao n c f l W hf (HT.out.keep hb))
  have C2 := Hid.mk' (fun W (hb : Below w.heap.size w W) => end_any ao n c t l W ht (HT.out.keep hb))
  obtain ⟨x, hx⟩ := start_pair l f
  obtain ⟨y, hy⟩ := end_pair l t
  rw [hx] at C1
  rw [hy] at C2
  unfold lnE at C1 C2
  clear hx hy
  have B0 := Hid.mk' (bAlloc (Below.refl _ w) (.cells #[.int .i64 0, .int .i64 0, .bool false, .bool false] 28))
  cases h1 : lnB l f with
  | false =>
    rw [h1] at C1
    simp only [Bool.false_eq_true, if_false] at C1
    generalize (if lnB l t = true then (0 : Int) else 2) = z at C2
    by_cases hz : z = 0
    · subst hz
      go_enter Tryz.func111, Tryz.ntmps111
      go_wp2_with (first | (go_at_call 82; refine (C1.out _ B0.out).mono ?_; rintro e w' ⟨rfl, hw⟩; have hq := hw.symm; subst hq; clear hw) | (go_at_call 99; refine (C2.out _ B0.out).mono ?_; rintro e w' ⟨rfl, hw⟩; have hq := hw.symm; subst hq; clear hw))
      all_goals exact bodyPost_ret (v := .tuple #[.agg #[.int .i64 (0), .int .i64 (0), .bool false, .bool false], .int .i64 2]) (by simp [results, Tryz.results111, go_sem]) rfl ⟨rfl, bAlloc (Below.refl _ _) _⟩
    · have hz1 : (z != 0) = true := by simpa using hz
      have hz2 : (z == 0) = false := by simpa using hz
      go_enter Tryz.func111, Tryz.ntmps111
      go_wp2_with (first | (go_at_call 82; refine (C1.out _ B0.out).mono ?_; rintro e w' ⟨rfl, hw⟩; have hq := hw.symm; subst hq; clear hw) | (go_at_call 99; refine (C2.out _ B0.out).mono ?_; rintro e w' ⟨rfl, hw⟩; have hq := hw.symm; subst hq; clear hw))
      all_goals exact bodyPost_ret (v := .tuple #[.agg #[.int .i64 (0), .int .i64 (0), .bool false, .bool false], .int .i64 2]) (by simp [results, Tryz.results111, go_sem]) rfl ⟨rfl, bAlloc (Below.refl _ _) _⟩
  | true =>
    rw [h1] at C1 h
    simp only [if_true] at C1
    cases h2 : lnB l t with
    | false =>
      rw [h2] at C2
      simp only [Bool.false_eq_true, if_false] at C2
      go_enter Tryz.func111, Tryz.ntmps111
      go_wp2_with (first | (go_at_call 82; refine (C1.out _ B0.out).mono ?_; rintro e w' ⟨rfl, hw⟩; have hq := hw.symm; subst hq; clear hw) | (go_at_call 99; refine (C2.out _ B0.out).mono ?_; rintro e w' ⟨rfl, hw⟩; have hq := hw.symm; subst hq; clear hw))
      all_goals exact bodyPost_ret (v := .tuple #[.agg #[.int .i64 (0), .int .i64 (0), .bool false, .bool false], .int .i64 2]) (by simp [results, Tryz.results111, go_sem]) rfl ⟨rfl, bAlloc (Below.refl _ _) _⟩
    | true =>
      rw [h2] at C2 h
      simp only [if_true] at C2
      have h3 : ¬ f ≤ t := by simpa using h
      have h4 : t < f := by omega
      clear h h3
      go_enter Tryz.func111, Tryz.ntmps111
      go_wp2_with (first | (go_at_call 82; refine (C1.out _ B0.out).mono ?_; rintro e w' ⟨rfl, hw⟩; have hq := hw.symm; subst hq; clear hw) | (go_at_call 99; refine (C2.out _ B0.out).mono ?_; rintro e w' ⟨rfl, hw⟩; have hq := hw.symm; subst hq; clear hw))
      all_goals exact bodyPost_ret (v := .tuple #[.agg #[.int .i64 (0), .int .i64 (0), .bool false, .bool false], .int .i64 2]) (by simp [results, Tryz.results111, go_sem]) rfl ⟨rfl, bAlloc (Below.refl _ _) _⟩
set_option maxHeartbeats 1000000 in
theorem rwhole_no (ao : Option Addr) (n c : Nat) (f t : Int) (l : List UInt8) (w : World) (hf : f ≤ 9223372036854775807) (ht : t ≤ 9223372036854775807) (HT : Hid (Tx w ao n c l)) (h : (lnB l f && lnB l t && decide (f ≤ t)) = false) :
    Calls Tryz.prog 61 #[.slice ao n c, .int .i64 f, .int .i64 t] w fun e w' => e = rt rno ∧ Below w.heap.size w w' := by
  have C1 := Hid.mk' (fun W (hb : Below w.heap.size w W) => refStart_any ao n c f l W hf (HT.out.keep hb))
  have C2 := Hid.mk' (fun W (hb : Below w.heap.size w W) => refStart_any ao n c t l W ht (HT.out.keep hb))
  obtain ⟨x, hx⟩ := start_pair l f
  obtain ⟨y, hy⟩ := start_pair l t
  rw [hx] at C1
  rw [hy] at C2
  unfold lnE at C1 C2
  clear hx hy
  have B0 := Hid.mk' (bAlloc (Below.refl _ w) (.cells #[.int .i64 0, .int .i64 0, .bool false, .bool false] 28))
  cases h1 : lnB l f with
  | false =>
    rw [h1] at C1
    simp only [Bool.false_eq_true, if_false] at C1
    generalize (if lnB l t = true then (0 : Int) else 2) = z at C2
    by_cases hz : z = 0
    · subst hz
      go_enter Tryz.func61, Tryz.ntmps61
      go_wp2_with fail
      refine (C1.out _ B0.out).mono ?_
      rintro e w' ⟨rfl, hw⟩
      have hq := hw.symm
      subst hq
      clear hw
      go_wp2_with fail
      refine (C2.out _ B0.out).mono ?_
      rintro e w' ⟨rfl, hw⟩
      have hq := hw.symm
      subst hq
      clear hw
      go_wp2
      all_goals exact bodyPost_ret (v := .tuple #[.agg #[.int .i64 (0), .int .i64 (0), .bool false, .bool false], .int .i64 2]) (by simp [results, Tryz.results61, go_sem]) rfl ⟨rfl, bAlloc (Below.refl _ _) _⟩
    · have hz1 : (z != 0) = true := by simpa using hz
      have hz2 : (z == 0) = false := by simpa using hz
      go_enter Tryz.func61, Tryz.ntmps61
      go_wp2_with fail
      refine (C1.out _ B0.out).mono ?_
      rintro e w' ⟨rfl, hw⟩
      have hq := hw.symm
      subst hq
      clear hw
      go_wp2_with fail
      refine (C2.out _ B0.out).mono ?_
      rintro e w' ⟨rfl, hw⟩
      have hq := hw.symm
      subst hq
      clear hw
      go_wp2
      all_goals exact bodyPost_ret (v := .tuple #[.agg #[.int .i64 (0), .int .i64 (0), .bool false, .bool false], .int .i64 2]) (by simp [results, Tryz.results61, go_sem]) rfl ⟨rfl, bAlloc (Below.refl _ _) _⟩
  | true =>
    rw [h1] at C1 h
    simp only [if_true] at C1
    cases h2 : lnB l t with
    | false =>
      rw [h2] at C2
      simp only [Bool.false_eq_true, if_false] at C2
      go_enter Tryz.func61, Tryz.ntmps61
      go_wp2_with fail
      refine (C1.out _ B0.out).mono ?_
      rintro e w' ⟨rfl, hw⟩
      have hq := hw.symm
      subst hq
      clear hw
      go_wp2_with fail
      refine (C2.out _ B0.out).mono ?_
      rintro e w' ⟨rfl, hw⟩
      have hq := hw.symm
      subst hq
      clear hw
      go_wp2
      all_goals exact bodyPost_ret (v := .tuple #[.agg #[.int .i64 (0), .int .i64 (0), .bool false, .bool false], .int .i64 2]) (by simp [results, Tryz.results61, go_sem]) rfl ⟨rfl, bAlloc (Below.refl _ _) _⟩
    | true =>
      rw [h2] at C2 h
      simp only [if_true] at C2
      have h3 : ¬ f ≤ t := by simpa using h
      have h4 : t < f := by omega
      clear h h3
      go_enter Tryz.func61, Tryz.ntmps61
      go_wp2_with fail
      refine (C1.out _ B0.out).mono ?_
      rintro e w' ⟨rfl, hw⟩
      have hq := hw.symm
      subst hq
      clear hw
      go_wp2_with fail
      refine (C2.out _ B0.out).mono ?_
      rintro e w' ⟨rfl, hw⟩
      have hq := hw.symm
      subst hq
      clear hw
      go_wp2
      all_goals exact bodyPost_ret (v := .tuple #[.agg #[.int .i64 (0), .int .i64 (0), .bool false, .bool false], .int .i64 2]) (by simp [results, Tryz.results61, go_sem]) rfl ⟨rfl, bAlloc (Below.refl _ _) _⟩
set_option maxHeartbeats 1000000 in
theorem whole_yes (ao : Option Addr) (n c f t : Nat) (l : List UInt8) (w : World) (h1 : f ≤ nl l) (h2 : t ≤ nl l) (h3 : f ≤ t) (HT : Hid (Tx w ao n c l)) :
    Calls Tryz.prog 111 #[.slice ao n c, .int .i64 (f : Int), .int .i64 (t : Int)] w fun e w' => e = rt (whY l (sp l f) (en l (sp l t))) ∧ Below w.heap.size w w' := by
  have hlen := HT.out.len
  have hbig := HT.out.big
  have hnl := nl_le l
  have C1 := Hid.mk' (fun W (hb : Below w.heap.size w W) => start_any ao n c (f : Int) l W (by omega) (HT.out.keep hb))
  have C2 := Hid.mk' (fun W (hb : Below w.heap.size w W) => end_any ao n c (t : Int) l W (by omega) (HT.out.keep hb))
  rw [pr_start h1] at C1
  rw [pr_end h2] at C2
  have hs : sp l f ≤ n := by have := sp_le h1; omega
  have he : en l (sp l t) ≤ n := by have := en_le (sp_le h2); omega
  have B0 := Hid.mk' (bAlloc (Below.refl _ w) (.cells #[.int .i64 0, .int .i64 0, .bool false, .bool false] 28))
  unfold whY
  generalize sp l f = s at *
  generalize en l (sp l t) = E at *
  rw [hlen]
  have h3' : (f : Int) ≤ t := by omega
  have hb1 : (n : Int) ≤ 150000000000000 := by omega
  clear hbig hnl h1 h2 h3 hlen
  by_cases hE : E < n
  · rw [if_pos hE]
    have hE' : (E : Int) < n := by omega
    go_enter Tryz.func111, Tryz.ntmps111
    go_wp2_with (first | (go_at_call 82; refine (C1.out _ B0.out).mono ?_; rintro e w' ⟨rfl, hw⟩; have hq := hw.symm; subst hq; clear hw) | (go_at_call 99; refine (C2.out _ B0.out).mono ?_; rintro e w' ⟨rfl, hw⟩; have hq := hw.symm; subst hq; clear hw))
    all_goals exact bodyPost_ret (v := .tuple #[.agg #[.int .i64 ((s : Int)), .int .i64 ((E : Int) + 1), .bool true, .bool false], .int .i64 0]) (by simp [results, Tryz.results111, go_sem]) rfl ⟨rfl, bAlloc (Below.refl _ _) _⟩
  · rw [if_neg hE]
    have hE' : ¬ (E : Int) < n := by omega
    by_cases hs0 : 0 < s
    · rw [if_pos hs0]
      have hs0' : (0 : Int) < s := by omega
      go_enter Tryz.func111, Tryz.ntmps111
      go_wp2_with (first | (go_at_call 82; refine (C1.out _ B0.out).mono ?_; rintro e w' ⟨rfl, hw⟩; have hq := hw.symm; subst hq; clear hw) | (go_at_call 99; refine (C2.out _ B0.out).mono ?_; rintro e w' ⟨rfl, hw⟩; have hq := hw.symm; subst hq; clear hw))
      all_goals exact bodyPost_ret (v := .tuple #[.agg #[.int .i64 ((s : Int) - 1), .int .i64 ((E : Int)), .bool true, .bool true], .int .i64 0]) (by simp [results, Tryz.results111, go_sem]) rfl ⟨rfl, bAlloc (Below.refl _ _) _⟩
    · rw [if_neg hs0]
      obtain rfl : s = 0 := by omega
      go_enter Tryz.func111, Tryz.ntmps111
      go_wp2_with (first | (go_at_call 82; refine (C1.out _ B0.out).mono ?_; rintro e w' ⟨rfl, hw⟩; have hq := hw.symm; subst hq; clear hw) | (go_at_call 99; refine (C2.out _ B0.out).mono ?_; rintro e w' ⟨rfl, hw⟩; have hq := hw.symm; subst hq; clear hw))
      all_goals exact bodyPost_ret (v := .tuple #[.agg #[.int .i64 (0), .int .i64 ((E : Int)), .bool true, .bool false], .int .i64 0]) (by simp [results, Tryz.results111, go_sem]) rfl ⟨rfl, bAlloc (Below.refl _ _) _⟩
set_option maxHeartbeats 1000000 in
theorem rwhole_yes (ao : Option Addr) (n c f t : Nat) (l : List UInt8) (w : World) (h1 : f ≤ nl l) (h2 : t ≤ nl l) (h3 : f ≤ t) (HT : Hid (Tx w ao n c l)) :
    Calls Tryz.prog 61 #[.slice ao n c, .int .i64 (f : Int), .int .i64 (t : Int)] w fun e w' => e = rt (whY l (sp l f) (en l (sp l t))) ∧ Below w.heap.size w w' := by
  have hlen := HT.out.len
  have hbig := HT.out.big
  have hnl := nl_le l
  have C1 := Hid.mk' (fun W (hb : Below w.heap.size w W) => refStart_any ao n c (f : Int) l W (by omega) (HT.out.keep hb))
  have C2 := Hid.mk' (fun W (hb : Below w.heap.size w W) => refStart_any ao n c (t : Int) l W (by omega) (HT.out.keep hb))
  have C3 := Hid.mk' (fun W (hb : Below w.heap.size w W) => refStart_any ao n c ((t : Int) + 1) l W (by omega) (HT.out.keep hb))
  rw [pr_start h1] at C1
  rw [pr_start h2] at C2
  have hs : sp l f ≤ n := by have := sp_le h1; omega
  have he : en l (sp l t) ≤ n := by have := en_le (sp_le h2); omega
  have B0 := Hid.mk' (bAlloc (Below.refl _ w) (.cells #[.int .i64 0, .int .i64 0, .bool false, .bool false] 28))
  have hw1 : IntKind.i64.wrap ((t : Int) + 1) = (t : Int) + 1 := by rw [IntKind.wrap_i64]; omega
  have hsf : 0 < f → 0 < sp l f := fun h => by
    rcases Nat.eq_zero_or_pos (sp l f) with h0 | h0
    · have := (sp_st h1).num
      rw [h0] at this
      have e : nl (l.take 0) = 0 := rfl
      omega
    · exact h0
  have h3' : (f : Int) ≤ t := by omega
  have hb1 : (n : Int) ≤ 150000000000000 := by omega
  have ht1 : (t : Int) ≤ 150000000000000 := by omega
  unfold whY
  rw [hlen]
  by_cases hE : t + 1 ≤ nl l
  · obtain ⟨q1, q2⟩ := sp_next hE
    rw [if_pos (by omega)]
    have e1 : pr (aStart l ((t : Int) + 1)) = .returned (.tuple #[.int .i64 ((en l (sp l t) : Int) + 1), .int .i64 0]) := by
      have := pr_start hE
      rw [q2] at this
      exact this
    rw [e1] at C3
    clear q1 q2 e1 hsf
    generalize sp l f = s at *
    generalize en l (sp l t) = E at *
    generalize sp l t = S2 at *
    clear hbig hnl h1 h2 h3 hlen hE
    go_enter Tryz.func61, Tryz.ntmps61
    go_wp2_with fail
    refine (C1.out _ B0.out).mono ?_
    rintro e w' ⟨rfl, hw⟩
    have hq := hw.symm
    subst hq
    clear hw
    go_wp2_with fail
    refine (C2.out _ B0.out).mono ?_
    rintro e w' ⟨rfl, hw⟩
    have hq := hw.symm
    subst hq
    clear hw
    go_wp2_with fail
    refine (C3.out _ B0.out).mono ?_
    rintro e w' ⟨rfl, hw⟩
    have hq := hw.symm
    subst hq
    clear hw
    go_wp2
    all_goals exact bodyPost_ret (v := .tuple #[.agg #[.int .i64 ((s : Int)), .int .i64 ((E : Int) + 1), .bool true, .bool false], .int .i64 0]) (by simp [results, Tryz.results61, go_sem]) rfl ⟨rfl, bAlloc (Below.refl _ _) _⟩
  · have q1 : en l (sp l t) = n := by
      rcases Nat.lt_or_ge (en l (sp l t)) l.length with h | h
      · have := ((sp_st h2).next h).low; omega
      · omega
    rw [if_neg (by omega), q1]
    have e1 : pr (aStart l ((t : Int) + 1)) = .returned (.tuple #[.int .i64 0, .int .i64 2]) := pr_startN (decide_eq_false (by omega))
    rw [e1] at C3
    clear e1 q1 he
    by_cases hf0 : 0 < f
    · have hs0 := hsf hf0
      rw [if_pos hs0]
      have hs0' : (0 : Int) < sp l f := by omega
      have hf0' : (0 : Int) < f := by omega
      clear hsf
      generalize sp l f = s at *
      generalize sp l t = S2 at *
      clear hbig hnl h1 h2 h3 hlen hE
      go_enter Tryz.func61, Tryz.ntmps61
      go_wp2_with fail
      refine (C1.out _ B0.out).mono ?_
      rintro e w' ⟨rfl, hw⟩
      have hq := hw.symm
      subst hq
      clear hw
      go_wp2_with fail
      refine (C2.out _ B0.out).mono ?_
      rintro e w' ⟨rfl, hw⟩
      have hq := hw.symm
      subst hq
      clear hw
      go_wp2_with fail
      refine (C3.out _ B0.out).mono ?_
      rintro e w' ⟨rfl, hw⟩
      have hq := hw.symm
      subst hq
      clear hw
      go_wp2
      all_goals exact bodyPost_ret (v := .tuple #[.agg #[.int .i64 ((s : Int) - 1), .int .i64 ((n : Int)), .bool true, .bool true], .int .i64 0]) (by simp [results, Tryz.results61, go_sem]) rfl ⟨rfl, bAlloc (Below.refl _ _) _⟩
    · obtain rfl : f = 0 := by omega
      rw [sp_zero] at C1 ⊢
      rw [if_neg (by omega)]
      clear hsf
      generalize sp l t = S2 at *
      clear hbig hnl h1 h2 h3 hlen hE hs
      go_enter Tryz.func61, Tryz.ntmps61
      go_wp2_with fail
      refine (C1.out _ B0.out).mono ?_
      rintro e w' ⟨rfl, hw⟩
      have hq := hw.symm
      subst hq
      clear hw
      go_wp2_with fail
      refine (C2.out _ B0.out).mono ?_
      rintro e w' ⟨rfl, hw⟩
      have hq := hw.symm
      subst hq
      clear hw
      go_wp2_with fail
      refine (C3.out _ B0.out).mono ?_
      rintro e w' ⟨rfl, hw⟩
      have hq := hw.symm
      subst hq
      clear hw
      go_wp2
      all_goals exact bodyPost_ret (v := .tuple #[.agg #[.int .i64 (0), .int .i64 ((n : Int)), .bool true, .bool false], .int .i64 0]) (by simp [results, Tryz.results61, go_sem]) rfl ⟨rfl, bAlloc (Below.refl _ _) _⟩
theorem whole_any (ao : Option Addr) (n c : Nat) (f t : Int) (l : List UInt8) (w : World) (hf : f ≤ 9223372036854775807) (ht : t ≤ 9223372036854775807) (HT : Hid (Tx w ao n c l)) :
    Calls Tryz.prog 111 #[.slice ao n c, .int .i64 f, .int .i64 t] w fun e w' => e = rt (wh l f t) ∧ Below w.heap.size w w' := by
  cases h : (lnB l f && lnB l t && decide (f ≤ t)) with
  | false => rw [wh_no h]; exact whole_no ao n c f t l w hf ht HT h
  | true =>
    obtain ⟨F, T, rfl, rfl, h1, h2, h3⟩ := wh_cases h
    rw [wh_yes h1 h2 h3]
    exact whole_yes ao n c F T l w h1 h2 h3 HT
theorem rwhole_any (ao : Option Addr) (n c : Nat) (f t : Int) (l : List UInt8) (w : World) (hf : f ≤ 9223372036854775807) (ht : t ≤ 9223372036854775807) (HT : Hid (Tx w ao n c l)) :
    Calls Tryz.prog 61 #[.slice ao n c, .int .i64 f, .int .i64 t] w fun e w' => e = rt (wh l f t) ∧ Below w.heap.size w w' := by
  cases h : (lnB l f && lnB l t && decide (f ≤ t)) with
  | false => rw [wh_no h]; exact rwhole_no ao n c f t l w hf ht HT h
  | true =>
    obtain ⟨F, T, rfl, rfl, h1, h2, h3⟩ := wh_cases h
    rw [wh_yes h1 h2 h3]
    exact rwhole_yes ao n c F T l w h1 h2 h3 HT

end Go.Proofs.YtppefcnopkmhbaaGreatDoor

namespace Go.Proofs.YtppefcnopkmhbaaGreatDoor
open Go.RowKit

set_option maxRecDepth 8000
/-- small, great, digit, a word's byte -/
def smB (b : Int) : Bool := decide (97 ≤ b ∧ b ≤ 122)
def grB (b : Int) : Bool := decide (65 ≤ b ∧ b ≤ 90)
/-- the other size -/
def upB (b : Int) : Int := if smB b = true then b - 32 else b
def loB (b : Int) : Int := if grB b = true then b + 32 else b
def tgB (b : Int) : Int := if smB b = true then upB b else loB b
set_option maxHeartbeats 400000 in
theorem isSmall_any (b : Int) (w : World) : Calls Tryz.prog 107 #[.int .u8 b] w fun e w' => e = .returned (.bool (smB b)) ∧ w' = w := by
  go_enter Tryz.func107, Tryz.ntmps107
  go_wp2
  all_goals go_ret
  all_goals (refine ⟨?_, rfl⟩; simp [smB]; try omega)
set_option maxHeartbeats 400000 in
theorem isGreat_any (b : Int) (w : World) : Calls Tryz.prog 108 #[.int .u8 b] w fun e w' => e = .returned (.bool (grB b)) ∧ w' = w := by
  go_enter Tryz.func108, Tryz.ntmps108
  go_wp2
  all_goals go_ret
  all_goals (refine ⟨?_, rfl⟩; simp [grB]; try omega)
set_option maxHeartbeats 400000 in
theorem rsmall_any (b : Int) (w : World) : Calls Tryz.prog 96 #[.int .u8 b] w fun e w' => e = .returned (.bool (smB b)) ∧ w' = w := by
  go_enter Tryz.func96, Tryz.ntmps96
  go_wp2
  all_goals go_ret
  all_goals (refine ⟨?_, rfl⟩; simp [smB]; try omega)
set_option maxHeartbeats 400000 in
theorem rgreat_any (b : Int) (w : World) : Calls Tryz.prog 97 #[.int .u8 b] w fun e w' => e = .returned (.bool (grB b)) ∧ w' = w := by
  go_enter Tryz.func97, Tryz.ntmps97
  go_wp2
  all_goals go_ret
  all_goals (refine ⟨?_, rfl⟩; simp [grB]; try omega)
set_option maxHeartbeats 1000000 in
theorem upper_any (b : Int) (w : World) (h0 : 0 ≤ b) (h1 : b ≤ 255) : Calls Tryz.prog 76 #[.int .u8 b] w fun e w' => e = .returned (.int .u8 (upB b)) ∧ w' = w := by
  have C1 := Hid.mk' (isSmall_any b w)
  have HW : Hid (upB b = if smB b = true then b - 32 else b) := rfl
  have HB : Hid (smB b = true → 97 ≤ b ∧ b ≤ 122) := fun h => of_decide_eq_true h
  generalize upB b = r at *
  generalize smB b = s at *
  cases s with
  | true =>
    obtain ⟨h2, h3⟩ := HB.out rfl
    go_enter Tryz.func76, Tryz.ntmps76
    go_wp2_with (go_at_call 107; refine C1.out.mono ?_; rintro e w' ⟨rfl, hw⟩; have hq := hw.symm; subst hq; clear hw)
    go_ret
    refine ⟨?_, rfl⟩; rw [HW.out]; simp
  | false =>
    go_enter Tryz.func76, Tryz.ntmps76
    go_wp2_with (go_at_call 107; refine C1.out.mono ?_; rintro e w' ⟨rfl, hw⟩; have hq := hw.symm; subst hq; clear hw)
    go_ret
    refine ⟨?_, rfl⟩; rw [HW.out]; simp
set_option maxHeartbeats 1000000 in
theorem rupper_any (b : Int) (w : World) (h0 : 0 ≤ b) (h1 : b ≤ 255) : Calls Tryz.prog 67 #[.int .u8 b] w fun e w' => e = .returned (.int .u8 (upB b)) ∧ w' = w := by
  have C1 := Hid.mk' (rsmall_any b w)
  have HW : Hid (upB b = if smB b = true then b - 32 else b) := rfl
  have HB : Hid (smB b = true → 97 ≤ b ∧ b ≤ 122) := fun h => of_decide_eq_true h
  generalize upB b = r at *
  generalize smB b = s at *
  cases s with
  | true =>
    obtain ⟨h2, h3⟩ := HB.out rfl
    go_enter Tryz.func67, Tryz.ntmps67
    go_wp2_with (go_at_call 96; refine C1.out.mono ?_; rintro e w' ⟨rfl, hw⟩; have hq := hw.symm; subst hq; clear hw)
    go_ret
    refine ⟨?_, rfl⟩; rw [HW.out]; simp
  | false =>
    go_enter Tryz.func67, Tryz.ntmps67
    go_wp2_with (go_at_call 96; refine C1.out.mono ?_; rintro e w' ⟨rfl, hw⟩; have hq := hw.symm; subst hq; clear hw)
    go_ret
    refine ⟨?_, rfl⟩; rw [HW.out]; simp
set_option maxHeartbeats 1000000 in
theorem lower_any (b : Int) (w : World) (h0 : 0 ≤ b) (h1 : b ≤ 255) : Calls Tryz.prog 75 #[.int .u8 b] w fun e w' => e = .returned (.int .u8 (loB b)) ∧ w' = w := by
  have C1 := Hid.mk' (isGreat_any b w)
  have HW : Hid (loB b = if grB b = true then b + 32 else b) := rfl
  have HB : Hid (grB b = true → 65 ≤ b ∧ b ≤ 90) := fun h => of_decide_eq_true h
  generalize loB b = r at *
  generalize grB b = s at *
  cases s with
  | true =>
    obtain ⟨h2, h3⟩ := HB.out rfl
    go_enter Tryz.func75, Tryz.ntmps75
    go_wp2_with (go_at_call 108; refine C1.out.mono ?_; rintro e w' ⟨rfl, hw⟩; have hq := hw.symm; subst hq; clear hw)
    go_ret
    refine ⟨?_, rfl⟩; rw [HW.out]; simp
  | false =>
    go_enter Tryz.func75, Tryz.ntmps75
    go_wp2_with (go_at_call 108; refine C1.out.mono ?_; rintro e w' ⟨rfl, hw⟩; have hq := hw.symm; subst hq; clear hw)
    go_ret
    refine ⟨?_, rfl⟩; rw [HW.out]; simp
set_option maxHeartbeats 1000000 in
theorem rlower_any (b : Int) (w : World) (h0 : 0 ≤ b) (h1 : b ≤ 255) : Calls Tryz.prog 66 #[.int .u8 b] w fun e w' => e = .returned (.int .u8 (loB b)) ∧ w' = w := by
  have C1 := Hid.mk' (rgreat_any b w)
  have HW : Hid (loB b = if grB b = true then b + 32 else b) := rfl
  have HB : Hid (grB b = true → 65 ≤ b ∧ b ≤ 90) := fun h => of_decide_eq_true h
  generalize loB b = r at *
  generalize grB b = s at *
  cases s with
  | true =>
    obtain ⟨h2, h3⟩ := HB.out rfl
    go_enter Tryz.func66, Tryz.ntmps66
    go_wp2_with (go_at_call 97; refine C1.out.mono ?_; rintro e w' ⟨rfl, hw⟩; have hq := hw.symm; subst hq; clear hw)
    go_ret
    refine ⟨?_, rfl⟩; rw [HW.out]; simp
  | false =>
    go_enter Tryz.func66, Tryz.ntmps66
    go_wp2_with (go_at_call 97; refine C1.out.mono ?_; rintro e w' ⟨rfl, hw⟩; have hq := hw.symm; subst hq; clear hw)
    go_ret
    refine ⟨?_, rfl⟩; rw [HW.out]; simp
set_option maxHeartbeats 1000000 in
theorem toggle_any (b : Int) (w : World) (h0 : 0 ≤ b) (h1 : b ≤ 255) : Calls Tryz.prog 74 #[.int .u8 b] w fun e w' => e = .returned (.int .u8 (tgB b)) ∧ w' = w := by
  have C1 := Hid.mk' (isSmall_any b w)
  have C2 := Hid.mk' (upper_any b w h0 h1)
  have C3 := Hid.mk' (lower_any b w h0 h1)
  have HW : Hid (tgB b = if smB b = true then upB b else loB b) := rfl
  generalize tgB b = r at *
  generalize upB b = u at *
  generalize loB b = l at *
  generalize smB b = s at *
  cases s with
  | true =>
    go_enter Tryz.func74, Tryz.ntmps74
    go_wp2_with (first | (go_at_call 107; refine C1.out.mono ?_; rintro e w' ⟨rfl, hw⟩; have hq := hw.symm; subst hq; clear hw) | (go_at_call 76; refine C2.out.mono ?_; rintro e w' ⟨rfl, hw⟩; have hq := hw.symm; subst hq; clear hw) | (go_at_call 75; refine C3.out.mono ?_; rintro e w' ⟨rfl, hw⟩; have hq := hw.symm; subst hq; clear hw))
    go_ret
    refine ⟨?_, rfl⟩; rw [HW.out]; simp
  | false =>
    go_enter Tryz.func74, Tryz.ntmps74
    go_wp2_with (first | (go_at_call 107; refine C1.out.mono ?_; rintro e w' ⟨rfl, hw⟩; have hq := hw.symm; subst hq; clear hw) | (go_at_call 76; refine C2.out.mono ?_; rintro e w' ⟨rfl, hw⟩; have hq := hw.symm; subst hq; clear hw) | (go_at_call 75; refine C3.out.mono ?_; rintro e w' ⟨rfl, hw⟩; have hq := hw.symm; subst hq; clear hw))
    go_ret
    refine ⟨?_, rfl⟩; rw [HW.out]; simp
set_option maxHeartbeats 1000000 in
theorem rtoggle_any (b : Int) (w : World) (h0 : 0 ≤ b) (h1 : b ≤ 255) : Calls Tryz.prog 65 #[.int .u8 b] w fun e w' => e = .returned (.int .u8 (tgB b)) ∧ w' = w := by
  have C1 := Hid.mk' (rsmall_any b w)
  have C2 := Hid.mk' (rupper_any b w h0 h1)
  have C3 := Hid.mk' (rlower_any b w h0 h1)
  have HW : Hid (tgB b = if smB b = true then upB b else loB b) := rfl
  generalize tgB b = r at *
  generalize upB b = u at *
  generalize loB b = l at *
  generalize smB b = s at *
  cases s with
  | true =>
    go_enter Tryz.func65, Tryz.ntmps65
    go_wp2_with (first | (go_at_call 96; refine C1.out.mono ?_; rintro e w' ⟨rfl, hw⟩; have hq := hw.symm; subst hq; clear hw) | (go_at_call 67; refine C2.out.mono ?_; rintro e w' ⟨rfl, hw⟩; have hq := hw.symm; subst hq; clear hw) | (go_at_call 66; refine C3.out.mono ?_; rintro e w' ⟨rfl, hw⟩; have hq := hw.symm; subst hq; clear hw))
    go_ret
    refine ⟨?_, rfl⟩; rw [HW.out]; simp
  | false =>
    go_enter Tryz.func65, Tryz.ntmps65
    go_wp2_with (first | (go_at_call 96; refine C1.out.mono ?_; rintro e w' ⟨rfl, hw⟩; have hq := hw.symm; subst hq; clear hw) | (go_at_call 67; refine C2.out.mono ?_; rintro e w' ⟨rfl, hw⟩; have hq := hw.symm; subst hq; clear hw) | (go_at_call 66; refine C3.out.mono ?_; rintro e w' ⟨rfl, hw⟩; have hq := hw.symm; subst hq; clear hw))
    go_ret
    refine ⟨?_, rfl⟩; rw [HW.out]; simp
theorem tg_in (b : Int) (h0 : 0 ≤ b) (h1 : b ≤ 255) : 0 ≤ tgB b ∧ tgB b ≤ 255 := by unfold tgB upB loB smB grB; simp only [decide_eq_true_eq]; repeat' split <;> omega
theorem up_in (b : Int) (h0 : 0 ≤ b) (h1 : b ≤ 255) : 0 ≤ upB b ∧ upB b ≤ 255 := by unfold upB smB; simp only [decide_eq_true_eq]; repeat' split <;> omega
theorem lo_in (b : Int) (h0 : 0 ≤ b) (h1 : b ≤ 255) : 0 ≤ loB b ∧ loB b ≤ 255 := by unfold loB grB; simp only [decide_eq_true_eq]; repeat' split <;> omega
end Go.Proofs.YtppefcnopkmhbaaGreatDoor

namespace Go.Proofs.YtppefcnopkmhbaaGreatDoor
open Go.RowKit

set_option maxRecDepth 8000
/-- how many bytes of its line stand from a place on -/
def ow (l : List UInt8) (i : Nat) : Nat := (l.drop i).findIdx le
theorem ow_en (l : List UInt8) (i : Nat) : i + ow l i = en l i := rfl
theorem ow_le {l : List UInt8} {i : Nat} (h : i ≤ l.length) : i + ow l i ≤ l.length := en_le h
theorem aEnd_drop (l : List UInt8) (i : Nat) : aEnd (l.drop i) 0 = ((ow l i : Int), 0) := by
  unfold aEnd ans
  rw [show lnB (l.drop i) 0 = true from decide_eq_true ⟨by omega, by omega⟩, if_pos rfl]
  have h0 : sp (l.drop i) (0 : Int).toNat = 0 := sp_eq (St.zero _)
  rw [h0]
  show (((0 + ((l.drop i).drop 0).findIdx le : Nat) : Int), (0 : Int)) = _
  rw [List.drop_zero, Nat.zero_add]
  rfl
set_option maxHeartbeats 1000000 in
theorem onward_any (ao : Option Addr) (n c i : Nat) (l : List UInt8) (w : World) (hi : i ≤ n) (HT : Hid (Tx w ao n c l)) :
    Calls Tryz.prog 88 #[.slice ao n c, .int .i64 (i : Int)] w fun e w' => e = .returned (.int .i64 (ow l i : Int)) ∧ w' = w := by
  obtain ⟨a3, c3, hs3, hT3⟩ := sl_l HT.out (lo := i) (z := (i : Int)) hi rfl
  have C := end_any a3 (n - i) c3 0 (l.drop i) w (by omega) hT3
  rw [aEnd_drop] at C
  unfold pr at C
  dsimp only at C
  have C' := Hid.mk' C
  generalize ow l i = q at *
  have hz1 : (0 : Int) ≤ (i : Int) := by omega
  have hz2 : (i : Int) ≤ (n : Int) := by omega
  clear hT3 C hi HT
  go_enter Tryz.func88, Tryz.ntmps88
  go_wp2_with (first | (go_at_call 99; refine C'.out.mono ?_; rintro e w1 ⟨rfl, hw⟩; subst hw) | fail)
  go_ret
  exact ⟨rfl, rfl⟩
/-- the place behind the byte at a place -/
def bsd (l : List UInt8) (i : Nat) : Nat := i + min 1 (ow l i)
set_option maxHeartbeats 1000000 in
theorem beside_any (ao : Option Addr) (n c i : Nat) (l : List UInt8) (w : World) (hi : i ≤ n) (HT : Hid (Tx w ao n c l)) :
    Calls Tryz.prog 85 #[.slice ao n c, .int .i64 (i : Int)] w fun e w' => e = .returned (.int .i64 (bsd l i : Int)) ∧ w' = w := by
  have C := Hid.mk' (onward_any ao n c i l w hi HT)
  have hb := HT.out.big
  have ho : ow l i ≤ n := by have := HT.out.len; have := ow_le (l := l) (i := i) (by omega); omega
  unfold bsd
  generalize ow l i = q at *
  clear HT
  by_cases hq : q = 0
  · subst hq
    have hmn : min (1 : Int) ((0 : Nat) : Int) = 0 := by omega
    have hw : IntKind.i64.wrap ((i : Int) + 0) = (i : Int) := by rw [IntKind.wrap_i64]; omega
    go_enter Tryz.func85, Tryz.ntmps85
    go_wp2_with (first | (go_at_call 88; refine C.out.mono ?_; rintro e w1 ⟨rfl, hw⟩; subst hw) | fail)
    go_ret
    exact ⟨by first | rfl | (congr 2; omega) | (congr 2; simp), rfl⟩
  · have hmn : min (1 : Int) (q : Int) = 1 := by omega
    have h1 : ¬ ((q : Int) < 1) := by omega
    have h2 : (1 : Int) ≤ (q : Int) := by omega
    have hw : IntKind.i64.wrap ((i : Int) + 1) = ((i + 1 : Nat) : Int) := by rw [IntKind.wrap_i64]; omega
    have hm : min 1 q = 1 := by omega
    rw [hm]
    go_enter Tryz.func85, Tryz.ntmps85
    go_wp2_with (first | (go_at_call 88; refine C.out.mono ?_; rintro e w1 ⟨rfl, hw⟩; subst hw) | fail)
    go_ret
    exact ⟨by first | rfl | (congr 2; omega) | (congr 2; simp), rfl⟩
theorem oplace_any (ao : Option Addr) (n c : Nat) (i : Int) (w : World) :
    Calls Tryz.prog 36 #[.slice ao n c, .int .i64 i] w fun e w' => e = .returned (.bool (decide (0 ≤ i ∧ i ≤ n))) ∧ w' = w := by
  by_cases h0 : 0 ≤ i
  · by_cases h1 : i ≤ n
    · rw [decide_eq_true ⟨h0, h1⟩]
      go_enter Tryz.func36, Tryz.ntmps36
      go_wp2
      go_ret
      exact ⟨rfl, rfl⟩
    · rw [decide_eq_false (fun h => h1 h.2)]
      go_enter Tryz.func36, Tryz.ntmps36
      go_wp2
      go_ret
      exact ⟨rfl, rfl⟩
  · rw [decide_eq_false (fun h => h0 h.1)]
    go_enter Tryz.func36, Tryz.ntmps36
    go_wp2
    go_ret
    exact ⟨rfl, rfl⟩
def cntB (i : Int) : Bool := decide (1 ≤ i) && decide (i ≤ 9999)
theorem ocount_any (i : Int) (w : World) :
    Calls Tryz.prog 37 #[.int .i64 i] w fun e w' => e = .returned (.bool (cntB i)) ∧ w' = w := by
  unfold cntB
  by_cases h0 : 1 ≤ i
  · by_cases h1 : i ≤ 9999
    · rw [decide_eq_true h0, decide_eq_true h1]
      go_enter Tryz.func37, Tryz.ntmps37
      go_wp2
      go_ret
      exact ⟨rfl, rfl⟩
    · rw [decide_eq_false h1, Bool.and_false]
      go_enter Tryz.func37, Tryz.ntmps37
      go_wp2
      go_ret
      exact ⟨rfl, rfl⟩
  · rw [decide_eq_false h0, Bool.false_and]
    go_enter Tryz.func37, Tryz.ntmps37
    go_wp2
    go_ret
    exact ⟨rfl, rfl⟩
/-- can the operator do nothing of no byte: as the two tests of its name say -/
def idl (isd isc L : Bool) : Bool := if L then isd else !isc
theorem idle_any (s : ByteArray) (isd isc L : Bool) (w : World) (h1 : (s.toList == [100]) = isd) (h2 : (s.toList == [99]) = isc) :
    Calls Tryz.prog 39 #[.string s, .bool L] w fun e w' => e = .returned (.bool (idl isd isc L)) ∧ w' = w := by
  unfold idl
  cases L <;> cases isd <;> cases isc <;>
  · go_enter Tryz.func39, Tryz.ntmps39
    go_wp2
    go_ret
    exact ⟨rfl, rfl⟩
end Go.Proofs.YtppefcnopkmhbaaGreatDoor
