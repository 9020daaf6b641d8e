/- Jon -/
import Derived.Test.YtppefcnopkmhbaaGreatDoorPs21
namespace Go.Proofs.YtppefcnopkmhbaaGreatDoor
open Go.RowKit

set_option maxRecDepth 8000
/-- the rest of the next line, blanks ahead of it left out: how many blanks -/
def jnT (l : List UInt8) (e : Nat) : List UInt8 := sl l (e + 1) (en l (e + 1))
def jnR (l : List UInt8) (e : Nat) : List UInt8 := (jnT l e).drop (lb2 (jnT l e))
/-- Join's edits: so many lines, the line's end, the line -/
def jnD (l : List UInt8) (s : Nat) : Nat → Nat → List UInt8 → List Ed
  | 0, _, _ => []
  | m + 1, e, J => ⟨((s + J.length : Nat) : Int), sl l e (e + 1 + lb2 (jnT l e)), glu J (jnR l e)⟩ :: jnD l s m (en l (e + 1)) (J ++ glu J (jnR l e) ++ jnR l e)
def lastA (D : List Ed) : Int := (D.getLast?.map Ed.a).getD 0
theorem lastA_snoc (D : List Ed) (d : Ed) : lastA (D ++ [d]) = d.a := by unfold lastA; simp
def joM (l : List UInt8) (k : Nat) (q : Int) : Ef × Int :=
  if (nl l : Int) + 1 - (nl (l.take k) : Int) < max q 2 then (ef0, 190)
  else
    let s := sp l (nl (l.take k))
    let D := jnD l s ((max q 2).toNat - 1) (en l s) (sl l s (en l s))
    (⟨D, lastA D, false, false, [], 0, false⟩, 0)
def joX (l : List UInt8) (at' q : Int) : Ef × Int :=
  if ¬ (0 ≤ at' ∧ at' ≤ (l.length : Int)) ∨ q < 0 ∨ 9999 < q then (ef0, 2) else joM l at'.toNat q
theorem jnD_zero (l : List UInt8) (s e : Nat) (J : List UInt8) : jnD l s 0 e J = [] := rfl
theorem jnD_succ (l : List UInt8) (s m e : Nat) (J : List UInt8) : jnD l s (m + 1) e J = ⟨((s + J.length : Nat) : Int), sl l e (e + 1 + lb2 (jnT l e)), glu J (jnR l e)⟩ :: jnD l s m (en l (e + 1)) (J ++ glu J (jnR l e) ++ jnR l e) := rfl
theorem glu_le (a r : List UInt8) : (glu a r).length ≤ 1 := by unfold glu; split <;> simp
set_option maxHeartbeats 8000000 in
set_option linter.unusedSimpArgs false in
theorem join_args (ao : Option Addr) (n c : Nat) (l : List UInt8) (at' q : Int) (w : World) (HT : Hid (Tx w ao n c l)) (h : ¬ (0 ≤ at' ∧ at' ≤ (n : Int)) ∨ q < 0 ∨ 9999 < q) :
    Calls Tryz.prog 56 #[.slice ao n c, .int .i64 at', .int .i64 q] w fun e w' => EfQ ef0 2 w e w' := by
  obtain ⟨W1, hW1⟩ : ∃ x, w.alloc (.cells #[.slice none 0 0, .int .i64 0, .bool false, .bool false, .slice none 0 0, .int .i64 0, .bool false] 35) = x := ⟨_, rfl⟩
  obtain ⟨B, hB⟩ : ∃ b, w.heap.size = b := ⟨_, rfl⟩
  have HB := Hid.mk' hB
  have J1 : Hid (Blk W1 B 35 (ef7 (.slice none 0 0) 0 false false (.slice none 0 0) 0 false)) := by unfold Hid; rw [← hW1, ← hB]; exact Blk.new w 35 _
  have L1 : Hid (Below w.heap.size w W1) := by unfold Hid; rw [← hW1]; exact bAlloc (Below.refl _ _) _
  have HT1 := Hid.mk' (HT.out.keep L1.out)
  have HLN := Hid.mk' HT.out.len
  by_cases hp : (0 ≤ at' ∧ at' ≤ (n : Int))
  · have hp9 : decide (0 ≤ at' ∧ at' ≤ (n : Int)) = true := decide_eq_true hp
    by_cases hq1 : q < 0
    · skip
      go_enter Tryz.func56, Tryz.ntmps56
      go_upto_region 1 with fail
      clear hW1 hB HT
      go_upto_region 2 with (first | (go_at_call 36; have CP := oplace_any ao n c at' W1; rw [hp9] at CP; refine CP.mono ?_; rintro e w' ⟨rfl, hw⟩; have hq := hw.symm; subst hq; clear hw CP) | fail)
      obtain ⟨j0, j1, j2, j3, j4, j5, j6⟩ := ef_cells J1.out
      obtain ⟨f0, f1, f2, f3, f4, f5, f6⟩ := ef_frozen J1.out
      have hbk := ef_store J1.out (.slice none 0 0) (.int .i64 0) (.bool false) (.bool false) (.slice none 0 0) (.int .i64 0) (.bool false)
      have hgr := ef_grown W1 B (.slice none 0 0) (.int .i64 0) (.bool false) (.bool false) (.slice none 0 0) (.int .i64 0) (.bool false)
      go_wp2_with fail
      generalize (((((((W1.setCell ⟨B, 0, none⟩ (.slice none 0 0)).setCell ⟨B, 1, none⟩ (.int .i64 0)).setCell ⟨B, 2, none⟩ (.bool false)).setCell ⟨B, 3, none⟩ (.bool false)).setCell ⟨B, 4, none⟩ (.slice none 0 0)).setCell ⟨B, 5, none⟩ (.int .i64 0)).setCell ⟨B, 6, none⟩ (.bool false)) = w9 at *
      obtain ⟨g0, g1, g2, g3, g4, g5, g6⟩ := ef_cells hbk
      refine bodyPost_ret (v := .tuple #[efz, .int .i64 2]) (by simp [results, efz, Tryz.results56, go_sem, g0, g1, g2, g3, g4, g5, g6]) rfl (EfQ.no ?_)
      exact (L1.out).grown hgr (L1.out).size (fun g hg => by injection hg with hg; rw [← hg, HB.out]; exact Nat.le_refl B)
    · have hq2 : (9999 : Int) < q := by omega
      go_enter Tryz.func56, Tryz.ntmps56
      go_upto_region 1 with fail
      clear hW1 hB HT
      go_upto_region 2 with (first | (go_at_call 36; have CP := oplace_any ao n c at' W1; rw [hp9] at CP; refine CP.mono ?_; rintro e w' ⟨rfl, hw⟩; have hq := hw.symm; subst hq; clear hw CP) | fail)
      obtain ⟨j0, j1, j2, j3, j4, j5, j6⟩ := ef_cells J1.out
      obtain ⟨f0, f1, f2, f3, f4, f5, f6⟩ := ef_frozen J1.out
      have hbk := ef_store J1.out (.slice none 0 0) (.int .i64 0) (.bool false) (.bool false) (.slice none 0 0) (.int .i64 0) (.bool false)
      have hgr := ef_grown W1 B (.slice none 0 0) (.int .i64 0) (.bool false) (.bool false) (.slice none 0 0) (.int .i64 0) (.bool false)
      go_wp2_with fail
      generalize (((((((W1.setCell ⟨B, 0, none⟩ (.slice none 0 0)).setCell ⟨B, 1, none⟩ (.int .i64 0)).setCell ⟨B, 2, none⟩ (.bool false)).setCell ⟨B, 3, none⟩ (.bool false)).setCell ⟨B, 4, none⟩ (.slice none 0 0)).setCell ⟨B, 5, none⟩ (.int .i64 0)).setCell ⟨B, 6, none⟩ (.bool false)) = w9 at *
      obtain ⟨g0, g1, g2, g3, g4, g5, g6⟩ := ef_cells hbk
      refine bodyPost_ret (v := .tuple #[efz, .int .i64 2]) (by simp [results, efz, Tryz.results56, go_sem, g0, g1, g2, g3, g4, g5, g6]) rfl (EfQ.no ?_)
      exact (L1.out).grown hgr (L1.out).size (fun g hg => by injection hg with hg; rw [← hg, HB.out]; exact Nat.le_refl B)
  · have hp9 : decide (0 ≤ at' ∧ at' ≤ (n : Int)) = false := decide_eq_false hp
    go_enter Tryz.func56, Tryz.ntmps56
    go_upto_region 1 with fail
    clear hW1 hB HT
    go_upto_region 2 with (first | (go_at_call 36; have CP := oplace_any ao n c at' W1; rw [hp9] at CP; refine CP.mono ?_; rintro e w' ⟨rfl, hw⟩; have hq := hw.symm; subst hq; clear hw CP) | fail)
    obtain ⟨j0, j1, j2, j3, j4, j5, j6⟩ := ef_cells J1.out
    obtain ⟨f0, f1, f2, f3, f4, f5, f6⟩ := ef_frozen J1.out
    have hbk := ef_store J1.out (.slice none 0 0) (.int .i64 0) (.bool false) (.bool false) (.slice none 0 0) (.int .i64 0) (.bool false)
    have hgr := ef_grown W1 B (.slice none 0 0) (.int .i64 0) (.bool false) (.bool false) (.slice none 0 0) (.int .i64 0) (.bool false)
    go_wp2_with fail
    generalize (((((((W1.setCell ⟨B, 0, none⟩ (.slice none 0 0)).setCell ⟨B, 1, none⟩ (.int .i64 0)).setCell ⟨B, 2, none⟩ (.bool false)).setCell ⟨B, 3, none⟩ (.bool false)).setCell ⟨B, 4, none⟩ (.slice none 0 0)).setCell ⟨B, 5, none⟩ (.int .i64 0)).setCell ⟨B, 6, none⟩ (.bool false)) = w9 at *
    obtain ⟨g0, g1, g2, g3, g4, g5, g6⟩ := ef_cells hbk
    refine bodyPost_ret (v := .tuple #[efz, .int .i64 2]) (by simp [results, efz, Tryz.results56, go_sem, g0, g1, g2, g3, g4, g5, g6]) rfl (EfQ.no ?_)
    exact (L1.out).grown hgr (L1.out).size (fun g hg => by injection hg with hg; rw [← hg, HB.out]; exact Nat.le_refl B)
set_option maxHeartbeats 8000000 in
set_option linter.unusedSimpArgs false in
theorem join_few (ao : Option Addr) (n c k : Nat) (l : List UInt8) (q : Int) (w : World) (HT : Hid (Tx w ao n c l)) (hk : k ≤ n) (_hbig : n ≤ 1048576) (_hq1 : 0 ≤ q) (_hq : q ≤ 9999) (hlt : (nl l : Int) + 1 - (nl (l.take k) : Int) < max q 2) :
    Calls Tryz.prog 56 #[.slice ao n c, .int .i64 (k : Int), .int .i64 q] w fun e w' => EfQ ef0 190 w e w' := by
  obtain ⟨W1, hW1⟩ : ∃ x, w.alloc (.cells #[.slice none 0 0, .int .i64 0, .bool false, .bool false, .slice none 0 0, .int .i64 0, .bool false] 35) = x := ⟨_, rfl⟩
  obtain ⟨B, hB⟩ : ∃ b, w.heap.size = b := ⟨_, rfl⟩
  have HB := Hid.mk' hB
  have J1 : Hid (Blk W1 B 35 (ef7 (.slice none 0 0) 0 false false (.slice none 0 0) 0 false)) := by unfold Hid; rw [← hW1, ← hB]; exact Blk.new w 35 _
  have L1 : Hid (Below w.heap.size w W1) := by unfold Hid; rw [← hW1]; exact bAlloc (Below.refl _ _) _
  have HT1 := Hid.mk' (HT.out.keep L1.out)
  have HLN := Hid.mk' HT.out.len
  have hp9 : decide (0 ≤ (k : Int) ∧ (k : Int) ≤ (n : Int)) = true := decide_eq_true (by omega)
  have hnl := nl_le l
  have hnk := nl_take_le l k
  rw [HLN.out] at hnl
  have CO := Hid.mk' (lof_at' (ao := ao) (c := c) hk HT1.out)
  have CN : Hid (∀ W, Below W1.heap.size W1 W → Calls Tryz.prog 90 #[.slice ao n c] W fun e w' => e = .returned (.int .i64 ((nl l : Int) + 1)) ∧ Below W.heap.size W w') := fun W hW => count_any ao n c l W (HT1.out.keep hW)
  obtain ⟨m, hm⟩ : ∃ m : Int, max q 2 = m := ⟨_, rfl⟩
  rw [hm] at hlt
  generalize nl (l.take k) = i0 at *
  generalize nl l = nn at *
  have hw1 : IntKind.i64.wrap ((nn : Int) + 1 - (i0 : Int)) = (nn : Int) + 1 - (i0 : Int) := by rw [IntKind.wrap_i64]; have := HT1.out.big; omega
  go_enter Tryz.func56, Tryz.ntmps56
  go_upto_region 1 with fail
  clear hW1 hB HT
  go_upto_region 3 with (first | (go_at_call 36; have CP := oplace_any ao n c (k : Int) W1; rw [hp9] at CP; refine CP.mono ?_; rintro e w' ⟨rfl, hw⟩; have hq := hw.symm; subst hq; clear hw CP) | fail)
  go_wp2_with fail
  refine CO.out.mono ?_
  rintro e w2 ⟨rfl, hb2⟩
  have B2 := Hid.mk' hb2
  have J2 := Hid.mk' (J1.out.keep hb2)
  clear hb2 CO hp9
  go_upto_region 5 with fail
  go_wp2_with fail
  refine (CN.out w2 B2.out).mono ?_
  rintro e w3 ⟨rfl, hb3⟩
  have B3 := Hid.mk' (bT B2.out hb3)
  have J3 := Hid.mk' (J2.out.keep hb3)
  clear hb3 CN J2 B2
  go_upto_region 6 with fail
  obtain ⟨j0, j1, j2, j3, j4, j5, j6⟩ := ef_cells J3.out
  obtain ⟨f0, f1, f2, f3, f4, f5, f6⟩ := ef_frozen J3.out
  have hbk := ef_store J3.out (.slice none 0 0) (.int .i64 0) (.bool false) (.bool false) (.slice none 0 0) (.int .i64 0) (.bool false)
  have hgr := ef_grown w3 B (.slice none 0 0) (.int .i64 0) (.bool false) (.bool false) (.slice none 0 0) (.int .i64 0) (.bool false)
  go_wp2_with fail
  generalize (((((((w3.setCell ⟨B, 0, none⟩ (.slice none 0 0)).setCell ⟨B, 1, none⟩ (.int .i64 0)).setCell ⟨B, 2, none⟩ (.bool false)).setCell ⟨B, 3, none⟩ (.bool false)).setCell ⟨B, 4, none⟩ (.slice none 0 0)).setCell ⟨B, 5, none⟩ (.int .i64 0)).setCell ⟨B, 6, none⟩ (.bool false)) = w9 at *
  obtain ⟨g0, g1, g2, g3, g4, g5, g6⟩ := ef_cells hbk
  refine bodyPost_ret (v := .tuple #[efz, .int .i64 190]) (by simp [results, efz, Tryz.results56, go_sem, g0, g1, g2, g3, g4, g5, g6]) rfl (EfQ.no ?_)
  exact (bT L1.out B3.out).grown hgr (bT L1.out B3.out).size (fun g hg => by injection hg with hg; rw [← hg, HB.out]; exact Nat.le_refl B)
set_option maxHeartbeats 8000000 in
set_option linter.unusedSimpArgs false in
theorem join_some (ao : Option Addr) (n c k : Nat) (l : List UInt8) (q : Int) (w : World) (HT : Hid (Tx w ao n c l)) (hk : k ≤ n) (hbig : n ≤ 1048576) (hq1 : 0 ≤ q) (hq : q ≤ 9999) (i0 mm : Nat) (hi0 : nl (l.take k) = i0) (hm : max q 2 = ((mm + 1 : Nat) : Int)) (hge : i0 + mm ≤ nl l) :
    Calls Tryz.prog 56 #[.slice ao n c, .int .i64 (k : Int), .int .i64 q] w fun e w' => EfQ ⟨jnD l (sp l i0) mm (en l (sp l i0)) (sl l (sp l i0) (en l (sp l i0))), lastA (jnD l (sp l i0) mm (en l (sp l i0)) (sl l (sp l i0) (en l (sp l i0)))), false, false, [], 0, false⟩ 0 w e w' := by
  obtain ⟨W1, hW1⟩ : ∃ x, w.alloc (.cells #[.slice none 0 0, .int .i64 0, .bool false, .bool false, .slice none 0 0, .int .i64 0, .bool false] 35) = x := ⟨_, rfl⟩
  obtain ⟨B, hB⟩ : ∃ b, w.heap.size = b := ⟨_, rfl⟩
  have HB := Hid.mk' hB
  have J1 : Hid (Blk W1 B 35 (ef7 (.slice none 0 0) 0 false false (.slice none 0 0) 0 false)) := by unfold Hid; rw [← hW1, ← hB]; exact Blk.new w 35 _
  have L1 : Hid (Below w.heap.size w W1) := by unfold Hid; rw [← hW1]; exact bAlloc (Below.refl _ _) _
  have HT1 := Hid.mk' (HT.out.keep L1.out)
  have HLN := Hid.mk' HT.out.len
  have hp9 : decide (0 ≤ (k : Int) ∧ (k : Int) ≤ (n : Int)) = true := decide_eq_true (by omega)
  have hnl := nl_le l
  have hnk := nl_take_le l k
  rw [HLN.out] at hnl
  have CO := Hid.mk' (lof_at' (ao := ao) (c := c) hk HT1.out)
  have CN : Hid (∀ W, Below W1.heap.size W1 W → Calls Tryz.prog 90 #[.slice ao n c] W fun e w' => e = .returned (.int .i64 ((nl l : Int) + 1)) ∧ Below W.heap.size W w') := fun W hW => count_any ao n c l W (HT1.out.keep hW)
  rw [hi0] at CO hnk
  have hmm1 : 1 ≤ mm := by omega
  have hmm2 : mm ≤ 9998 := by omega
  have hm2 : max q 2 = (mm : Int) + 1 := by omega
  obtain ⟨s, hs⟩ : ∃ s, sp l i0 = s := ⟨_, rfl⟩
  have hsn : s ≤ n := by rw [← hs, ← HLN.out]; exact sp_le (by omega)
  have hen : s + ow l s = en l s := rfl
  obtain ⟨e0, he0⟩ : ∃ e, en l s = e := ⟨_, rfl⟩
  have hse : s ≤ e0 := by rw [← he0]; exact en_ge _ _
  have hee : e0 ≤ n := by rw [← he0, ← HLN.out]; exact en_le (by rw [HLN.out]; exact hsn)
  have HE0 : Hid (en l (sp l i0) = e0) := by unfold Hid; rw [hs, he0]
  rw [he0] at hen
  rw [hs, he0]
  have CST : Hid (∀ W, Below W1.heap.size W1 W → Calls Tryz.prog 82 #[.slice ao n c, .int .i64 (i0 : Int)] W fun e w' => e = .returned (.tuple #[.int .i64 (s : Int), .int .i64 0]) ∧ w' = W) := fun W hW => by
    have h := start_call (i := i0) (HT1.out.keep hW) hbig (by omega)
    rw [if_pos hnk, if_pos hnk, hs] at h
    exact h
  have COW : Hid (∀ (W : World) (i : Nat), i ≤ n → Below W1.heap.size W1 W → Calls Tryz.prog 88 #[.slice ao n c, .int .i64 (i : Int)] W fun e w' => e = .returned (.int .i64 (ow l i : Int)) ∧ w' = W) := fun W i hi hW => onward_any ao n c i l W hi (HT1.out.keep hW)
  have CCL : Hid (∀ (W : World) (a' : Option Addr) (n' c' : Nat) (p : List UInt8), n' ≤ 140737488355328 → Tx W a' n' c' p → Calls Tryz.prog 46 #[.slice a' n' c'] W fun e w' => WbP p W e w') := fun W a' n' c' p h1 h2 => cloneW_any a' n' c' p W h1 h2
  have HGE := Hid.mk' hge
  have hw1 : IntKind.i64.wrap ((nl l : Int) + 1 - (i0 : Int)) = (nl l : Int) + 1 - (i0 : Int) := by rw [IntKind.wrap_i64]; omega
  have hlt : ¬ (nl l : Int) + 1 - (i0 : Int) < (mm : Int) + 1 := by omega
  have hw2 : IntKind.i64.wrap ((s : Int) + (ow l s : Int)) = (e0 : Int) := by rw [IntKind.wrap_i64]; omega
  have hw3 : IntKind.i64.wrap ((mm : Int) + 1 - 1) = (mm : Int) := by rw [IntKind.wrap_i64]; omega
  obtain ⟨a3, c3, hs3, hT3⟩ := sl_lh' HT1.out hse hee
  have HT3 := Hid.mk' hT3
  have hz1 : (s : Int) ≤ (e0 : Int) := by omega
  have hz2 : (e0 : Int) ≤ (n : Int) := by omega
  have hz0 : (0 : Int) ≤ (s : Int) := by omega
  have hz3 : (e0 : Int) ≤ (c : Int) := by have := HT1.out.cap; omega
  have HNL := Hid.mk' hnl
  have HHE := Hid.mk' hee
  have HHS := Hid.mk' hse
  obtain ⟨J0, hJ0⟩ : ∃ J, sl l s e0 = J := ⟨_, rfl⟩
  have HJL : Hid (J0.length = e0 - s) := by unfold Hid; rw [← hJ0]; exact sl_len (by rw [HLN.out]; exact hee)
  rw [hJ0] at HT3 ⊢
  clear hT3 hge hm hi0 hs he0 hnl hJ0 hnk
  go_enter Tryz.func56, Tryz.ntmps56
  go_upto_region 1 with fail
  clear hW1 hB HT
  go_upto_region 3 with (first | (go_at_call 36; have CP := oplace_any ao n c (k : Int) W1; rw [hp9] at CP; refine CP.mono ?_; rintro e w' ⟨rfl, hw⟩; have hq := hw.symm; subst hq; clear hw CP) | fail)
  go_wp2_with fail
  refine CO.out.mono ?_
  rintro e w2 ⟨rfl, hb2⟩
  have B2 := Hid.mk' hb2
  have J2 := Hid.mk' (J1.out.keep hb2)
  clear hb2 CO hp9
  go_upto_region 5 with fail
  go_wp2_with fail
  refine (CN.out w2 B2.out).mono ?_
  rintro e w3 ⟨rfl, hb3⟩
  have B3 := Hid.mk' (bT B2.out hb3)
  have J3 := Hid.mk' (J2.out.keep hb3)
  clear hb3 CN J2 B2
  go_upto_region 7 with fail
  clear hm2 hlt hw1
  go_wp2_with fail
  refine (CST.out w3 B3.out).mono ?_
  rintro e w' ⟨rfl, hw⟩
  have hq9 := hw.symm
  subst hq9
  clear hw CST
  go_upto_region 8 with fail
  go_wp2_with fail
  refine (COW.out w3 s hsn B3.out).mono ?_
  rintro e w' ⟨rfl, hw⟩
  have hq9 := hw.symm
  subst hq9
  clear hw
  go_upto_region 9 with fail
  have CL := Hid.mk' (clone_any a3 (e0 - s) c3 J0 w3 (by omega) (HT3.out.keep B3.out))
  go_wp2_with fail
  refine CL.out.mono ?_
  rintro e w4 ⟨jv, rfl, ho, hb4⟩
  clear CL hw2 hen
  go_upto_region 11 with fail
  obtain ⟨Q, hQ⟩ : ∃ q, w4.heap.size = q := ⟨_, rfl⟩
  have hq1' : W1.heap.size ≤ w3.heap.size := B3.out.size
  have hJS : Jst W1 (w4.alloc (.cells #[.slice none 0 0, .int .i64 0, .bool false, .bool false, .slice none 0 0, .int .i64 0, .bool false] 35)) B Q Q (.slice none 0 0) 0 [] jv J0 := by
    have hbk := J3.out.keep (hb4.trans (bAlloc (Below.refl w4.heap.size w4) (.cells #[.slice none 0 0, .int .i64 0, .bool false, .bool false, .slice none 0 0, .int .i64 0, .bool false] 35) |>.mono hb4.size))
    refine ⟨hbk, by rw [← hQ]; exact Blk.new w4 35 _, Eds.nil _ _ _, ?_, fun k x h => by simp [tes] at h, ?_, by have := hb4.size; omega, ?_, fun g hg => by have := (ho.lt g hg).2; omega, by rw [World.size_alloc]; omega, by have := hb4.size; omega⟩
    · rw [HJL.out]; exact own_keep (own_lower ho hq1') (bAlloc (Below.refl _ _) _)
    · exact bT (bT B3.out hb4) (bAlloc (Below.refl _ _) _)
    · exact J1.out.lt
  rw [hQ]
  generalize w4.alloc (.cells #[.slice none 0 0, .int .i64 0, .bool false, .bool false, .slice none 0 0, .int .i64 0, .bool false] 35) = w5 at *
  have JS0 := Hid.mk' hJS
  obtain ⟨jo, jc, rfl⟩ := own_shape ho
  clear hJS ho hb4 hQ J3 B3 hq1' hs3 hz1 hz2 hz0 hz3 HT3
  go_wp2_with fail
  clear hw3
  go_loopg [12, 13, 15, 16, 17, 64] mm (fun M x12 x13 x15 x16 x17 x64 wx => ∃ (i e : Nat) (v0 : Value) (cur : Int) (F : List Er) (jo : Option Addr) (jc : Nat) (J : List UInt8) (DD : List Ed) (hi : Nat), x12 = .int .i64 (e : Int) ∧ x13 = .slice jo J.length jc ∧ x64 = .int .i64 (i : Int) ∧ i + M = mm ∧ Hid (e = en l (sp l (i0 + i))) ∧ e ≤ n ∧ Hid (jnD l s mm e0 J0 = DD ++ jnD l s M e J) ∧ Hid (F.map Er.d = DD) ∧ F.length = i ∧ Hid (cur = lastA DD) ∧ J.length ≤ e + i ∧ Hid (Jst W1 wx B Q hi v0 cur F (.slice jo J.length jc) J))
  case atStart => exact ⟨0, e0, .slice none 0 0, 0, [], jo, jc, J0, [], Q, rfl, by rw [HJL.out], rfl, by omega, HE0.out.symm, HHE.out, rfl, rfl, rfl, rfl, by have := HJL.out; omega, by rw [HJL.out]; exact JS0.out⟩
  case round =>
    clear JS0
    obtain ⟨i, e, v0, cur, F, jo, jc, J, DD, hi, rfl, rfl, rfl, him, HE, hen, HD, HFD, hFi, HC, hJl, JS⟩ := hrel
    cases gk with
    | zero =>
      have hik : ¬ ((i : Int) < (mm : Int)) := by omega
      have HD2 : Hid (jnD l s mm e0 J0 = DD) := by have := HD.out; rw [jnD_zero, List.append_nil] at this; exact this
      obtain ⟨eo, ec, rfl, -, -⟩ := JS.out.ed.edz
      obtain ⟨fn, hfn⟩ : ∃ fn, F.length = fn := ⟨_, rfl⟩
      rw [hfn] at JS
      have HFN := Hid.mk' hfn
      clear hfn him hen hFi hJl HD
      obtain ⟨x0, x1, x2, x3, x4, x5, x6⟩ := ef_cells JS.out.qx
      obtain ⟨j0, j1, j2, j3, j4, j5, j6⟩ := ef_cells JS.out.bx
      obtain ⟨f0, f1, f2, f3, f4, f5, f6⟩ := ef_frozen JS.out.bx
      go_upto_region 21 with fail
      go_wp2_with fail
      have hbk := ef_store JS.out.bx (.slice eo fn ec) (.int .i64 cur) (.bool false) (.bool false) (.slice none 0 0) (.int .i64 0) (.bool false)
      have hgr := ef_grown wr B (.slice eo fn ec) (.int .i64 cur) (.bool false) (.bool false) (.slice none 0 0) (.int .i64 0) (.bool false)
      generalize (((((((wr.setCell ⟨B, 0, none⟩ (.slice eo fn ec)).setCell ⟨B, 1, none⟩ (.int .i64 cur)).setCell ⟨B, 2, none⟩ (.bool false)).setCell ⟨B, 3, none⟩ (.bool false)).setCell ⟨B, 4, none⟩ (.slice none 0 0)).setCell ⟨B, 5, none⟩ (.int .i64 0)).setCell ⟨B, 6, none⟩ (.bool false)) = w9 at *
      obtain ⟨g0, g1, g2, g3, g4, g5, g6⟩ := ef_cells hbk
      refine bodyPost_ret (v := .tuple #[.agg #[.slice eo fn ec, .int .i64 cur, .bool false, .bool false, .slice none 0 0, .int .i64 0, .bool false], .int .i64 0]) (by simp [results, Tryz.results56, go_sem, g0, g1, g2, g3, g4, g5, g6]) rfl ?_
      rw [HD2.out, ← HC.out]
      exact EfQ.out2 (x := ⟨DD, cur, false, false, [], 0, false⟩) HFD.out (Efm.bare ((JS.out.ed.wide L1.out.size JS.out.hhi))) (bT L1.out JS.out.bel) JS.out.bx (by have := HB.out; omega) hgr
    | succ go =>
      have hik : (i : Int) < (mm : Int) := by omega
      have hil : i0 + i + 1 ≤ nl l := by have := HGE.out; omega
      obtain ⟨hx1, hx2⟩ := sp_next hil
      rw [← HE.out] at hx1 hx2
      rw [HLN.out] at hx1
      have hoy := ow_le (l := l) (i := e + 1) (by rw [HLN.out]; omega)
      rw [HLN.out] at hoy
      have HEN : Hid (en l (e + 1) = e + 1 + ow l (e + 1)) := rfl
      obtain ⟨y, hy⟩ : ∃ y, ow l (e + 1) = y := ⟨_, rfl⟩
      rw [hy] at hoy HEN
      have HNX : Hid (e + 1 + y = en l (sp l (i0 + (i + 1)))) := by unfold Hid; rw [← HEN.out, ← hx2]; rfl
      have C1 : Hid (Calls Tryz.prog 88 #[.slice ao n c, .int .i64 ((e : Int) + 1)] wr fun e w' => e = .returned (.int .i64 (y : Int)) ∧ w' = wr) := by have := COW.out wr (e + 1) (by omega) JS.out.bel; rw [hy] at this; exact this
      obtain ⟨a3, c3, hs3, hT3⟩ := sl_lh' HT1.out (show e + 1 ≤ e + 1 + y by omega) hoy
      rw [Nat.add_sub_cancel_left] at hT3
      have hs3' : ∀ W, (Instr.sliceAt 22 (.slice ao n c) (some (.int .i64 ((e : Int) + 1))) (some (.int .i64 ((e : Int) + 1 + (y : Int)))) none).run Tryz.prog W = .ok (.slice a3 y c3) W := fun W => by have := hs3 W; rw [Nat.add_sub_cancel_left] at this; exact this
      have HTT : Hid (sl l (e + 1) (e + 1 + y) = jnT l e) := by unfold Hid jnT; rw [HEN.out]
      rw [HTT.out] at hT3
      have hld := lb2_le (jnT l e)
      rw [hT3.len] at hld
      have C2 := Hid.mk' (trimSet_any a3 y c3 (jnT l e) wr (hT3.keep JS.out.bel))
      have HT3 := Hid.mk' hT3
      obtain ⟨d, hd⟩ : ∃ d, lb2 (jnT l e) = d := ⟨_, rfl⟩
      have HR : Hid ((jnT l e).drop d = jnR l e) := by unfold Hid jnR; rw [hd]
      have HD2 : Hid (jnD l s mm e0 J0 = (DD ++ [⟨((s + J.length : Nat) : Int), sl l e (e + 1 + d), glu J (jnR l e)⟩]) ++ jnD l s go (e + 1 + y) (J ++ glu J (jnR l e) ++ jnR l e)) := by
        have := HD.out
        rw [jnD_succ, hd, HEN.out] at this
        unfold Hid
        rw [this]
        simp
      obtain ⟨a5, c5, hs5, hT5⟩ := sl_lh' HT1.out (show e ≤ e + 1 + d by omega) (show e + 1 + d ≤ n by omega)
      rw [show e + 1 + d - e = 1 + d by omega] at hT5
      have hs5' : ∀ W, (Instr.sliceAt 22 (.slice ao n c) (some (.int .i64 (e : Int))) (some (.int .i64 ((e : Int) + 1 + (d : Int)))) none).run Tryz.prog W = .ok (.slice a5 (1 + d) c5) W := fun W => by have := hs5 W; rw [show e + 1 + d - e = 1 + d by omega] at this; exact this
      have HT5 := Hid.mk' hT5
      obtain ⟨X, hX⟩ : ∃ X, sl l e (e + 1 + d) = X := ⟨_, rfl⟩
      have HXL : Hid (X.length = 1 + d) := by unfold Hid; rw [← hX, sl_len (by rw [HLN.out]; omega)]; omega
      rw [hX] at HT5 HD2
      rw [hd, HR.out] at C2
      obtain ⟨T0, hT0⟩ : ∃ T, jnT l e = T := ⟨_, rfl⟩
      rw [hT0] at C2 HT3
      rw [hd] at hld
      have HRL : Hid ((jnR l e).length = y - d) := by unfold Hid; rw [← HR.out, List.length_drop, hT3.len]
      generalize jnR l e = R at *
      have hGL := glu_le J R
      clear hs3 hs5 hT3 hT5 hX hd HR hT0 HTT HD hy HE hx2 hil
      have hp0 : (0 : Int) ≤ (e : Int) := by omega
      have hp1 : (e : Int) + 1 + (y : Int) ≤ (n : Int) := by omega
      have hp2 : (e : Int) + 1 + (d : Int) ≤ (n : Int) := by omega
      have hp3 : (e : Int) + 1 ≤ (e : Int) + 1 + (y : Int) := by omega
      have hp4 : (e : Int) ≤ (e : Int) + 1 + (d : Int) := by omega
      have hcap := HT1.out.cap
      have hp5 : (e : Int) + 1 + (y : Int) ≤ (c : Int) := by omega
      have hp6 : (e : Int) + 1 + (d : Int) ≤ (c : Int) := by omega
      have hp7 : (0 : Int) ≤ (e : Int) + 1 := by omega
      have hw1 : IntKind.i64.wrap ((i : Int) + 1) = (i : Int) + 1 := by rw [IntKind.wrap_i64]; omega
      have hw2 : IntKind.i64.wrap ((e : Int) + 1) = (e : Int) + 1 := by rw [IntKind.wrap_i64]; omega
      have hw3 : IntKind.i64.wrap ((e : Int) + 1 + (y : Int)) = (e : Int) + 1 + (y : Int) := by rw [IntKind.wrap_i64]; omega
      obtain ⟨jn, hjn⟩ : ∃ jn, J.length = jn := ⟨_, rfl⟩
      have HJN := Hid.mk' hjn
      have hw4 : IntKind.i64.wrap ((s : Int) + (jn : Int)) = (s : Int) + (jn : Int) := by rw [IntKind.wrap_i64]; omega
      obtain ⟨rn, hrn⟩ : ∃ rn, y - d = rn := ⟨_, rfl⟩
      have hw5 : IntKind.i64.wrap ((e : Int) + 1 + (y : Int) - (rn : Int)) = (e : Int) + 1 + (d : Int) := by rw [IntKind.wrap_i64]; omega
      rw [hrn] at C2 HRL
      rw [hjn] at JS HD2 ⊢
      go_upto_region 14 with (first | (go_at_call 88; refine C1.out.mono ?_; rintro e w' ⟨rfl, hw⟩; have hq := hw.symm; subst hq; clear hw) | fail)
      clear C1
      go_wp2_with fail
      refine C2.out.mono ?_
      rintro e9 w2 ⟨⟨a4, c4, rfl, hT4⟩, hb2⟩
      have HR1 : Hid (Tx W1 a4 rn c4 R) := hT4.out W1 HT3.out
      have JS2 := Hid.mk' (JS.out.keep hb2)
      have CG := Hid.mk' (glue_any jo jn jc J a4 rn c4 R w2 (by obtain ⟨_, _, h1, h2⟩ := own_tx JS2.out.jn (by have := HJN.out; omega); have h3 := h1; rw [HJN.out] at h1 h2; simp at h1; obtain ⟨rfl, rfl⟩ := h1; exact h2) (HR1.out.keep JS2.out.bel))
      clear C2 hb2 hT4 JS hs3' HT3
      go_upto_region 15 with fail
      go_wp2_with fail
      refine CG.out.mono ?_
      rintro e9 w4 ⟨v4, rfl, hW4, hb4⟩
      obtain ⟨p4, d4, rfl⟩ := hW4.shape
      have JS4 := Hid.mk' (JS2.out.keep hb4)
      have HW4 := Hid.mk' (hW4.wide JS2.out.hhi (Nat.le_refl _))
      clear CG hb4 hW4 JS2
      go_upto_region 16 with fail
      obtain ⟨x0, x1, x2, x3, x4, x5, x6⟩ := ef_cells JS4.out.qx
      obtain ⟨f0, f1, f2, f3, f4, f5, f6⟩ := ef_frozen JS4.out.qx
      go_upto_region 17 with fail
      have hbk : Blk (w4.setCell ⟨Q, 1, none⟩ (.int .i64 ((s : Int) + (jn : Int)))) Q 35 (ef7 v0 ((s : Int) + (jn : Int)) false false (.slice none 0 0) 0 false) := by
        have := JS4.out.qx.set (j := 1) (.int .i64 ((s : Int) + (jn : Int)))
        simpa [ef7] using this
      have hgr : w4.grownBy (w4.setCell ⟨Q, 1, none⟩ (.int .i64 ((s : Int) + (jn : Int)))) (some Q) := grown_set w4 Q 1 _
      clear x0 x1 x2 x3 x4 x5 x6 f0 f1 f2 f3 f4 f5 f6
      generalize w4.setCell ⟨Q, 1, none⟩ (.int .i64 ((s : Int) + (jn : Int))) = w5 at *
      have JS5 := Hid.mk' ((JS4.out.box hgr hbk).keep (Below.refl _ _).drew)
      have HW5 := Hid.mk' ((((HW4.out.offt JS4.out.qx (by decide) hgr).wide (Nat.le_refl _) hgr.size).keep (Below.refl _ _).drew).wide (Nat.le_refl _) (Below.refl w5.heap.size w5).drew.size)
      have SZ : Hid (w5.drew.cell? ⟨Q, 1, none⟩ = some (.int .i64 ((s : Int) + (jn : Int)))) := JS5.out.qx.cell rfl
      generalize glu J R = G at *
      obtain ⟨gn, hgn⟩ : ∃ gn, G.length = gn := ⟨_, rfl⟩
      have HGN := Hid.mk' hgn
      rw [hgn] at HW5 hGL ⊢
      clear hbk hgr JS4 HW4 hgn
      refine wp_region_held (S := fun w' => w'.cell? ⟨Q, 1, none⟩ = some (.int .i64 ((s : Int) + (jn : Int)))) (by kernel_rfl) ?_
      change wpAnyH _ _ _ _ _ _ _ _ (World.drew _)
      generalize w5.drew = V5 at *
      refine wpAnyH_take (i := 0) (v := .pointer (some ⟨Q, 0, none⟩)) rfl (by kernel_rfl) (by kernel_rfl) (by kernel_rfl) (fun _ _ _ h => h) (Yields.yieldsIf (Or.inl ⟨by rfl, fun w => by go_simp⟩)) SZ.out ?_
      try simp only [Act.put, List.getElem_toArray, List.getElem_cons_zero, List.getElem_cons_succ, List.setIfInBounds_toArray, List.set_cons_zero, List.set_cons_succ]
      refine wpAnyH_take (i := 2) (v := .pointer (some ⟨Q, 1, none⟩)) rfl (by kernel_rfl) (by kernel_rfl) (by kernel_rfl) (fun _ _ _ h => h) (Yields.yieldsIf (Or.inl ⟨by rfl, fun w => by go_simp⟩)) SZ.out ?_
      try simp only [Act.put, List.getElem_toArray, List.getElem_cons_zero, List.getElem_cons_succ, List.setIfInBounds_toArray, List.set_cons_zero, List.set_cons_succ]
      refine wpAnyH_take (i := 3) (v := .int .i64 ((s : Int) + (jn : Int))) rfl (by kernel_rfl) (by kernel_rfl) (by kernel_rfl) (fun _ _ _ h => h) (Or.inl ⟨by rfl, fun w9 h9 => by have y1 := h9; go_simp⟩) SZ.out ?_
      try simp only [Act.put, List.getElem_toArray, List.getElem_cons_zero, List.getElem_cons_succ, List.setIfInBounds_toArray, List.set_cons_zero, List.set_cons_succ]
      refine wpAnyH_take (i := 4) (v := .slice ao n c) rfl (by kernel_rfl) (by kernel_rfl) (by kernel_rfl) (fun _ _ _ h => h) (Yields.yieldsIf (Or.inl ⟨by rfl, fun w => by go_simp⟩)) SZ.out ?_
      try simp only [Act.put, List.getElem_toArray, List.getElem_cons_zero, List.getElem_cons_succ, List.setIfInBounds_toArray, List.set_cons_zero, List.set_cons_succ]
      refine wpAnyH_take (i := 5) (v := .int .i64 (e : Int)) rfl (by kernel_rfl) (by kernel_rfl) (by kernel_rfl) (fun _ _ _ h => h) (Yields.yieldsIf (Or.inl ⟨by rfl, fun w => by go_simp⟩)) SZ.out ?_
      try simp only [Act.put, List.getElem_toArray, List.getElem_cons_zero, List.getElem_cons_succ, List.setIfInBounds_toArray, List.set_cons_zero, List.set_cons_succ]
      refine wpAnyH_take (i := 6) (v := .int .i64 ((e : Int) + 1 + (y : Int))) rfl (by kernel_rfl) (by kernel_rfl) (by kernel_rfl) (fun _ _ _ h => h) (Yields.yieldsIf (Or.inl ⟨by rfl, fun w => by go_simp⟩)) SZ.out ?_
      try simp only [Act.put, List.getElem_toArray, List.getElem_cons_zero, List.getElem_cons_succ, List.setIfInBounds_toArray, List.set_cons_zero, List.set_cons_succ]
      refine wpAnyH_take (i := 7) (v := .slice a4 rn c4) rfl (by kernel_rfl) (by kernel_rfl) (by kernel_rfl) (fun _ _ _ h => h) (Yields.yieldsIf (Or.inl ⟨by rfl, fun w => by go_simp⟩)) SZ.out ?_
      try simp only [Act.put, List.getElem_toArray, List.getElem_cons_zero, List.getElem_cons_succ, List.setIfInBounds_toArray, List.set_cons_zero, List.set_cons_succ]
      refine wpAnyH_take (i := 8) (v := .int .i64 (rn : Int)) rfl (by kernel_rfl) (by kernel_rfl) (by kernel_rfl) (fun _ _ _ h => h) (Yields.yieldsIf (Or.inl ⟨by rfl, fun w => by go_simp⟩)) SZ.out ?_
      try simp only [Act.put, List.getElem_toArray, List.getElem_cons_zero, List.getElem_cons_succ, List.setIfInBounds_toArray, List.set_cons_zero, List.set_cons_succ]
      refine wpAnyH_take (i := 9) (v := .int .i64 ((e : Int) + 1 + (d : Int))) rfl (by kernel_rfl) (by kernel_rfl) (by kernel_rfl) (fun _ _ _ h => h) (Yields.yieldsIf (Or.inl ⟨by rfl, fun w => by go_simp⟩)) SZ.out ?_
      try simp only [Act.put, List.getElem_toArray, List.getElem_cons_zero, List.getElem_cons_succ, List.setIfInBounds_toArray, List.set_cons_zero, List.set_cons_succ]
      refine wpAnyH_take (i := 10) (v := .slice a5 (1 + d) c5) rfl (by kernel_rfl) (by kernel_rfl) (by kernel_rfl) (fun _ _ _ h => h) (Yields.yieldsIf (Or.inl ⟨by rfl, fun w => by go_simp⟩)) SZ.out ?_
      try simp only [Act.put, List.getElem_toArray, List.getElem_cons_zero, List.getElem_cons_succ, List.setIfInBounds_toArray, List.set_cons_zero, List.set_cons_succ]
      refine wpAnyH_take (i := 12) (v := .slice p4 gn d4) rfl (by kernel_rfl) (by kernel_rfl) (by kernel_rfl) (fun _ _ _ h => h) (Yields.yieldsIf (Or.inl ⟨by rfl, fun w => by go_simp⟩)) SZ.out ?_
      try simp only [Act.put, List.getElem_toArray, List.getElem_cons_zero, List.getElem_cons_succ, List.setIfInBounds_toArray, List.set_cons_zero, List.set_cons_succ]
      refine wpAnyH_all (rs := [1, 11]) (by kernel_rfl) (by simp) (AllH.cons rfl (fun K hK => ?_) (AllH.cons rfl (fun K hK => ?_) AllH.nil))
      · skip
        have y0 : V5.cell? ⟨Q, 0, none⟩ = some v0 := JS5.out.qx.cell rfl
        go_simp
        clear y0
        refine hK _ _ ⟨SZ.out, ?_⟩
        clear hK K
        try simp only [Act.put, List.getElem_toArray, List.getElem_cons_zero, List.getElem_cons_succ, List.setIfInBounds_toArray, List.set_cons_zero, List.set_cons_succ]
        refine wpAnyH_all (rs := [11]) (by kernel_rfl) (by simp) (AllH.cons rfl (fun K hK => ?_) AllH.nil)
        go_simp
        refine (CCL.out V5 a5 (1 + d) c5 X (by omega) (HT5.out.keep JS5.out.bel)).mono ?_
        rintro e9 w6 ⟨v6, rfl, hW6, hb6⟩
        obtain ⟨p6, d6, rfl⟩ := hW6.shape
        have JS6 := Hid.mk' (JS5.out.keep hb6)
        have HX6 := Hid.mk' (hW6.wide JS5.out.hhi (Nat.le_refl _))
        have HG6 := Hid.mk' ((HW5.out.keep hb6).wide (Nat.le_refl _) hb6.size)
        have HFAR : Hid (Far (.slice p6 X.length d6) (.slice p4 gn d4)) := hW6.far HW5.out (.inr (Nat.le_refl _))
        have S6 : Hid (w6.cell? ⟨Q, 1, none⟩ = some (.int .i64 ((s : Int) + (jn : Int)))) := JS6.out.qx.cell rfl
        clear hW6 hb6
        dsimp only
        refine hK _ _ ⟨S6.out, ?_⟩
        clear hK K
        try simp only [Act.put, List.getElem_toArray, List.getElem_cons_zero, List.getElem_cons_succ, List.setIfInBounds_toArray, List.set_cons_zero, List.set_cons_succ]
        refine wpAnyH_take (i := 13) (v := .agg #[.int .i64 ((s : Int) + (jn : Int)), .slice p6 X.length d6, .slice p4 gn d4]) rfl (by kernel_rfl) (by kernel_rfl) (by kernel_rfl) (fun _ _ _ h => h) (Yields.yieldsIf (Or.inl ⟨by rfl, fun w => by go_simp⟩)) S6.out ?_
        try simp only [Act.put, List.getElem_toArray, List.getElem_cons_zero, List.getElem_cons_succ, List.setIfInBounds_toArray, List.set_cons_zero, List.set_cons_succ]
        refine wpAnyH_all (rs := [14]) (by kernel_rfl) (by simp) (AllH.cons rfl (fun K hK => ?_) AllH.nil)
        go_simp
        obtain ⟨w7, hw7⟩ : ∃ x, w6.alloc (.cells #[.int .i64 ((s : Int) + (jn : Int)), .slice p6 X.length d6, .slice p4 gn d4] 65) = x := ⟨_, rfl⟩
        have hb7 : Below w6.heap.size w6 w7 := by rw [← hw7]; exact bAlloc (Below.refl _ _) _
        have JS7 := Hid.mk' (JS6.out.keep hb7)
        have HX7 := Hid.mk' ((HX6.out.keep hb7).wide (Nat.le_refl _) hb7.size)
        have HG7 := Hid.mk' ((HG6.out.keep hb7).wide (Nat.le_refl _) hb7.size)
        have S7 : Hid (w7.cell? ⟨Q, 1, none⟩ = some (.int .i64 ((s : Int) + (jn : Int)))) := JS7.out.qx.cell rfl
        have hlit : ∀ j u, (Er.cs ⟨((s : Int) + (jn : Int)), p6, X.length, d6, X, p4, gn, d4, G⟩).toList[j]? = some u → w7.cell? ((⟨w6.heap.size, 0, none⟩ : Addr).add j) = some u := fun j u hj => by rw [← hw7]; exact lit_cells w6 _ 65 j u hj
        have HLIT := Hid.mk' hlit
        rw [hw7]
        clear hw7 hb7 hlit
        refine hK _ _ ⟨S7.out, ?_⟩
        clear hK K
        try simp only [Act.put, List.getElem_toArray, List.getElem_cons_zero, List.getElem_cons_succ, List.setIfInBounds_toArray, List.set_cons_zero, List.set_cons_succ]
        refine wpAnyH_all (rs := [15]) (by kernel_rfl) (by simp) (AllH.cons rfl (fun K hK => ?_) AllH.nil)
        obtain ⟨v9, w9, hr, hv9, hg9, -⟩ := app_ed W1.heap.size v0 F.length (ecs F) JS7.out.ed.row ⟨w6.heap.size, 0, none⟩ ⟨((s : Int) + (jn : Int)), p6, X.length, d6, X, p4, gn, d4, G⟩ HLIT.out (by omega) (Nat.le_trans JS7.out.hlo JS7.out.hhi)
        obtain ⟨q9, he9⟩ := JS7.out.edit HX7.out HG7.out HFAR.out (by show X.length ≤ _; have := HXL.out; omega) (by show gn ≤ _; omega) hg9 hv9
        have Q9 := Hid.mk' q9
        have HE9 := Hid.mk' he9
        have HG9 := Hid.mk' hg9
        have S9 : Hid (w9.cell? ⟨Q, 1, none⟩ = some (.int .i64 ((s : Int) + (jn : Int)))) := Q9.out.cell rfl
        obtain ⟨m9, hm9⟩ : ∃ m, F.length + 1 = m := ⟨_, rfl⟩
        rw [hm9] at hv9
        obtain ⟨o9, c9, rfl⟩ := own_shape hv9
        clear hm9
        refine ow_ape _ _ rfl v0 _ rfl rfl (fun ty => hr ty 1) ?_
        clear hr hv9 hg9 q9 he9 HLIT
        refine hK _ _ ⟨S9.out, ?_⟩
        clear hK K
        try simp only [Act.put, List.getElem_toArray, List.getElem_cons_zero, List.getElem_cons_succ, List.setIfInBounds_toArray, List.set_cons_zero, List.set_cons_succ]
        refine wpAnyH_take (i := 16) (v := .pointer (some ⟨Q, 0, none⟩)) rfl (by kernel_rfl) (by kernel_rfl) (by kernel_rfl) (fun _ _ _ h => h) (Yields.yieldsIf (Or.inl ⟨by rfl, fun w => by go_simp⟩)) S9.out ?_
        try simp only [Act.put, List.getElem_toArray, List.getElem_cons_zero, List.getElem_cons_succ, List.setIfInBounds_toArray, List.set_cons_zero, List.set_cons_succ]
        refine wpAnyH_all (rs := [17]) (by kernel_rfl) (by simp) (AllH.cons rfl (fun K hK => ?_) AllH.nil)
        have y0 : w9.cell? ⟨Q, 0, none⟩ = some v0 := Q9.out.cell rfl
        have f0 := Q9.out.frozen 0
        go_simp
        have hbk : Blk (w9.setCell ⟨Q, 0, none⟩ (.slice o9 m9 c9)) Q 35 (ef7 (.slice o9 m9 c9) ((s : Int) + (jn : Int)) false false (.slice none 0 0) 0 false) := by
          have := Q9.out.set (j := 0) (.slice o9 m9 c9)
          simpa [ef7] using this
        have hgr : w9.grownBy (w9.setCell ⟨Q, 0, none⟩ (.slice o9 m9 c9)) (some Q) := grown_set w9 Q 0 _
        generalize w9.setCell ⟨Q, 0, none⟩ (.slice o9 m9 c9) = w10 at *
        have JS10 := Hid.mk' (HE9.out w10 hgr hbk)
        have S10 : Hid (w10.cell? ⟨Q, 1, none⟩ = some (.int .i64 ((s : Int) + (jn : Int)))) := JS10.out.qx.cell rfl
        have GT10 := Hid.mk' (((HG7.out.off HG9.out (HG7.out.row_far JS7.out.ed.row (by decide))).offt Q9.out (by decide) hgr))
        clear hbk hgr y0 f0 Q9 HE9 HG9 S9
        refine hK _ _ ⟨S10.out, ?_⟩
        clear hK K
        try simp only [Act.put, List.getElem_toArray, List.getElem_cons_zero, List.getElem_cons_succ, List.setIfInBounds_toArray, List.set_cons_zero, List.set_cons_succ]
        refine wpAnyH_done (by kernel_rfl) ?_ _
        have hGT := GT10.out.tx (by have := HGN.out; omega)
        have hRT := HR1.out.keep JS10.out.bel
        go_wp2_with (at_builtin; refine append_big rfl (.tmp 104) (.tmp 105) rfl W1.heap.size (.slice jo jn jc) jn (bv J) rfl (by have := JS10.out.jn; rw [HJN.out] at this; exact this) (.slice p4 gn d4) gn (bv G) rfl hGT.srv (by rw [bv_length]; exact HGN.out) (bv_one _) (by omega) (by omega) (Nat.le_trans JS10.out.hlo JS10.out.hhi) ?_)
        intro v11 w11 hown hgrow hfr
        have JS11 := Hid.mk' (JS10.out.join HGN.out (by rw [HJN.out]; exact hown) hgrow hfr)
        obtain ⟨jo2, jc2, rfl⟩ := own_shape hown
        clear hown hgrow hfr hGT hRT JS10 GT10
        have hRT := HR1.out.keep JS11.out.bel
        have HJ2 : Hid ((J ++ G).length = jn + gn) := by unfold Hid; rw [List.length_append, HJN.out, HGN.out]
        go_wp2_with (at_builtin; refine append_big rfl (.tmp 106) (.tmp 107) rfl W1.heap.size (.slice jo2 (jn + gn) jc2) (jn + gn) (bv (J ++ G)) rfl (by have := JS11.out.jn; rw [HJ2.out] at this; exact this) (.slice a4 rn c4) rn (bv R) rfl hRT.srv (by rw [bv_length]; exact HRL.out) (bv_one _) (by omega) (by omega) (Nat.le_trans JS11.out.hlo JS11.out.hhi) ?_)
        intro v12 w12 hown hgrow hfr
        have JS12 := Hid.mk' (JS11.out.join HRL.out (by rw [HJ2.out]; exact hown) hgrow hfr)
        obtain ⟨jo3, jc3, rfl⟩ := own_shape hown
        have HJ3 : Hid ((J ++ G ++ R).length = jn + gn + rn) := by unfold Hid; rw [List.length_append, HJ2.out, HRL.out]
        clear hown hgrow hfr hRT JS11
        go_wp2
        go_roundg go
        case measure => omega
        case rel =>
          refine ⟨i + 1, e + 1 + y, .slice o9 m9 c9, (s : Int) + (jn : Int), F ++ [(⟨((s : Int) + (jn : Int)), p6, X.length, d6, X, p4, gn, d4, G⟩ : Er)], jo3, jc3, J ++ G ++ R, DD ++ [(⟨((s + jn : Nat) : Int), X, G⟩ : Ed)], w12.heap.size, by go_num, by rw [HJ3.out], by go_num, by omega, HNX.out, by omega, HD2.out, ?_, by rw [List.length_append]; simp; omega, ?_, by rw [HJ3.out]; omega, by rw [HJ3.out]; exact JS12.out⟩
          · unfold Hid; rw [List.map_append, HFD.out]; simp [Er.d]
          · unfold Hid; rw [lastA_snoc]; simp
      · skip
        go_simp
        refine (CCL.out V5 a5 (1 + d) c5 X (by omega) (HT5.out.keep JS5.out.bel)).mono ?_
        rintro e9 w6 ⟨v6, rfl, hW6, hb6⟩
        obtain ⟨p6, d6, rfl⟩ := hW6.shape
        have JS6 := Hid.mk' (JS5.out.keep hb6)
        have HX6 := Hid.mk' (hW6.wide JS5.out.hhi (Nat.le_refl _))
        have HG6 := Hid.mk' ((HW5.out.keep hb6).wide (Nat.le_refl _) hb6.size)
        have HFAR : Hid (Far (.slice p6 X.length d6) (.slice p4 gn d4)) := hW6.far HW5.out (.inr (Nat.le_refl _))
        have S6 : Hid (w6.cell? ⟨Q, 1, none⟩ = some (.int .i64 ((s : Int) + (jn : Int)))) := JS6.out.qx.cell rfl
        clear hW6 hb6
        dsimp only
        refine hK _ _ ⟨S6.out, ?_⟩
        clear hK K
        try simp only [Act.put, List.getElem_toArray, List.getElem_cons_zero, List.getElem_cons_succ, List.setIfInBounds_toArray, List.set_cons_zero, List.set_cons_succ]
        refine wpAnyH_take (i := 13) (v := .agg #[.int .i64 ((s : Int) + (jn : Int)), .slice p6 X.length d6, .slice p4 gn d4]) rfl (by kernel_rfl) (by kernel_rfl) (by kernel_rfl) (fun _ _ _ h => h) (Yields.yieldsIf (Or.inl ⟨by rfl, fun w => by go_simp⟩)) S6.out ?_
        try simp only [Act.put, List.getElem_toArray, List.getElem_cons_zero, List.getElem_cons_succ, List.setIfInBounds_toArray, List.set_cons_zero, List.set_cons_succ]
        refine wpAnyH_all (rs := [1, 14]) (by kernel_rfl) (by simp) (AllH.cons rfl (fun K hK => ?_) (AllH.cons rfl (fun K hK => ?_) AllH.nil))
        · skip
          have y0 : w6.cell? ⟨Q, 0, none⟩ = some v0 := JS6.out.qx.cell rfl
          go_simp
          clear y0
          refine hK _ _ ⟨S6.out, ?_⟩
          clear hK K
          try simp only [Act.put, List.getElem_toArray, List.getElem_cons_zero, List.getElem_cons_succ, List.setIfInBounds_toArray, List.set_cons_zero, List.set_cons_succ]
          refine wpAnyH_all (rs := [14]) (by kernel_rfl) (by simp) (AllH.cons rfl (fun K hK => ?_) AllH.nil)
          go_simp
          obtain ⟨w7, hw7⟩ : ∃ x, w6.alloc (.cells #[.int .i64 ((s : Int) + (jn : Int)), .slice p6 X.length d6, .slice p4 gn d4] 65) = x := ⟨_, rfl⟩
          have hb7 : Below w6.heap.size w6 w7 := by rw [← hw7]; exact bAlloc (Below.refl _ _) _
          have JS7 := Hid.mk' (JS6.out.keep hb7)
          have HX7 := Hid.mk' ((HX6.out.keep hb7).wide (Nat.le_refl _) hb7.size)
          have HG7 := Hid.mk' ((HG6.out.keep hb7).wide (Nat.le_refl _) hb7.size)
          have S7 : Hid (w7.cell? ⟨Q, 1, none⟩ = some (.int .i64 ((s : Int) + (jn : Int)))) := JS7.out.qx.cell rfl
          have hlit : ∀ j u, (Er.cs ⟨((s : Int) + (jn : Int)), p6, X.length, d6, X, p4, gn, d4, G⟩).toList[j]? = some u → w7.cell? ((⟨w6.heap.size, 0, none⟩ : Addr).add j) = some u := fun j u hj => by rw [← hw7]; exact lit_cells w6 _ 65 j u hj
          have HLIT := Hid.mk' hlit
          rw [hw7]
          clear hw7 hb7 hlit
          refine hK _ _ ⟨S7.out, ?_⟩
          clear hK K
          try simp only [Act.put, List.getElem_toArray, List.getElem_cons_zero, List.getElem_cons_succ, List.setIfInBounds_toArray, List.set_cons_zero, List.set_cons_succ]
          refine wpAnyH_all (rs := [15]) (by kernel_rfl) (by simp) (AllH.cons rfl (fun K hK => ?_) AllH.nil)
          obtain ⟨v9, w9, hr, hv9, hg9, -⟩ := app_ed W1.heap.size v0 F.length (ecs F) JS7.out.ed.row ⟨w6.heap.size, 0, none⟩ ⟨((s : Int) + (jn : Int)), p6, X.length, d6, X, p4, gn, d4, G⟩ HLIT.out (by omega) (Nat.le_trans JS7.out.hlo JS7.out.hhi)
          obtain ⟨q9, he9⟩ := JS7.out.edit HX7.out HG7.out HFAR.out (by show X.length ≤ _; have := HXL.out; omega) (by show gn ≤ _; omega) hg9 hv9
          have Q9 := Hid.mk' q9
          have HE9 := Hid.mk' he9
          have HG9 := Hid.mk' hg9
          have S9 : Hid (w9.cell? ⟨Q, 1, none⟩ = some (.int .i64 ((s : Int) + (jn : Int)))) := Q9.out.cell rfl
          obtain ⟨m9, hm9⟩ : ∃ m, F.length + 1 = m := ⟨_, rfl⟩
          rw [hm9] at hv9
          obtain ⟨o9, c9, rfl⟩ := own_shape hv9
          clear hm9
          refine ow_ape _ _ rfl v0 _ rfl rfl (fun ty => hr ty 1) ?_
          clear hr hv9 hg9 q9 he9 HLIT
          refine hK _ _ ⟨S9.out, ?_⟩
          clear hK K
          try simp only [Act.put, List.getElem_toArray, List.getElem_cons_zero, List.getElem_cons_succ, List.setIfInBounds_toArray, List.set_cons_zero, List.set_cons_succ]
          refine wpAnyH_take (i := 16) (v := .pointer (some ⟨Q, 0, none⟩)) rfl (by kernel_rfl) (by kernel_rfl) (by kernel_rfl) (fun _ _ _ h => h) (Yields.yieldsIf (Or.inl ⟨by rfl, fun w => by go_simp⟩)) S9.out ?_
          try simp only [Act.put, List.getElem_toArray, List.getElem_cons_zero, List.getElem_cons_succ, List.setIfInBounds_toArray, List.set_cons_zero, List.set_cons_succ]
          refine wpAnyH_all (rs := [17]) (by kernel_rfl) (by simp) (AllH.cons rfl (fun K hK => ?_) AllH.nil)
          have y0 : w9.cell? ⟨Q, 0, none⟩ = some v0 := Q9.out.cell rfl
          have f0 := Q9.out.frozen 0
          go_simp
          have hbk : Blk (w9.setCell ⟨Q, 0, none⟩ (.slice o9 m9 c9)) Q 35 (ef7 (.slice o9 m9 c9) ((s : Int) + (jn : Int)) false false (.slice none 0 0) 0 false) := by
            have := Q9.out.set (j := 0) (.slice o9 m9 c9)
            simpa [ef7] using this
          have hgr : w9.grownBy (w9.setCell ⟨Q, 0, none⟩ (.slice o9 m9 c9)) (some Q) := grown_set w9 Q 0 _
          generalize w9.setCell ⟨Q, 0, none⟩ (.slice o9 m9 c9) = w10 at *
          have JS10 := Hid.mk' (HE9.out w10 hgr hbk)
          have S10 : Hid (w10.cell? ⟨Q, 1, none⟩ = some (.int .i64 ((s : Int) + (jn : Int)))) := JS10.out.qx.cell rfl
          have GT10 := Hid.mk' (((HG7.out.off HG9.out (HG7.out.row_far JS7.out.ed.row (by decide))).offt Q9.out (by decide) hgr))
          clear hbk hgr y0 f0 Q9 HE9 HG9 S9
          refine hK _ _ ⟨S10.out, ?_⟩
          clear hK K
          try simp only [Act.put, List.getElem_toArray, List.getElem_cons_zero, List.getElem_cons_succ, List.setIfInBounds_toArray, List.set_cons_zero, List.set_cons_succ]
          refine wpAnyH_done (by kernel_rfl) ?_ _
          have hGT := GT10.out.tx (by have := HGN.out; omega)
          have hRT := HR1.out.keep JS10.out.bel
          go_wp2_with (at_builtin; refine append_big rfl (.tmp 104) (.tmp 105) rfl W1.heap.size (.slice jo jn jc) jn (bv J) rfl (by have := JS10.out.jn; rw [HJN.out] at this; exact this) (.slice p4 gn d4) gn (bv G) rfl hGT.srv (by rw [bv_length]; exact HGN.out) (bv_one _) (by omega) (by omega) (Nat.le_trans JS10.out.hlo JS10.out.hhi) ?_)
          intro v11 w11 hown hgrow hfr
          have JS11 := Hid.mk' (JS10.out.join HGN.out (by rw [HJN.out]; exact hown) hgrow hfr)
          obtain ⟨jo2, jc2, rfl⟩ := own_shape hown
          clear hown hgrow hfr hGT hRT JS10 GT10
          have hRT := HR1.out.keep JS11.out.bel
          have HJ2 : Hid ((J ++ G).length = jn + gn) := by unfold Hid; rw [List.length_append, HJN.out, HGN.out]
          go_wp2_with (at_builtin; refine append_big rfl (.tmp 106) (.tmp 107) rfl W1.heap.size (.slice jo2 (jn + gn) jc2) (jn + gn) (bv (J ++ G)) rfl (by have := JS11.out.jn; rw [HJ2.out] at this; exact this) (.slice a4 rn c4) rn (bv R) rfl hRT.srv (by rw [bv_length]; exact HRL.out) (bv_one _) (by omega) (by omega) (Nat.le_trans JS11.out.hlo JS11.out.hhi) ?_)
          intro v12 w12 hown hgrow hfr
          have JS12 := Hid.mk' (JS11.out.join HRL.out (by rw [HJ2.out]; exact hown) hgrow hfr)
          obtain ⟨jo3, jc3, rfl⟩ := own_shape hown
          have HJ3 : Hid ((J ++ G ++ R).length = jn + gn + rn) := by unfold Hid; rw [List.length_append, HJ2.out, HRL.out]
          clear hown hgrow hfr hRT JS11
          go_wp2
          go_roundg go
          case measure => omega
          case rel =>
            refine ⟨i + 1, e + 1 + y, .slice o9 m9 c9, (s : Int) + (jn : Int), F ++ [(⟨((s : Int) + (jn : Int)), p6, X.length, d6, X, p4, gn, d4, G⟩ : Er)], jo3, jc3, J ++ G ++ R, DD ++ [(⟨((s + jn : Nat) : Int), X, G⟩ : Ed)], w12.heap.size, by go_num, by rw [HJ3.out], by go_num, by omega, HNX.out, by omega, HD2.out, ?_, by rw [List.length_append]; simp; omega, ?_, by rw [HJ3.out]; omega, by rw [HJ3.out]; exact JS12.out⟩
            · unfold Hid; rw [List.map_append, HFD.out]; simp [Er.d]
            · unfold Hid; rw [lastA_snoc]; simp
        · skip
          go_simp
          obtain ⟨w7, hw7⟩ : ∃ x, w6.alloc (.cells #[.int .i64 ((s : Int) + (jn : Int)), .slice p6 X.length d6, .slice p4 gn d4] 65) = x := ⟨_, rfl⟩
          have hb7 : Below w6.heap.size w6 w7 := by rw [← hw7]; exact bAlloc (Below.refl _ _) _
          have JS7 := Hid.mk' (JS6.out.keep hb7)
          have HX7 := Hid.mk' ((HX6.out.keep hb7).wide (Nat.le_refl _) hb7.size)
          have HG7 := Hid.mk' ((HG6.out.keep hb7).wide (Nat.le_refl _) hb7.size)
          have S7 : Hid (w7.cell? ⟨Q, 1, none⟩ = some (.int .i64 ((s : Int) + (jn : Int)))) := JS7.out.qx.cell rfl
          have hlit : ∀ j u, (Er.cs ⟨((s : Int) + (jn : Int)), p6, X.length, d6, X, p4, gn, d4, G⟩).toList[j]? = some u → w7.cell? ((⟨w6.heap.size, 0, none⟩ : Addr).add j) = some u := fun j u hj => by rw [← hw7]; exact lit_cells w6 _ 65 j u hj
          have HLIT := Hid.mk' hlit
          rw [hw7]
          clear hw7 hb7 hlit
          refine hK _ _ ⟨S7.out, ?_⟩
          clear hK K
          try simp only [Act.put, List.getElem_toArray, List.getElem_cons_zero, List.getElem_cons_succ, List.setIfInBounds_toArray, List.set_cons_zero, List.set_cons_succ]
          refine wpAnyH_all (rs := [1]) (by kernel_rfl) (by simp) (AllH.cons rfl (fun K hK => ?_) AllH.nil)
          have y0 : w7.cell? ⟨Q, 0, none⟩ = some v0 := JS7.out.qx.cell rfl
          go_simp
          clear y0
          refine hK _ _ ⟨S7.out, ?_⟩
          clear hK K
          try simp only [Act.put, List.getElem_toArray, List.getElem_cons_zero, List.getElem_cons_succ, List.setIfInBounds_toArray, List.set_cons_zero, List.set_cons_succ]
          refine wpAnyH_all (rs := [15]) (by kernel_rfl) (by simp) (AllH.cons rfl (fun K hK => ?_) AllH.nil)
          obtain ⟨v9, w9, hr, hv9, hg9, -⟩ := app_ed W1.heap.size v0 F.length (ecs F) JS7.out.ed.row ⟨w6.heap.size, 0, none⟩ ⟨((s : Int) + (jn : Int)), p6, X.length, d6, X, p4, gn, d4, G⟩ HLIT.out (by omega) (Nat.le_trans JS7.out.hlo JS7.out.hhi)
          obtain ⟨q9, he9⟩ := JS7.out.edit HX7.out HG7.out HFAR.out (by show X.length ≤ _; have := HXL.out; omega) (by show gn ≤ _; omega) hg9 hv9
          have Q9 := Hid.mk' q9
          have HE9 := Hid.mk' he9
          have HG9 := Hid.mk' hg9
          have S9 : Hid (w9.cell? ⟨Q, 1, none⟩ = some (.int .i64 ((s : Int) + (jn : Int)))) := Q9.out.cell rfl
          obtain ⟨m9, hm9⟩ : ∃ m, F.length + 1 = m := ⟨_, rfl⟩
          rw [hm9] at hv9
          obtain ⟨o9, c9, rfl⟩ := own_shape hv9
          clear hm9
          refine ow_ape _ _ rfl v0 _ rfl rfl (fun ty => hr ty 1) ?_
          clear hr hv9 hg9 q9 he9 HLIT
          refine hK _ _ ⟨S9.out, ?_⟩
          clear hK K
          try simp only [Act.put, List.getElem_toArray, List.getElem_cons_zero, List.getElem_cons_succ, List.setIfInBounds_toArray, List.set_cons_zero, List.set_cons_succ]
          refine wpAnyH_take (i := 16) (v := .pointer (some ⟨Q, 0, none⟩)) rfl (by kernel_rfl) (by kernel_rfl) (by kernel_rfl) (fun _ _ _ h => h) (Yields.yieldsIf (Or.inl ⟨by rfl, fun w => by go_simp⟩)) S9.out ?_
          try simp only [Act.put, List.getElem_toArray, List.getElem_cons_zero, List.getElem_cons_succ, List.setIfInBounds_toArray, List.set_cons_zero, List.set_cons_succ]
          refine wpAnyH_all (rs := [17]) (by kernel_rfl) (by simp) (AllH.cons rfl (fun K hK => ?_) AllH.nil)
          have y0 : w9.cell? ⟨Q, 0, none⟩ = some v0 := Q9.out.cell rfl
          have f0 := Q9.out.frozen 0
          go_simp
          have hbk : Blk (w9.setCell ⟨Q, 0, none⟩ (.slice o9 m9 c9)) Q 35 (ef7 (.slice o9 m9 c9) ((s : Int) + (jn : Int)) false false (.slice none 0 0) 0 false) := by
            have := Q9.out.set (j := 0) (.slice o9 m9 c9)
            simpa [ef7] using this
          have hgr : w9.grownBy (w9.setCell ⟨Q, 0, none⟩ (.slice o9 m9 c9)) (some Q) := grown_set w9 Q 0 _
          generalize w9.setCell ⟨Q, 0, none⟩ (.slice o9 m9 c9) = w10 at *
          have JS10 := Hid.mk' (HE9.out w10 hgr hbk)
          have S10 : Hid (w10.cell? ⟨Q, 1, none⟩ = some (.int .i64 ((s : Int) + (jn : Int)))) := JS10.out.qx.cell rfl
          have GT10 := Hid.mk' (((HG7.out.off HG9.out (HG7.out.row_far JS7.out.ed.row (by decide))).offt Q9.out (by decide) hgr))
          clear hbk hgr y0 f0 Q9 HE9 HG9 S9
          refine hK _ _ ⟨S10.out, ?_⟩
          clear hK K
          try simp only [Act.put, List.getElem_toArray, List.getElem_cons_zero, List.getElem_cons_succ, List.setIfInBounds_toArray, List.set_cons_zero, List.set_cons_succ]
          refine wpAnyH_done (by kernel_rfl) ?_ _
          have hGT := GT10.out.tx (by have := HGN.out; omega)
          have hRT := HR1.out.keep JS10.out.bel
          go_wp2_with (at_builtin; refine append_big rfl (.tmp 104) (.tmp 105) rfl W1.heap.size (.slice jo jn jc) jn (bv J) rfl (by have := JS10.out.jn; rw [HJN.out] at this; exact this) (.slice p4 gn d4) gn (bv G) rfl hGT.srv (by rw [bv_length]; exact HGN.out) (bv_one _) (by omega) (by omega) (Nat.le_trans JS10.out.hlo JS10.out.hhi) ?_)
          intro v11 w11 hown hgrow hfr
          have JS11 := Hid.mk' (JS10.out.join HGN.out (by rw [HJN.out]; exact hown) hgrow hfr)
          obtain ⟨jo2, jc2, rfl⟩ := own_shape hown
          clear hown hgrow hfr hGT hRT JS10 GT10
          have hRT := HR1.out.keep JS11.out.bel
          have HJ2 : Hid ((J ++ G).length = jn + gn) := by unfold Hid; rw [List.length_append, HJN.out, HGN.out]
          go_wp2_with (at_builtin; refine append_big rfl (.tmp 106) (.tmp 107) rfl W1.heap.size (.slice jo2 (jn + gn) jc2) (jn + gn) (bv (J ++ G)) rfl (by have := JS11.out.jn; rw [HJ2.out] at this; exact this) (.slice a4 rn c4) rn (bv R) rfl hRT.srv (by rw [bv_length]; exact HRL.out) (bv_one _) (by omega) (by omega) (Nat.le_trans JS11.out.hlo JS11.out.hhi) ?_)
          intro v12 w12 hown hgrow hfr
          have JS12 := Hid.mk' (JS11.out.join HRL.out (by rw [HJ2.out]; exact hown) hgrow hfr)
          obtain ⟨jo3, jc3, rfl⟩ := own_shape hown
          have HJ3 : Hid ((J ++ G ++ R).length = jn + gn + rn) := by unfold Hid; rw [List.length_append, HJ2.out, HRL.out]
          clear hown hgrow hfr hRT JS11
          go_wp2
          go_roundg go
          case measure => omega
          case rel =>
            refine ⟨i + 1, e + 1 + y, .slice o9 m9 c9, (s : Int) + (jn : Int), F ++ [(⟨((s : Int) + (jn : Int)), p6, X.length, d6, X, p4, gn, d4, G⟩ : Er)], jo3, jc3, J ++ G ++ R, DD ++ [(⟨((s + jn : Nat) : Int), X, G⟩ : Ed)], w12.heap.size, by go_num, by rw [HJ3.out], by go_num, by omega, HNX.out, by omega, HD2.out, ?_, by rw [List.length_append]; simp; omega, ?_, by rw [HJ3.out]; omega, by rw [HJ3.out]; exact JS12.out⟩
            · unfold Hid; rw [List.map_append, HFD.out]; simp [Er.d]
            · unfold Hid; rw [lastA_snoc]; simp
theorem join_any (ao : Option Addr) (n c : Nat) (l : List UInt8) (at' q : Int) (w : World) (HT : Hid (Tx w ao n c l)) (hbig : n ≤ 1048576) :
    Calls Tryz.prog 56 #[.slice ao n c, .int .i64 at', .int .i64 q] w fun e w' => EfQ (joX l at' q).1 (joX l at' q).2 w e w' := by
  have hln := HT.out.len
  unfold joX
  rw [hln]
  by_cases h : ¬ (0 ≤ at' ∧ at' ≤ (n : Int)) ∨ q < 0 ∨ 9999 < q
  · rw [if_pos h]
    exact join_args ao n c l at' q w HT h
  · rw [if_neg h]
    have h1 : 0 ≤ at' ∧ at' ≤ (n : Int) := by omega
    obtain ⟨k, rfl⟩ := Int.eq_ofNat_of_zero_le h1.1
    rw [show ((k : Int)).toNat = k from rfl]
    unfold joM
    by_cases hlt : (nl l : Int) + 1 - (nl (l.take k) : Int) < max q 2
    · rw [if_pos hlt]
      exact join_few ao n c k l q w HT (by omega) hbig (by omega) (by omega) hlt
    · rw [if_neg hlt]
      obtain ⟨mm, hmm⟩ : ∃ mm : Nat, (max q 2).toNat - 1 = mm := ⟨_, rfl⟩
      dsimp only
      rw [hmm]
      exact join_some ao n c k l q w HT (by omega) hbig (by omega) (by omega) _ mm rfl (by omega) (by omega)
end Go.Proofs.YtppefcnopkmhbaaGreatDoor
