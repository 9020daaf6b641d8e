/- Psh -/
import Derived.Test.YtppefcnopkmhbaaGreatDoorPt19
import Derived.Test.YtppefcnopkmhbaaGreatDoorPt07
import Derived.Test.YtppefcnopkmhbaaGreatDoorPt10
namespace Go.Proofs.YtppefcnopkmhbaaGreatDoor
open Go.RowKit

set_option maxRecDepth 8000
/-- the text of the lines f i .. f (i + m) -/
def tj (f : Nat → List UInt8) : Nat → Nat → List UInt8
  | 0, i => f i
  | m + 1, i => f i ++ 10 :: tj f m (i + 1)
theorem tj_congr {f g : Nat → List UInt8} : ∀ (m i : Nat), (∀ j, i ≤ j → j ≤ i + m → f j = g j) → tj f m i = tj g m i
  | 0, i, h => h i (Nat.le_refl i) (by omega)
  | m + 1, i, h => by
    show f i ++ 10 :: tj f m (i + 1) = g i ++ 10 :: tj g m (i + 1)
    rw [h i (Nat.le_refl i) (by omega), tj_congr m (i + 1) (fun j h1 h2 => h j (by omega) (by omega))]
theorem at8_lf {l : List UInt8} {e : Nat} (h : e < l.length) (hl : le (at8 l e) = true) : l.drop e = 10 :: l.drop (e + 1) := by
  have h1 : at8 l e = 10 := by rw [le_ten] at hl; exact eq_of_beq hl
  rw [at8_eq h] at h1
  rw [List.drop_eq_getElem_cons h, h1]
theorem drop_ln (l : List UInt8) {i : Nat} (_h : i ≤ nl l) : l.drop (sp l i) = ln l i ++ l.drop (en l (sp l i)) := by
  unfold ln
  have h1 := en_ge l (sp l i)
  conv => lhs; rw [← List.take_append_drop (en l (sp l i) - sp l i) (l.drop (sp l i))]
  rw [List.drop_drop, show sp l i + (en l (sp l i) - sp l i) = en l (sp l i) by omega]
theorem drop_tj (l : List UInt8) : ∀ (m i : Nat), i + m = nl l → l.drop (sp l i) = tj (ln l) m i
  | 0, i, h => by
    obtain rfl : i = nl l := by omega
    rw [drop_ln l (Nat.le_refl _), en_last, List.drop_length, List.append_nil]
    rfl
  | m + 1, i, h => by
    obtain ⟨h1, h2⟩ := sp_next (l := l) (i := i) (by omega)
    rw [drop_ln l (by omega), at8_lf h1 (en_edge h1), ← h2, drop_tj l m (i + 1) (by omega)]
    rfl
/-- a line without a line end -/
def nolf (p : List UInt8) : Prop := ∀ x ∈ p, le x = false
theorem nl_nolf {p : List UInt8} (h : nolf p) : nl p = 0 := by
  unfold nl
  exact List.countP_eq_zero.2 (fun x hx => by rw [h x hx]; simp)
theorem ln_nolf (l : List UInt8) (i : Nat) : nolf (ln l i) := by
  intro x hx
  obtain ⟨j, hj, rfl⟩ := List.getElem_of_mem hx
  have h1 := en_ge l (sp l i)
  unfold ln at hj ⊢
  rw [List.length_take, List.length_drop] at hj
  have := en_none (t := l) (s := sp l i) (j := sp l i + j) (by omega) (by omega)
  rw [at8_eq (by omega)] at this
  simpa using this
/-- the lines of a text that is put together of lines -/
theorem tj_ln (f : Nat → List UInt8) : ∀ (m i : Nat) (Q : List UInt8), (∀ j, i ≤ j → j ≤ i + m → nolf (f j)) → St (Q ++ tj f m i) i Q.length →
    nl (Q ++ tj f m i) = i + m ∧ ∀ j, j ≤ m → ln (Q ++ tj f m i) (i + j) = f (i + j)
  | 0, i, Q, hn, hs => by
    have hf : nolf (f i) := hn i (Nat.le_refl i) (by omega)
    have hnum : nl Q = i := by have := hs.num; rwa [List.take_left'] at this; rfl
    refine ⟨by show nl (Q ++ f i) = _; rw [nl_append, nl_nolf hf, hnum], fun j hj => ?_⟩
    obtain rfl : j = 0 := by omega
    have he : en (Q ++ tj f 0 i) Q.length = (Q ++ f i).length := en_eq (by rw [List.length_append]; omega) (by exact Nat.le_refl _) (fun j h1 h2 => by
      show le (at8 (Q ++ f i) j) = false
      rw [at8_eq h2, List.getElem_append_right h1]
      exact hf _ (List.getElem_mem _)) (.inl rfl)
    unfold ln
    rw [Nat.add_zero, sp_eq hs, he]
    show ((Q ++ f i).drop Q.length).take _ = f i
    rw [List.drop_left' rfl, List.length_append, List.take_of_length_le (by omega)]
  | m + 1, i, Q, hn, hs => by
    have hf : nolf (f i) := hn i (Nat.le_refl i) (by omega)
    have hnum : nl Q = i := by have := hs.num; rwa [List.take_left'] at this; rfl
    have e : Q ++ tj f (m + 1) i = (Q ++ f i ++ [10]) ++ tj f m (i + 1) := by
      show Q ++ (f i ++ 10 :: tj f m (i + 1)) = _
      simp
    have hl : (Q ++ f i ++ [10] ++ tj f m (i + 1)).length = Q.length + (f i).length + 1 + (tj f m (i + 1)).length := by simp; omega
    have hlt : Q.length + (f i).length < (Q ++ f i ++ [10] ++ tj f m (i + 1)).length := by omega
    have h10 : at8 (Q ++ f i ++ [10] ++ tj f m (i + 1)) (Q.length + (f i).length) = 10 := by
      rw [at8_eq hlt, List.getElem_append_left (by simp), List.getElem_append_right (by simp)]
      simp
    have he : en (Q ++ tj f (m + 1) i) Q.length = Q.length + (f i).length := by
      rw [e]
      refine en_eq (by omega) (by omega) (fun j h1 h2 => ?_) (.inr (by rw [h10]; decide +kernel))
      rw [at8_eq (by omega), List.getElem_append_left (by simp; omega), List.getElem_append_left (by simp; omega), List.getElem_append_right h1]
      exact hf _ (List.getElem_mem _)
    have hs' : St (Q ++ f i ++ [10] ++ tj f m (i + 1)) (i + 1) (Q ++ f i ++ [10]).length := by
      have hql : (Q ++ f i ++ [10]).length = Q.length + (f i).length + 1 := by simp; omega
      refine ⟨by omega, ?_, .inr ⟨by omega, ?_⟩⟩
      · rw [List.take_left' rfl, nl_append, nl_append, hnum, nl_nolf hf]; rfl
      · rw [hql, Nat.add_sub_cancel, h10]; decide +kernel
    obtain ⟨g1, g2⟩ := tj_ln f m (i + 1) (Q ++ f i ++ [10]) (fun j h1 h2 => hn j (by omega) (by omega)) hs'
    refine ⟨by rw [e, g1]; omega, fun j hj => ?_⟩
    rcases Nat.eq_zero_or_pos j with h0 | h0
    · subst h0
      show ln (Q ++ tj f (m + 1) i) i = f i
      unfold ln
      rw [sp_eq hs, he]
      show ((Q ++ (f i ++ 10 :: tj f m (i + 1))).drop Q.length).take _ = f i
      rw [List.drop_left' rfl, show Q.length + (f i).length - Q.length = (f i).length by omega, List.take_left' rfl]
    · have := g2 (j - 1) (by omega)
      rw [show i + 1 + (j - 1) = i + j by omega] at this
      rw [e]; exact this
theorem tj_lines {f : Nat → List UInt8} {m : Nat} (h : ∀ j, j ≤ m → nolf (f j)) : nl (tj f m 0) = m ∧ ∀ j, j ≤ m → ln (tj f m 0) j = f j := by
  obtain ⟨h1, h2⟩ := tj_ln f m 0 [] (fun j _ hj => h j (by omega)) (St.zero _)
  rw [List.nil_append] at h1 h2
  refine ⟨by omega, fun j hj => ?_⟩
  have := h2 j hj
  rwa [Nat.zero_add] at this
/-- what a line becomes -/
def nw (hd : List UInt8 → Nat × Nat) (p : List UInt8) : List UInt8 := rp [9] (hd p).2 ++ p.drop (hd p).1
/-- the lines then -/
def lw (hd : List UInt8 → Nat × Nat) (f : Nat → List UInt8) (a m : Nat) (j : Nat) : List UInt8 := if a ≤ j ∧ j < a + m then nw hd (f j) else f j
theorem ln_len {l : List UInt8} {i : Nat} (h : i ≤ nl l) : sp l i + (ln l i).length = en l (sp l i) := by
  rw [ln_length h]
  have := en_ge l (sp l i)
  omega
theorem rp9_len (k : Nat) : (rp [9] k).length = k := by rw [rp_len]; simp
theorem fit_at {P R : List UInt8} {O N : List UInt8} {z : Int} (hz : z = (P.length : Int)) (hO : R.take O.length = O) : fitB (P ++ R) ⟨z, O, N⟩ = true ∧ stp (P ++ R) ⟨z, O, N⟩ = P ++ N ++ R.drop O.length := by
  subst hz
  refine ⟨fitB_iff.2 ⟨P.length, rfl, by simp, ?_⟩, ?_⟩
  · rw [List.drop_left' rfl]; exact hO
  · unfold stp
    show (P ++ R).take P.length ++ N ++ (P ++ R).drop (P.length + O.length) = _
    rw [List.take_left' rfl, ← List.drop_drop, List.drop_left' rfl]
/-- shift's edits, applied -/
theorem app_shf (hd : List UInt8 → Nat × Nat) (l : List UInt8) (hle : ∀ p, (hd p).1 ≤ p.length) (F : Nat → List UInt8) : ∀ (c m i : Nat) (g : Int) (D : List Ed) (P : List UInt8), i + m = nl l → c ≤ m + 1 →
    shf hd l c i g = some D → (P.length : Int) = (sp l i : Int) + g → (∀ j, i ≤ j → j < i + c → F j = nw hd (ln l j)) → (∀ j, i + c ≤ j → F j = ln l j) →
    app (P ++ tj (ln l) m i) D = some (P ++ tj F m i)
  | 0, m, i, g, D, P, _, _, hD, _, _, h2 => by
    injection hD with hD
    subst hD
    rw [tj_congr m i (fun j hj _ => (h2 j (by omega)))]
    rfl
  | c + 1, m, i, g, D, P, him, hc, hD, hP, h1, h2 => by
    unfold shf at hD
    split at hD
    · cases hD
    · obtain ⟨D', hD', rfl⟩ := Option.map_eq_some_iff.1 hD
      have hF := h1 i (Nat.le_refl i) (by omega)
      have hx := hle (ln l i)
      generalize hxx : (hd (ln l i)).1 = x at *
      generalize hyy : (hd (ln l i)).2 = y at *
      have hnw : nw hd (ln l i) = rp [9] y ++ (ln l i).drop x := by unfold nw; rw [hxx, hyy]
      -- the first edit
      have step : ∀ R, app (P ++ (ln l i ++ R)) (if 0 < x + y then [⟨(sp l i : Int) + g, (ln l i).take x, rp [9] y⟩] else []) = some (P ++ nw hd (ln l i) ++ R) := by
        intro R
        split
        · have ht : ((ln l i).take x).length = x := by rw [List.length_take]; omega
          obtain ⟨f1, f2⟩ := fit_at (P := P) (R := ln l i ++ R) (O := (ln l i).take x) (N := rp [9] y) hP.symm (by rw [ht, List.take_append_of_le_length hx])
          show (if fitB _ _ then app (stp _ _) [] else none) = _
          rw [f1, if_pos rfl, f2, ht, List.drop_append_of_le_length hx, hnw]
          show some _ = some _
          simp
        · obtain rfl : x = 0 := by omega
          obtain rfl : y = 0 := by omega
          rw [hnw]
          show some _ = some _
          simp [rp]
      rw [app_append]
      match m, him, hc, step with
      | 0, him, hc, step =>
        obtain rfl : c = 0 := by omega
        injection hD' with hD'
        subst hD'
        have := step []
        rw [List.append_nil, List.append_nil] at this
        show (app (P ++ ln l i) _).bind _ = some (P ++ F i)
        rw [this, hF]
        rfl
      | m + 1, him, hc, step =>
        obtain ⟨e1, e2⟩ := sp_next (l := l) (i := i) (by omega)
        have e3 := ln_len (l := l) (i := i) (by omega)
        show (app (P ++ (ln l i ++ 10 :: tj (ln l) m (i + 1))) _).bind _ = some (P ++ (F i ++ 10 :: tj F m (i + 1)))
        rw [step, hF]
        show app (P ++ nw hd (ln l i) ++ 10 :: tj (ln l) m (i + 1)) D' = _
        have ih := app_shf hd l hle F c m (i + 1) (g + ((y : Int) - (x : Int))) D' (P ++ nw hd (ln l i) ++ [10]) (by omega) (by omega) hD' (by
          rw [List.length_append, List.length_append, hnw, List.length_append, rp9_len, List.length_drop]
          simp only [List.length_cons, List.length_nil]
          omega) (fun j q1 q2 => h1 j (by omega) (by omega)) (fun j q => h2 j (by omega))
        have a1 : P ++ nw hd (ln l i) ++ [10] ++ tj (ln l) m (i + 1) = P ++ nw hd (ln l i) ++ 10 :: tj (ln l) m (i + 1) := by simp
        have a2 : P ++ nw hd (ln l i) ++ [10] ++ tj F m (i + 1) = P ++ (nw hd (ln l i) ++ 10 :: tj F m (i + 1)) := by simp
        rw [a1, a2] at ih
        exact ih
/-- the whole of it -/
theorem app_lines {hd : List UInt8 → Nat × Nat} {l : List UInt8} (hle : ∀ p, (hd p).1 ≤ p.length) {a m : Nat} {D : List Ed} (ham : a + m ≤ nl l + 1) (hm : 1 ≤ m) (hD : shf hd l m a 0 = some D) :
    app l D = some (tj (lw hd (ln l) a m) (nl l) 0) := by
  have han : a ≤ nl l := by omega
  have hs := sp_le (t := l) han
  have h := app_shf hd l hle (lw hd (ln l) a m) m (nl l - a) a 0 D (l.take (sp l a)) (by omega) (by omega) hD (by rw [List.length_take]; omega)
    (fun j h1 h2 => if_pos ⟨h1, h2⟩) (fun j h1 => if_neg (by omega))
  rw [← drop_tj l (nl l - a) a (by omega), List.take_append_drop] at h
  rw [h]
  congr 1
  -- the lines ahead
  have key : ∀ (k i : Nat), i + k = a → (l.take (sp l a)).drop (sp l i) ++ tj (lw hd (ln l) a m) (nl l - a) a = tj (lw hd (ln l) a m) (nl l - i) i := by
    intro k
    induction k with
    | zero =>
      intro i hi
      obtain rfl : i = a := by omega
      rw [List.drop_of_length_le (by rw [List.length_take]; omega), List.nil_append]
    | succ k ih =>
      intro i hi
      obtain ⟨e1, e2⟩ := sp_next (l := l) (i := i) (by omega)
      have e3 := sp_mono (l := l) (i := i + 1) (j := a) (by omega) han
      have e4 := en_ge l (sp l i)
      have := ih (i + 1) (by omega)
      rw [show nl l - i = (nl l - (i + 1)) + 1 by omega]
      show _ = lw hd (ln l) a m i ++ 10 :: tj (lw hd (ln l) a m) (nl l - (i + 1)) (i + 1)
      rw [← this]
      unfold lw
      rw [if_neg (by omega)]
      rw [show (l.take (sp l a)).drop (sp l i) = ln l i ++ 10 :: (l.take (sp l a)).drop (sp l (i + 1)) from ?_]
      · simp
      · rw [List.drop_take, List.drop_take, drop_ln l (by omega), at8_lf e1 (en_edge e1), ← e2]
        have e5 := ln_len (l := l) (i := i) (by omega)
        rw [List.take_append, List.take_of_length_le (by omega)]
        congr 1
        rw [show sp l a - sp l i - (ln l i).length = (sp l a - sp l (i + 1)) + 1 by omega, List.take_succ_cons]
  have := key a 0 (by omega)
  rw [sp_zero, List.drop_zero, Nat.sub_zero] at this
  exact this
end Go.Proofs.YtppefcnopkmhbaaGreatDoor
