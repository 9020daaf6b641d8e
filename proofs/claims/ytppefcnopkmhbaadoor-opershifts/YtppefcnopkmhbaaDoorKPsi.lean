/- > and then <, pure: the range, the edits, back again. -/
import Derived.Test.YtppefcnopkmhbaaDoorKPsh
import Derived.Test.YtppefcnopkmhbaaDoorKBkl
namespace Go.Proofs.YtppefcnopkmhbaaDoor
open Go.RowKit

set_option maxRecDepth 8000
/-- the last line that > works on -/
def lst (l : List UInt8) (a b : Nat) : Nat := if b = nl l ∧ a = 0 ∧ 0 < nl l ∧ (ln l (nl l)).length = 0 then nl l - 1 else b
theorem lst_le {l : List UInt8} {a b : Nat} (hab : a ≤ b) (_hb : b ≤ nl l) : a ≤ lst l a b ∧ lst l a b ≤ b := by
  unfold lst
  split <;> omega
theorem isW_iff {l : List UInt8} {a b fF tT : Int} {L D : Bool} : isW l a b fF tT L D = true ↔ wh l a b = ⟨fF, tT, L, D, 0⟩ := ⟨isW_yes, isW_of⟩
theorem lnO_at {l : List UInt8} {a b f t : Nat} {D : Bool} (hab : a ≤ b) (hb : b ≤ nl l) (hw : wh l (a : Int) (b : Int) = ⟨(f : Int), (t : Int), true, D, 0⟩) :
    lnO l (sp l a) (f : Int) (t : Int) true D = ((a : Int), (lst l a b : Int), true) := by
  have hs1 := sp_le (t := l) (n := a) (by omega)
  have hs2 := sp_le (t := l) hb
  have hen := en_last l
  have hen2 := ln_len (l := l) (i := nl l) (Nat.le_refl _)
  have hna : nl (l.take (sp l a)) = a := nl_sp (by omega)
  rcases whole_kinds hab hb with ⟨h1, h2, h3⟩ | ⟨h1, h2, h3, h4⟩ | ⟨h1, h2, h3⟩
  · rw [hw] at h3
    simp only [Rg.mk.injEq, true_and, and_true] at h3
    obtain ⟨e1, e2, e3⟩ := h3
    subst e3
    obtain rfl : f = sp l a := by omega
    obtain rfl : t = en l (sp l b) + 1 := by omega
    have hn := (sp_next (l := l) (i := b) (by omega)).2
    have hnb : nl (l.take (en l (sp l b) + 1)) = b + 1 := by rw [← hn]; exact nl_sp (by omega)
    have hen3 := en_ge l (sp l b)
    have hmono := sp_mono (l := l) hab hb
    unfold lnO
    rw [if_neg (by omega), if_neg (by simp)]
    rw [show (((sp l a : Nat) : Int)).toNat = sp l a from rfl, show (((en l (sp l b) + 1 : Nat) : Int)).toNat = en l (sp l b) + 1 from rfl, hna, hnb]
    dsimp only
    rw [show ((a : Int) + (if false = true then 1 else 0)) = (a : Int) by simp, show (((b + 1 : Nat) : Int) - 1) = (b : Int) by omega, isW_iff.2 hw, if_pos (by simp; first | (right; omega) | omega)]
    have : lst l a b = b := by unfold lst; rw [if_neg (by omega)]
    rw [this]
  · rw [hw] at h4
    simp only [Rg.mk.injEq, true_and, and_true] at h4
    obtain ⟨e1, e2, e3⟩ := h4
    subst e3
    obtain rfl : f = sp l a - 1 := by omega
    obtain rfl : t = l.length := by omega
    obtain ⟨q1, q2⟩ := nl_ahead (l := l) (a := a) (by omega) h3
    unfold lnO
    rw [if_neg (by omega), if_neg (by simp)]
    rw [show (((sp l a - 1 : Nat) : Int)).toNat = sp l a - 1 from rfl, show (((l.length : Nat) : Int)).toNat = l.length from rfl, List.take_length]
    dsimp only
    rw [show ((nl (l.take (sp l a - 1)) : Int) + (if true = true then 1 else 0)) = (a : Int) by simp; omega, ← h1]
    have hno : isW l (a : Int) ((b : Int) - 1) ((sp l a - 1 : Nat) : Int) (l.length : Int) true true = false := by
      cases e : isW l (a : Int) ((b : Int) - 1) ((sp l a - 1 : Nat) : Int) (l.length : Int) true true with
      | false => rfl
      | true =>
        have hw2 := isW_yes e
        rcases Nat.lt_or_ge a b with h | h
        · rw [show (b : Int) - 1 = ((b - 1 : Nat) : Int) by omega, wh_yes (by omega) (by omega) (by omega)] at hw2
          have := (sp_next (l := l) (i := b - 1) (by omega)).1
          unfold whY at hw2
          rw [if_pos this] at hw2
          simp at hw2
        · rw [wh_no (by simp; intros; omega)] at hw2
          simp [rno] at hw2
    rw [hno, if_neg (by simp), isW_iff.2 hw]
    have : lst l a b = b := by unfold lst; rw [if_neg (by omega)]
    rw [this]
  · subst h2
    rw [hw] at h3
    simp only [Rg.mk.injEq, true_and, and_true] at h3
    obtain ⟨e1, e2, e3⟩ := h3
    subst e3
    obtain rfl : f = 0 := by omega
    obtain rfl : t = l.length := by omega
    unfold lnO
    rw [if_neg (by omega), if_neg (by simp)]
    rw [show (((0 : Nat) : Int)).toNat = 0 from rfl, show (((l.length : Nat) : Int)).toNat = l.length from rfl, List.take_length, sp_zero, List.take_zero, nl_nil]
    dsimp only
    rw [show ((((0 : Nat) : Int)) + (if false = true then 1 else 0)) = ((0 : Nat) : Int) by simp, ← h1, isW_iff.2 hw]
    rcases Nat.eq_zero_or_pos b with h0 | h0
    · have hno : isW l ((0 : Nat) : Int) ((b : Int) - 1) ((0 : Nat) : Int) (l.length : Int) true false = false := by
        cases e : isW l ((0 : Nat) : Int) ((b : Int) - 1) ((0 : Nat) : Int) (l.length : Int) true false with
        | false => rfl
        | true =>
          have hw2 := isW_yes e
          rw [wh_no (by simp; intros; omega)] at hw2
          simp [rno] at hw2
      rw [hno, if_neg (by simp)]
      have : lst l 0 b = b := by unfold lst; rw [if_neg (by omega)]
      rw [this]
    · have hx := sp_next (l := l) (i := b - 1) (by omega)
      rw [show b - 1 + 1 = b by omega] at hx
      have hw2 : wh l ((0 : Nat) : Int) ((b : Int) - 1) = ⟨((0 : Nat) : Int), ((sp l b : Nat) : Int), true, false, 0⟩ := by
        rw [show (b : Int) - 1 = ((b - 1 : Nat) : Int) by omega, wh_yes (by omega) (by omega) (by omega)]
        unfold whY
        rw [if_pos hx.1, sp_zero, hx.2]
        rfl
      by_cases hz : (ln l b).length = 0
      · have : lst l 0 b = b - 1 := by unfold lst; rw [if_pos ⟨h1, rfl, by omega, by rw [← h1]; exact hz⟩, h1]
        rw [this]
        rw [h1] at hz
        have hsl : sp l b = l.length := by rw [h1]; omega
        rw [hsl] at hw2
        rw [isW_iff.2 hw2, if_pos (by simp; first | (right; omega) | omega), show (b : Int) - 1 = ((b - 1 : Nat) : Int) by omega]
      · have : lst l 0 b = b := by unfold lst; rw [if_neg (by rw [← h1]; omega)]
        rw [this]
        rw [h1] at hz
        have hno : isW l ((0 : Nat) : Int) ((b : Int) - 1) ((0 : Nat) : Int) (l.length : Int) true false = false := by
          cases e : isW l ((0 : Nat) : Int) ((b : Int) - 1) ((0 : Nat) : Int) (l.length : Int) true false with
          | false => rfl
          | true =>
            have hw3 := isW_yes e
            rw [hw2] at hw3
            simp only [Rg.mk.injEq, true_and, and_true] at hw3
            rw [h1] at hw3
            omega
        rw [hno, if_neg (by simp)]
/-- what > and < answer to lines -/
theorem do_shI {l : List UInt8} {a b f t k : Nat} {D : Bool} (hab : a ≤ b) (hb : b ≤ nl l) (hk1 : 1 ≤ k) (hk : k ≤ 9999) (hw : wh l (a : Int) (b : Int) = ⟨(f : Int), (t : Int), true, D, 0⟩) :
    doX l (sp l a : Int) ⟨#[62]⟩ (f : Int) (t : Int) true D (k : Int) = shX l (shf (hdI k) l (lst l a b + 1 - a) a 0) a := by
  have hs : kn ⟨#[62]⟩ = 4 := by decide +kernel
  have hl := lnO_at hab hb hw
  have hs1 := sp_le (t := l) (n := a) (by omega)
  unfold doX
  rw [show ((sp l a : Int)).toNat = sp l a from rfl, hs, hl]
  rw [if_neg (by
    rintro (h | h | h | h)
    · omega
    · exact h ⟨by omega, by omega⟩
    · exact h ⟨by omega, by omega⟩
    · cases h), if_neg (fun h => by simp [idl] at h)]
  rfl
theorem do_shO {l : List UInt8} {a b f t k : Nat} {D : Bool} (hab : a ≤ b) (hb : b ≤ nl l) (hk1 : 1 ≤ k) (hk : k ≤ 9999) (hw : wh l (a : Int) (b : Int) = ⟨(f : Int), (t : Int), true, D, 0⟩) :
    doX l (sp l a : Int) ⟨#[60]⟩ (f : Int) (t : Int) true D (k : Int) = shX l (shf (hdO k) l (lst l a b + 1 - a) a 0) a := by
  have hs : kn ⟨#[60]⟩ = 5 := by decide +kernel
  have hl := lnO_at hab hb hw
  have hs1 := sp_le (t := l) (n := a) (by omega)
  unfold doX
  rw [show ((sp l a : Int)).toNat = sp l a from rfl, hs, hl]
  rw [if_neg (by
    rintro (h | h | h | h)
    · omega
    · exact h ⟨by omega, by omega⟩
    · exact h ⟨by omega, by omega⟩
    · cases h), if_neg (fun h => by simp [idl] at h)]
  rfl
/-- a range of whole lines is one -/
theorem wh_rg {l : List UInt8} {a b : Nat} (hab : a ≤ b) (hb : b ≤ nl l) : ∃ (f t : Nat) (D : Bool), wh l (a : Int) (b : Int) = ⟨(f : Int), (t : Int), true, D, 0⟩ ∧ f ≤ t ∧ t ≤ l.length := by
  have h2 := sp_le (t := l) hb
  have h3 := sp_mono (l := l) hab hb
  have h4 := en_ge l (sp l b)
  rcases whole_kinds hab hb with ⟨_, h, h1⟩ | ⟨_, _, _, h1⟩ | ⟨_, _, h1⟩
  · exact ⟨_, _, _, h1, by omega, by omega⟩
  · exact ⟨_, _, _, h1, by omega, by omega⟩
  · exact ⟨0, _, _, h1, by omega, by omega⟩
/-- > is never too long for a short text -/
theorem shf_in {k : Nat} (hk : k ≤ 9) {l : List UInt8} (hl : l.length ≤ 4096) : ∀ (m i : Nat) (g : Int), i + m ≤ nl l + 1 → (1 ≤ m → 0 ≤ g ∧ g ≤ 9 * (sp l i : Int)) →
    ∃ D, shf (hdI k) l m i g = some D ∧ D.length ≤ m ∧ nsum D ≤ 9 * m
  | 0, _, _, _, _ => ⟨[], rfl, Nat.le_refl _, Nat.le_refl _⟩
  | m + 1, i, g, hi, hg => by
    have hg' := hg (by omega)
    have hi' : i ≤ nl l := by omega
    have hs := sp_le (t := l) hi'
    have hln := ln_len (l := l) hi'
    have hy : (hdI k (ln l i)).1 = 0 ∧ (hdI k (ln l i)).2 ≤ 9 ∧ ((hdI k (ln l i)).2 ≤ 9 * (ln l i).length) := by
      unfold hdI
      split
      · exact ⟨rfl, Nat.zero_le _, Nat.zero_le _⟩
      · exact ⟨rfl, hk, by show k ≤ _; omega⟩
    obtain ⟨y1, y2, y3⟩ := hy
    obtain ⟨D, hD, hD1, hD2⟩ := shf_in hk hl m (i + 1) (g + (((hdI k (ln l i)).2 : Int) - ((hdI k (ln l i)).1 : Int))) (by omega) (fun hm => by
      have hn := (sp_next (l := l) (i := i) (by omega)).2
      omega)
    refine ⟨_, by unfold shf; rw [if_neg (by omega), hD]; rfl, ?_, ?_⟩
    · rw [List.length_append]; split <;> simp <;> omega
    · unfold nsum at hD2 ⊢
      rw [List.map_append, List.sum_append]
      have e : ((List.map (fun d => d.N.length) (if 0 < (hdI k (ln l i)).1 + (hdI k (ln l i)).2 then [(⟨(sp l i : Int) + g, (ln l i).take (hdI k (ln l i)).1, rp [9] (hdI k (ln l i)).2⟩ : Ed)] else [])).sum) ≤ 9 := by
        split
        · simp [rp9_len]; omega
        · simp
      omega
theorem shf_out {k : Nat} {l : List UInt8} : ∀ (m i : Nat) (g : Int), g ≤ 0 → ∃ D, shf (hdO k) l m i g = some D ∧ D.length ≤ m ∧ nsum D = 0
  | 0, _, _, _ => ⟨[], rfl, Nat.le_refl _, rfl⟩
  | m + 1, i, g, hg => by
    have y1 : (hdO k (ln l i)).2 = 0 := rfl
    obtain ⟨D, hD, hD1, hD2⟩ := shf_out (k := k) (l := l) m (i + 1) (g + (((hdO k (ln l i)).2 : Int) - ((hdO k (ln l i)).1 : Int))) (by rw [y1]; omega)
    refine ⟨_, by unfold shf; rw [if_neg (by rw [y1]; omega), hD]; rfl, ?_, ?_⟩
    · rw [List.length_append]; split <;> simp <;> omega
    · unfold nsum at hD2 ⊢
      rw [List.map_append, List.sum_append, hD2]
      split
      · simp [rp9_len, y1]
      · rfl
theorem st8_nine (p : List UInt8) : st8 (9 :: p) = 1 := by unfold st8; rw [if_pos (by simp)]
theorem mgn_nines (p : List UInt8) : ∀ (k n : Nat) (Q : List UInt8), Q.length = n → mgn (Q ++ (rp [9] k ++ p)) k n = n + k
  | 0, n, Q, _ => rfl
  | k + 1, n, Q, hQ => by
    have e : rp [9] (k + 1) = 9 :: rp [9] k := rfl
    unfold mgn
    rw [List.drop_left' hQ, e, List.cons_append, st8_nine, if_neg (by omega)]
    have := mgn_nines p k (n + 1) (Q ++ [9]) (by simp; omega)
    rw [List.append_assoc] at this
    rw [show Q ++ 9 :: (rp [9] k ++ p) = Q ++ ([9] ++ (rp [9] k ++ p)) by simp, this]
    omega
/-- a line there and back -/
theorem nw_back (k : Nat) (p : List UInt8) : nw (hdO k) (nw (hdI k) p) = p := by
  unfold nw hdI
  split
  · rename_i h
    have : p = [] := List.eq_nil_of_length_eq_zero h
    subst this
    unfold hdO
    simp [rp]
  · unfold hdO
    show rp [9] 0 ++ (rp [9] k ++ p).drop (mgn (rp [9] k ++ p) k 0) = p
    have := mgn_nines p k 0 [] rfl
    rw [List.nil_append, Nat.zero_add] at this
    rw [this, List.drop_left' (rp9_len k)]
    rfl
theorem nw_in (k : Nat) (p : List UInt8) : nw (hdI k) p = (if p.length = 0 then [] else rp [9] k ++ p) := by
  unfold nw hdI
  split
  · rename_i h
    rw [List.eq_nil_of_length_eq_zero h]; rfl
  · rfl
theorem rp9_mem {k : Nat} {x : UInt8} (h : x ∈ rp [9] k) : x = 9 := by
  induction k with
  | zero => cases h
  | succ k ih => rcases List.mem_cons.1 h with h | h
                 · exact h
                 · exact ih h
theorem nw_nolf {k : Nat} {p : List UInt8} (h : nolf p) : nolf (nw (hdI k) p) := by
  rw [nw_in]
  split
  · intro x hx; cases hx
  · intro x hx
    rcases List.mem_append.1 hx with hx | hx
    · rw [rp9_mem hx]; decide +kernel
    · exact h x hx
/-- all that the law asks, of > -/
structure Shd (l U : List UInt8) (a b k : Nat) : Prop where
  n : nl U = nl l
  low : ∀ j, j ≤ nl l → ln U j = lw (hdI k) (ln l) a (lst l a b + 1 - a) j
  ls : lst U a b = lst l a b
theorem shd_mk {l : List UInt8} {a b k : Nat} (_hab : a ≤ b) (_hb : b ≤ nl l) : Shd l (tj (lw (hdI k) (ln l) a (lst l a b + 1 - a)) (nl l) 0) a b k := by
  obtain ⟨h1, h2⟩ := tj_lines (f := lw (hdI k) (ln l) a (lst l a b + 1 - a)) (m := nl l) (fun j _ => by
    unfold lw
    split
    · exact nw_nolf (ln_nolf l j)
    · exact ln_nolf l j)
  refine ⟨h1, h2, ?_⟩
  have h3 := h2 (nl l) (Nat.le_refl _)
  have h4 : (ln (tj (lw (hdI k) (ln l) a (lst l a b + 1 - a)) (nl l) 0) (nl l)).length = 0 ↔ (ln l (nl l)).length = 0 := by
    rw [h3]
    unfold lw
    split
    · rw [nw_in]
      split
      · rename_i h; simp [h]
      · rw [List.length_append]; constructor <;> intro <;> omega
    · exact Iff.rfl
  generalize tj (lw (hdI k) (ln l) a (lst l a b + 1 - a)) (nl l) 0 = U at *
  unfold lst
  rw [h1]
  by_cases hc : (ln l (nl l)).length = 0
  · have := h4.2 hc
    simp only [hc, this]
  · have : ¬ (ln U (nl l)).length = 0 := fun h => hc (h4.1 h)
    simp only [hc, this]
theorem sh_back {l U : List UInt8} {a b k : Nat} (hab : a ≤ b) (hb : b ≤ nl l) (h : Shd l U a b k) {D : List Ed} (hD : shf (hdO k) U (lst U a b + 1 - a) a 0 = some D) : apU U D = l ∧ apE U D = 0 := by
  have h1 := lst_le hab hb
  have := app_lines (hd := hdO k) (l := U) (fun p => (mgn_le p k 0 (Nat.zero_le _)).2) (a := a) (m := lst U a b + 1 - a) (by rw [h.n, h.ls]; omega) (by rw [h.ls]; omega) hD
  have e : tj (lw (hdO k) (ln U) a (lst U a b + 1 - a)) (nl U) 0 = l := by
    conv => rhs; rw [← all_tj l]
    rw [h.n, h.ls]
    refine tj_congr _ _ (fun j _ hj => ?_)
    unfold lw
    have hlo := h.low j (by omega)
    unfold lw at hlo
    rw [hlo]
    by_cases hc : a ≤ j ∧ j < a + (lst l a b + 1 - a)
    · rw [if_pos hc, if_pos hc, nw_back]
    · rw [if_neg hc, if_neg hc]
  rw [e] at this
  unfold apU apE
  rw [this]
  exact ⟨rfl, rfl⟩
theorem sh_fore {l : List UInt8} {a b k : Nat} (hab : a ≤ b) (hb : b ≤ nl l) {D : List Ed} (hD : shf (hdI k) l (lst l a b + 1 - a) a 0 = some D) : ∃ U, apU l D = U ∧ apE l D = 0 ∧ Shd l U a b k := by
  have h1 := lst_le hab hb
  have := app_lines (hd := hdI k) (l := l) (fun p => by unfold hdI; split <;> exact Nat.zero_le _) (a := a) (m := lst l a b + 1 - a) (by omega) (by omega) hD
  refine ⟨_, ?_, ?_, shd_mk hab hb⟩
  · unfold apU; rw [this]; rfl
  · unfold apE; rw [this]; rfl
end Go.Proofs.YtppefcnopkmhbaaDoor
