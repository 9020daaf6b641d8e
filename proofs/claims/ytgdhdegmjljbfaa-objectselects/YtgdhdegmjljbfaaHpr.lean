/- What an object holds, as plain facts; no program. -/
import Derived.Test.YtgdhdegmjljbfaaSel
namespace Go.Proofs.Ytgdhdegmjljbfaa
/-- a target that lies in the text, or none beside a refusal -/
def ly (l : List UInt8) (F T K e k : Int) : Prop :=
  (e = 130 ∧ F = 0 ∧ T = 0 ∧ K = 0) ∨ (e = 0 ∧ ∃ f t : Nat, F = f ∧ T = t ∧ f ≤ t ∧ t ≤ l.length ∧ ((k = 112 ∧ K = 3 ∧ (f = 0 ∨ bi l (f - 1) = 10) ∧ (t = 0 ∨ bi l (t - 1) = 10)) ∨ (¬ k = 112 ∧ K = 1)))
/-- the answer's four numbers -/
def s4 (l : List UInt8) (q n : Nat) (k : Int) (a : Bool) : Int × Int × Int × Int := match bnd l q n k a with
  | none => (0, 0, 0, 130)
  | some x => if k = 112 then (x.1, bg l (x.2 - 1), 3, 0) else (x.1, x.2, 1, 0)
theorem sel_s4 (l : List UInt8) (q n : Nat) (k : Int) (a : Bool) : sel l q n k a = tg (s4 l q n k a).1 (s4 l q n k a).2.1 (s4 l q n k a).2.2.1 (s4 l q n k a).2.2.2 := by
  unfold sel s4
  cases bnd l q n k a with
  | none => rfl
  | some x => by_cases h : k = 112 <;> simp [h]
/-- a run's start and end, mapped -/
theorem rl_fr {K : Nat → Int} {n j : Nat} (f : Nat → Nat) (g : Nat → Bool) (h : j < rm K n) : fr (rl K n f g) j = f (rf K n j) := by unfold fr; rw [rl_at f g h]; rfl
theorem rl_tt {K : Nat → Int} {n j : Nat} (f : Nat → Nat) (g : Nat → Bool) (h : j < rm K n) : tt (rl K n f g) j = f (re K n j) := by unfold tt; rw [rl_at f g h]; rfl
theorem rf_le_re {K : Nat → Int} {n a b : Nat} (h : a ≤ b) (hb : b < rm K n) : rf K n a < re K n b := by
  have h1 := (run_at (K := K) (n := n) (j := a) (by omega)).up
  have h2 := re_mono (K := K) (n := n) h hb
  omega
theorem rf_mono {K : Nat → Int} {n a b : Nat} (h : a ≤ b) (hb : b < rm K n) : rf K n a ≤ rf K n b := by
  rcases Nat.lt_or_ge a b with g | g
  · have := rf_le_re (K := K) (n := n) (a := a) (b := b - 1) (by omega) (by omega)
    have e : rf K n b = re K n (b - 1) := by unfold rf; rw [if_neg (by omega)]
    omega
  · rw [show a = b by omega]; exact Nat.le_refl _
theorem ly_w (l : List UInt8) (q n : Nat) (big a : Bool) (hq : q ≤ l.length) (hn : 1 ≤ n) : match cx (wl l q big) (ix (wl l q big) q) n a with | none => True | some x => x.1 ≤ x.2 ∧ x.2 ≤ l.length := by
  cases h : cx (wl l q big) (ix (wl l q big) q) n a with
  | none => trivial
  | some x =>
    obtain ⟨A, B, _, h1, h2, h3, h4, rfl⟩ := cx_some (ix_fst _ _).le h
    have e : (wl l q big).length = rm (kn (lq l q) big) (lm l q) := rl_len ..
    have hB : B - 1 < rm (kn (lq l q) big) (lm l q) := by omega
    have hA : A ≤ B - 1 := by omega
    have e1 : fr (wl l q big) A = bg l q + rf (kn (lq l q) big) (lm l q) A := rl_fr _ _ (by omega)
    have e2 : tt (wl l q big) (B - 1) = bg l q + re (kn (lq l q) big) (lm l q) (B - 1) := rl_tt _ _ hB
    have h5 := rf_le_re hA hB
    have h6 := (run_at hB).le
    have h7 := en_le (t := l) (s := bg l q) (by have := bg_le l q; omega)
    have h8 := en_ge l (bg l q)
    have h9 : lm l q = en l (bg l q) - bg l q := rfl
    simp only
    rw [e1, e2]
    omega
/-- a start of a line has a line end ahead -/
theorem sp_edge {l : List UInt8} {x : Nat} (h : x ≤ nl l) : sp l x = 0 ∨ bi l (sp l x - 1) = 10 := by
  rcases (sp_st h).edge with h1 | h1
  · exact .inl h1
  · right
    have := h1.2
    unfold le at this
    show ((at8 l (sp l x - 1)).toNat : Int) = 10
    simpa using this
theorem sp_up {l : List UInt8} : ∀ {x y : Nat}, x ≤ y → y ≤ nl l → sp l x ≤ sp l y := by
  intro x y hxy hy
  rcases Nat.lt_or_ge (sp l y) (sp l x) with h | h
  · have := (sp_st hy).lt (sp_st (t := l) (n := x) (by omega)) h; omega
  · exact h
/-- what p chooses, in lines: from the first line of run A to the last line of run B - 1 -/
theorem p_lines {l : List UInt8} {q n : Nat} {a : Bool} {x : Nat × Nat} (hn : 1 ≤ n) (h : bnd l q n 112 a = some x) : ∃ A B, cho (pl l) (ix (pl l) q) n a = some (A, B) ∧ A ≤ ix (pl l) q ∧ ix (pl l) q + n ≤ B ∧ B ≤ rm (ek l) (nl l + 1) ∧ x.1 = sp l (rf (ek l) (nl l + 1) A) ∧ bg l (x.2 - 1) = sp l (re (ek l) (nl l + 1) (B - 1) - 1) ∧ rf (ek l) (nl l + 1) A ≤ re (ek l) (nl l + 1) (B - 1) - 1 ∧ re (ek l) (nl l + 1) (B - 1) - 1 ≤ nl l := by
  have e : bnd l q n 112 a = cx (pl l) (ix (pl l) q) n a := rfl
  rw [e] at h
  obtain ⟨A, B, hc, h1, h2, h3, h4, rfl⟩ := cx_some (ix_fst _ _).le h
  have e0 : (pl l).length = rm (ek l) (nl l + 1) := rl_len ..
  have hB : B - 1 < rm (ek l) (nl l + 1) := by omega
  have e1 : fr (pl l) A = ls9 l (rf (ek l) (nl l + 1) A) := rl_fr _ _ (by omega)
  have e2 : tt (pl l) (B - 1) = ls9 l (re (ek l) (nl l + 1) (B - 1)) := rl_tt _ _ hB
  have h5 := rf_le_re (K := ek l) (n := nl l + 1) (a := A) (b := B - 1) (by omega) hB
  have h6 := (run_at hB).le
  obtain ⟨E, hE⟩ : ∃ E, re (ek l) (nl l + 1) (B - 1) = E + 1 := ⟨re (ek l) (nl l + 1) (B - 1) - 1, by omega⟩
  refine ⟨A, B, hc, h1, h3, by omega, ?_, ?_, by omega, by omega⟩
  · simp only; rw [e1]; unfold ls9; rw [if_pos (by omega)]
  · simp only
    rw [e2, hE, ls9_next (by omega), Nat.add_sub_cancel]
    have hle : E ≤ nl l := by omega
    have hs := sp_st hle
    have h7 := ln_length hle
    have h8 := en_ge l (sp l E)
    have h9 := en_le (sp_le hle)
    have e3 : ls9 l E + (ln l E).length = en l (sp l E) := by unfold ls9; rw [if_pos hle, h7]; omega
    rw [Nat.add_sub_cancel, e3]
    have h10 := bg_st l (en l (sp l E)) h9
    have h11 := nl_flat (t := l) (s := sp l E) (en l (sp l E) - sp l E) (by omega) hs.low'
    rw [show sp l E + (en l (sp l E) - sp l E) = en l (sp l E) by omega, hs.num] at h11
    rw [h11] at h10
    exact (sp_eq h10).symm
theorem ly_of (l : List UInt8) (q n : Nat) (k : Int) (a : Bool) (hq : q ≤ l.length) (hn : 1 ≤ n) (hk : isS k) : ly l (s4 l q n k a).1 (s4 l q n k a).2.1 (s4 l q n k a).2.2.1 (s4 l q n k a).2.2.2 k := by
  have none_ly : bnd l q n k a = none → ly l (s4 l q n k a).1 (s4 l q n k a).2.1 (s4 l q n k a).2.2.1 (s4 l q n k a).2.2.2 k := fun h => by
    unfold s4; rw [h]; exact .inl ⟨rfl, rfl, rfl, rfl⟩
  cases hb : bnd l q n k a with
  | none => exact none_ly hb
  | some x =>
    by_cases hp : k = 112
    · subst hp
      obtain ⟨A, B, _, _, _, h3, h4, h5, h6, h7⟩ := p_lines hn hb
      unfold s4
      rw [hb]
      simp only [if_true]
      right
      refine ⟨rfl, x.1, bg l (x.2 - 1), rfl, rfl, ?_, ?_, .inl ⟨rfl, rfl, ?_, ?_⟩⟩
      · rw [h4, h5]; exact sp_up h6 h7
      · rw [h5]; exact sp_le h7
      · rw [h4]; exact sp_edge (by omega)
      · rw [h5]; exact sp_edge h7
    · have key : x.1 ≤ x.2 ∧ x.2 ≤ l.length := by
        rcases hk with rfl | rfl | rfl | hk | hk
        · have e : bnd l q n 119 a = cx (wl l q false) (ix (wl l q false) q) n a := rfl
          have := ly_w l q n false a hq hn
          rw [← e, hb] at this
          exact this
        · have e : bnd l q n 87 a = cx (wl l q true) (ix (wl l q true) q) n a := rfl
          have := ly_w l q n true a hq hn
          rw [← e, hb] at this
          exact this
        · exact absurd rfl hp
        · have e : bnd l q n k a = qx l k q a := by unfold bnd; rw [if_neg (by omega), if_neg (by omega), if_neg (by omega), if_pos hk]
          rw [e] at hb
          unfold qx qa at hb
          have hE := en_le (t := l) (s := bg l q) (by have := bg_le l q; omega)
          have hG := en_ge l (bg l q)
          have hM : lm l q = en l (bg l q) - bg l q := rfl
          cases hp9 : qp (lq l q) k (q - bg l q) (lm l q) with
          | none => rw [hp9] at hb; cases hb
          | some y =>
            rw [hp9] at hb
            have h9 := qp_mem hp9
            simp only [Option.map_some, Option.some.injEq] at hb
            subst hb
            cases a with
            | true =>
              simp only [if_true]
              have a1 := bw_le (lq l q) y.1
              have a2 := fw_ge (lq l q) (lm l q - (y.2 + 1)) (y.2 + 1)
              unfold wb
              simp only
              split <;> omega
            | false =>
              simp only [Bool.false_eq_true, if_false]
              omega
        · have e : bnd l q n k a = bx l k q n a := by unfold isB at hk; unfold bnd; rw [if_neg (by omega), if_neg (by omega), if_neg (by omega), if_neg (by omega)]
          rw [e] at hb
          unfold bx at hb
          cases hp9 : ba l (op k) (cp k) q n with
          | none => rw [hp9] at hb; cases hb
          | some y =>
            rw [hp9] at hb
            have h9 := prs_mem (ba_mem hp9).1
            simp only [Option.map_some, Option.some.injEq] at hb
            subst hb
            cases a <;> simp <;> omega
      unfold s4
      rw [hb]
      simp only [if_neg hp]
      exact .inr ⟨rfl, x.1, x.2, rfl, rfl, key.1, key.2, .inr ⟨hp, rfl⟩⟩
/-- do two bytes stand about what a key chooses -/
def ab (x y k : Int) : Prop := ((k = 34 ∨ k = 39 ∨ k = 96) ∧ x = k ∧ y = k) ∨ (isB k ∧ x = op k ∧ y = cp k)
/-- quotes and brackets: i and a together -/
theorem hold_q (l : List UInt8) (q n : Nat) (k : Int) (hq : q ≤ l.length) (hk : (k = 34 ∨ k = 39 ∨ k = 96) ∨ isB k) :
    (s4 l q n k false = (0, 0, 0, 130) ∧ s4 l q n k true = (0, 0, 0, 130)) ∨ ∃ f t F T : Nat, s4 l q n k false = ((f : Int), (t : Int), 1, 0) ∧ s4 l q n k true = ((F : Int), (T : Int), 1, 0) ∧ F ≤ f ∧ t ≤ T ∧ 1 ≤ f ∧ t < l.length ∧ f ≤ t ∧ ab (bi l (f - 1)) (bi l t) k := by
  rcases hk with hk | hk
  · have e : ∀ a, bnd l q n k a = qx l k q a := fun a => by unfold bnd; rw [if_neg (by omega), if_neg (by omega), if_neg (by omega), if_pos hk]
    unfold s4
    rw [e, e]
    unfold qx qa
    have hE := en_le (t := l) (s := bg l q) (by have := bg_le l q; omega)
    have hG := en_ge l (bg l q)
    have hM : lm l q = en l (bg l q) - bg l q := rfl
    cases hp9 : qp (lq l q) k (q - bg l q) (lm l q) with
    | none => exact .inl ⟨rfl, rfl⟩
    | some y =>
      have h9 := qp_mem hp9
      right
      simp only [Option.map_some, if_true, Bool.false_eq_true, if_false]
      rw [if_neg (by omega), if_neg (by omega)]
      have a1 := bw_le (lq l q) y.1
      have a2 := fw_ge (lq l q) (lm l q - (y.2 + 1)) (y.2 + 1)
      have b1 : bi l (bg l q + (y.1 + 1) - 1) = k := by
        have := lq_at (l := l) (k := q) (x := y.1) (by omega)
        have h10 := h9.2.2.1
        unfold bi at h10 ⊢
        rw [this] at h10
        rw [show bg l q + (y.1 + 1) - 1 = bg l q + y.1 by omega]
        exact h10
      have b2 : bi l (bg l q + y.2) = k := by
        have := lq_at (l := l) (k := q) (x := y.2) (by omega)
        have h10 := h9.2.2.2.1
        unfold bi at h10 ⊢
        rw [this] at h10
        exact h10
      refine ⟨bg l q + (y.1 + 1), bg l q + y.2, bg l q + (wb (lq l q) (lm l q) y.1 (y.2 + 1)).1, bg l q + (wb (lq l q) (lm l q) y.1 (y.2 + 1)).2, rfl, rfl, ?_, ?_, by omega, by omega, by omega, .inl ⟨hk, b1, b2⟩⟩
      · unfold wb; simp only; split <;> omega
      · unfold wb; simp only; omega
  · have e : ∀ a, bnd l q n k a = bx l k q n a := fun a => by unfold isB at hk; unfold bnd; rw [if_neg (by omega), if_neg (by omega), if_neg (by omega), if_neg (by omega)]
    unfold s4
    rw [e, e]
    unfold bx
    have hk9 : ¬ k = 112 := by unfold isB at hk; omega
    cases hp9 : ba l (op k) (cp k) q n with
    | none => exact .inl ⟨rfl, rfl⟩
    | some y =>
      have h9 := prs_mem (ba_mem hp9).1
      right
      simp only [Option.map_some, if_true, Bool.false_eq_true, if_false]
      rw [if_neg hk9, if_neg hk9]
      exact ⟨y.1 + 1, y.2, y.1, y.2 + 1, rfl, rfl, by omega, by omega, by omega, by omega, by omega, .inr ⟨hk, by simpa using h9.2.2.1, h9.2.2.2⟩⟩
/-- paragraphs: i lies in a -/
theorem hold_p (l : List UInt8) (q n : Nat) (hn : 1 ≤ n) (h1 : (s4 l q n 112 false).2.2.2 = 0) (h2 : (s4 l q n 112 true).2.2.2 = 0) : (s4 l q n 112 true).1 ≤ (s4 l q n 112 false).1 ∧ (s4 l q n 112 false).2.1 ≤ (s4 l q n 112 true).2.1 := by
  cases hb : bnd l q n 112 false with
  | none => unfold s4 at h1; rw [hb] at h1; simp at h1
  | some x =>
    cases hc : bnd l q n 112 true with
    | none => unfold s4 at h2; rw [hc] at h2; simp at h2
    | some y =>
      obtain ⟨A, B, c1, a1, a2, a3, a4, a5, a6, a7⟩ := p_lines hn hb
      obtain ⟨A', B', c2, b1, b2, b3, b4, b5, b6, b7⟩ := p_lines hn hc
      have e1 : A = ix (pl l) q ∧ B = ix (pl l) q + n := by
        unfold cho at c1
        rw [if_neg (by simp)] at c1
        unfold inn at c1
        split at c1
        · injection c1 with c1; injection c1 with c1 c3; exact ⟨c1.symm, c3.symm⟩
        · cases c1
      unfold s4
      rw [hb, hc]
      simp only [if_true]
      rw [a4, a5, b4, b5]
      have h3 := rf_mono (K := ek l) (n := nl l + 1) (a := A') (b := A) (by omega) (by omega)
      have h4 := re_mono (K := ek l) (n := nl l + 1) (i := B - 1) (j := B' - 1) (by omega) (by omega)
      have h5 := sp_up (l := l) h3 (by omega)
      have h6 := sp_up (l := l) (x := re (ek l) (nl l + 1) (B - 1) - 1) (y := re (ek l) (nl l + 1) (B' - 1) - 1) (by omega) b7
      omega
end Go.Proofs.Ytgdhdegmjljbfaa
