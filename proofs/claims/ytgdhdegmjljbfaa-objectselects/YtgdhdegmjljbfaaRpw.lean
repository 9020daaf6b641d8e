/- What iw and ip choose about a place, as plain facts; no program. -/
import Derived.Test.YtgdhdegmjljbfaaHpr
namespace Go.Proofs.Ytgdhdegmjljbfaa
theorem ix_run {K : Nat → Int} {n i0 q : Nat} {f : Nat → Nat} {g : Nat → Bool} (hf : ∀ x y, x ≤ y → y ≤ n → f x ≤ f y) (hi : i0 < rm K n) (h1 : f (rf K n i0) ≤ q) (h2 : q < f (re K n i0)) : ix (rl K n f g) q = i0 := by
  refine (ix_fst _ _).one ⟨by rw [rl_len]; omega, fun j x hj hx => ?_, fun x hx => ?_⟩
  · rw [rl_at f g (by omega)] at hx
    injection hx with hx
    subst hx
    have e : rf K n i0 = re K n (i0 - 1) := by unfold rf; rw [if_neg (by omega)]
    have h3 := re_mono (K := K) (n := n) (i := j) (j := i0 - 1) (by omega) (by omega)
    have h4 := (run_at (K := K) (n := n) (j := i0 - 1) (by omega)).le
    have := hf _ _ h3 h4
    rw [← e] at this
    simp only
    omega
  · rw [rl_at f g hi] at hx
    injection hx with hx
    subst hx
    exact h2
theorem ix_end {K : Nat → Int} {n q : Nat} {f : Nat → Nat} {g : Nat → Bool} (h : ∀ x, x ≤ n → f x ≤ q) : ix (rl K n f g) q = rm K n := by
  rw [← rl_len K n f g]
  refine (ix_fst _ _).one ⟨Nat.le_refl _, fun j x hj hx => ?_, fun x hx => ?_⟩
  · rw [rl_len] at hj
    rw [rl_at f g hj] at hx
    injection hx with hx
    subst hx
    exact h _ (run_at hj).le
  · rw [List.getElem?_eq_none (Nat.le_refl _)] at hx; cases hx
/-- the key of a word -/
def kw (big : Bool) : Int := if big then 87 else 119
theorem bnd_w (l : List UInt8) (q n : Nat) (big a : Bool) : bnd l q n (kw big) a = cx (wl l q big) (ix (wl l q big) q) n a := by cases big <;> rfl
theorem s4_w (l : List UInt8) (q n : Nat) (big : Bool) : s4 l q n (kw big) false = match inn (wl l q big) (ix (wl l q big) q) n with | none => (0, 0, 0, 130) | some x => ((fr (wl l q big) x.1 : Int), (tt (wl l q big) (x.2 - 1) : Int), 1, 0) := by
  unfold s4
  rw [bnd_w]
  unfold cx cho
  simp only [Bool.false_eq_true, if_false]
  cases inn (wl l q big) (ix (wl l q big) q) n with
  | none => rfl
  | some x => simp only [Option.map_some]; rw [if_neg (by cases big <;> decide)]
theorem kd_three (b : Int) (big : Bool) : kd b big = 3 ↔ b = 10 := by unfold kd; split; omega; split; omega; split <;> omega
theorem bg_same {l : List UInt8} {p q : Nat} (h1 : bg l p ≤ q) (h2 : q ≤ en l (bg l p)) (hp : p ≤ l.length) : bg l q = bg l p := by
  have h3 := bg_le l p
  have hs := bg_st l p hp
  have h4 := en_le (t := l) (s := bg l p) (by omega)
  have h5 := bg_st l q (by omega)
  have h6 := nl_flat (t := l) (s := bg l p) (q - bg l p) (by omega) (by omega)
  rw [show bg l p + (q - bg l p) = q by omega, hs.num] at h6
  rw [h6] at h5
  exact h5.one hs
theorem wl_same {l : List UInt8} {p q : Nat} (big : Bool) (h : bg l q = bg l p) : wl l q big = wl l p big := by
  unfold wl lq lm; rw [h]
/-- iw about a place -/
theorem runs_w (l : List UInt8) (p : Nat) (big : Bool) (hp : p ≤ l.length) :
    (s4 l p 1 (kw big) false = (0, 0, 0, 130) ∧ (p = l.length ∨ (p < l.length ∧ bi l p = 10))) ∨
    (p < l.length ∧ ¬ bi l p = 10 ∧ ∃ F T : Nat, s4 l p 1 (kw big) false = ((F : Int), (T : Int), 1, 0) ∧ F ≤ p ∧ p < T ∧ T ≤ l.length ∧ (∀ x, F ≤ x → x < T → kd (bi l x) big = kd (bi l p) big) ∧ (0 < F → ¬ kd (bi l (F - 1)) big = kd (bi l p) big) ∧ (T < l.length → ¬ kd (bi l T) big = kd (bi l p) big) ∧
      (((T = l.length ∨ (T < l.length ∧ bi l T = 10)) ∧ s4 l p 2 (kw big) false = (0, 0, 0, 130)) ∨ (T < l.length ∧ ¬ bi l T = 10 ∧ ∃ T2 : Nat, s4 l p 2 (kw big) false = ((F : Int), (T2 : Int), 1, 0) ∧ s4 l T 1 (kw big) false = ((T : Int), (T2 : Int), 1, 0)))) := by
  have hb := bg_le l p
  have he := en_le (t := l) (s := bg l p) (by omega)
  have hpe := place_en (t := l) (i := p) hp
  have hG := en_ge l (bg l p)
  have hM : lm l p = en l (bg l p) - bg l p := rfl
  have hWL : wl l p big = rl (kn (lq l p) big) (lm l p) (fun x => bg l p + x) (fun x => bl (at8 (lq l p) x)) := rfl
  have hmono : ∀ x y, x ≤ y → y ≤ lm l p → bg l p + x ≤ bg l p + y := fun x y h _ => by omega
  have hten : ∀ x, x < l.length → bi l x = 10 → le (at8 l x) = true := fun x _ h => by
    have h' : ((at8 l x).toNat : Int) = 10 := h
    unfold le; rw [h']; rfl
  have hnot : ∀ x, bg l p ≤ x → x < en l (bg l p) → ¬ bi l x = 10 := fun x h1 h2 h3 => by
    have := en_none h1 h2
    rw [hten x (by omega) h3] at this; cases this
  have hedge : en l (bg l p) < l.length → bi l (en l (bg l p)) = 10 := fun h => by
    have := en_edge h
    unfold le at this
    show ((at8 l (en l (bg l p))).toNat : Int) = 10
    simpa using this
  have hlen : (wl l p big).length = rm (kn (lq l p) big) (lm l p) := rl_len ..
  rcases Nat.lt_or_ge p (en l (bg l p)) with hin | hin
  · right
    refine ⟨by omega, hnot p hb hin, ?_⟩
    obtain ⟨i0, r1, r2, r3⟩ := run_of (K := kn (lq l p) big) (n := lm l p) (q := p - bg l p) (by omega)
    have hR := run_at r1
    have hix : ix (wl l p big) p = i0 := by
      rw [hWL]; exact ix_run hmono r1 (by omega) (by omega)
    have hK : ∀ x, x < lm l p → kn (lq l p) big x = kd (bi l (bg l p + x)) big := fun x hx => by
      unfold kn bi; rw [lq_at hx]
    have hle := hR.le
    have hup := hR.up
    have e1 : fr (wl l p big) i0 = bg l p + rf (kn (lq l p) big) (lm l p) i0 := rl_fr _ _ r1
    have e2 : tt (wl l p big) i0 = bg l p + re (kn (lq l p) big) (lm l p) i0 := rl_tt _ _ r1
    have hKp : kd (bi l p) big = kn (lq l p) big (rf (kn (lq l p) big) (lm l p) i0) := by
      have := hR.same (p - bg l p) r2 r3
      rw [hK _ (by omega), show bg l p + (p - bg l p) = p by omega] at this
      exact this
    obtain ⟨F, hF⟩ : ∃ F, bg l p + rf (kn (lq l p) big) (lm l p) i0 = F := ⟨_, rfl⟩
    obtain ⟨T, hT⟩ : ∃ T, bg l p + re (kn (lq l p) big) (lm l p) i0 = T := ⟨_, rfl⟩
    have hs1 : s4 l p 1 (kw big) false = ((F : Int), (T : Int), 1, 0) := by
      rw [s4_w, hix]
      unfold inn
      rw [if_pos (by omega)]
      simp only [Nat.add_sub_cancel]
      rw [e1, e2, hF, hT]
    refine ⟨F, T, hs1, by omega, by omega, by omega, fun x h1 h2 => ?_, fun h => ?_, fun h => ?_, ?_⟩
    · have := hR.same (x - bg l p) (by omega) (by omega)
      rw [hK _ (by omega), show bg l p + (x - bg l p) = x by omega] at this
      rw [this, hKp]
    · rw [hKp]
      rcases Nat.eq_zero_or_pos i0 with h0 | h0
      · subst h0
        rw [rf_zero] at hF
        have h9 : bi l (F - 1) = 10 := by
          have := (bg_st l p hp).edge
          rcases this with h8 | h8
          · omega
          · have h7 := h8.2
            unfold le at h7
            rw [show F - 1 = bg l p - 1 by omega]
            show ((at8 l (bg l p - 1)).toNat : Int) = 10
            simpa using h7
        rw [(kd_three _ big).2 h9]
        intro h8
        rw [rf_zero, hK 0 (by omega)] at h8
        exact hnot (bg l p + 0) (by omega) (by omega) ((kd_three _ big).1 h8.symm)
      · have h8 := run_at (K := kn (lq l p) big) (n := lm l p) (j := i0 - 1) (by omega)
        have e9 : rf (kn (lq l p) big) (lm l p) i0 = re (kn (lq l p) big) (lm l p) (i0 - 1) := by unfold rf; rw [if_neg (by omega)]
        have h7 := h8.cut (by omega)
        have h6 := h8.same (F - 1 - bg l p) (by have := h8.up; omega) (by have := h8.up; omega)
        rw [hK _ (by omega), show bg l p + (F - 1 - bg l p) = F - 1 by have := h8.up; omega] at h6
        rw [h6, e9]
        exact fun h5 => h7 h5.symm
    · rw [hKp]
      rcases Nat.lt_or_ge (re (kn (lq l p) big) (lm l p) i0) (lm l p) with h8 | h8
      · have h7 := hR.cut h8
        rw [hK _ h8, hT] at h7
        exact h7
      · have h9 : T = en l (bg l p) := by omega
        rw [h9, (kd_three _ big).2 (hedge (by omega))]
        intro h7
        have h6 := hK (rf (kn (lq l p) big) (lm l p) i0) (by omega)
        rw [h6] at h7
        exact hnot _ (by omega) (by omega) ((kd_three _ big).1 h7.symm)
    · rcases Nat.lt_or_ge (re (kn (lq l p) big) (lm l p) i0) (lm l p) with h8 | h8
      · right
        have h9 : i0 + 1 < rm (kn (lq l p) big) (lm l p) := hR.more.1 h8
        refine ⟨by omega, hnot T (by omega) (by omega), bg l p + re (kn (lq l p) big) (lm l p) (i0 + 1), ?_, ?_⟩
        · rw [s4_w, hix]
          unfold inn
          rw [if_pos (by omega)]
          simp only
          have e3 : tt (wl l p big) (i0 + 2 - 1) = bg l p + re (kn (lq l p) big) (lm l p) (i0 + 1) := rl_tt _ _ h9
          rw [e1, e3, hF]
        · have hbs : bg l T = bg l p := bg_same (by omega) (by omega) hp
          have hWS := wl_same big hbs
          have hR2 := (run_at h9).up
          have hix2 : ix (wl l p big) T = i0 + 1 := by
            rw [hWL]; exact ix_run hmono h9 (by rw [rf_succ]; omega) (by rw [rf_succ] at hR2; omega)
          rw [s4_w, hWS, hix2]
          unfold inn
          rw [if_pos (by omega)]
          simp only [Nat.add_sub_cancel]
          have e3 : tt (wl l p big) (i0 + 1) = bg l p + re (kn (lq l p) big) (lm l p) (i0 + 1) := rl_tt _ _ h9
          have e4 : fr (wl l p big) (i0 + 1) = bg l p + rf (kn (lq l p) big) (lm l p) (i0 + 1) := rl_fr _ _ h9
          rw [e3, e4, rf_succ, hT]
      · left
        have h9 : T = en l (bg l p) := by omega
        have h7 : ¬ i0 + 1 < rm (kn (lq l p) big) (lm l p) := fun h => by have := hR.more.2 h; omega
        refine ⟨?_, ?_⟩
        · rcases Nat.lt_or_ge T l.length with h6 | h6
          · exact .inr ⟨h6, by rw [h9]; exact hedge (by omega)⟩
          · exact .inl (by omega)
        · rw [s4_w, hix]
          unfold inn
          rw [if_neg (by omega)]
  · left
    have e : p = en l (bg l p) := by omega
    refine ⟨?_, ?_⟩
    · have hix : ix (wl l p big) p = rm (kn (lq l p) big) (lm l p) := by
        rw [hWL]; exact ix_end (fun x hx => by show bg l p + x ≤ p; omega)
      rw [s4_w, hix]
      unfold inn
      rw [if_neg (by omega)]
    · rcases Nat.lt_or_ge p l.length with h | h
      · refine .inr ⟨h, ?_⟩
        have := hedge (by omega)
        rw [← e] at this
        exact this
      · exact .inl (by omega)
/-- does an empty line begin here -/
def em (l : List UInt8) (x : Nat) : Bool := decide (x = l.length) || (bi l x == 10)
theorem em_eg {l : List UInt8} {y : Nat} (h : y ≤ nl l) : em l (sp l y) = eg l y := by
  have h1 := ln_length h
  have h2 := en_ge l (sp l y)
  have h3 := sp_le h
  have h4 := en_le h3
  unfold em eg
  rw [h1, Bool.eq_iff_iff]
  simp only [Bool.or_eq_true, decide_eq_true_eq, beq_iff_eq]
  constructor
  · rintro (h5 | h5)
    · omega
    · have h6 : le (at8 l (sp l y)) = true := by
        have h' : ((at8 l (sp l y)).toNat : Int) = 10 := h5
        unfold le; rw [h']; rfl
      have : en l (sp l y) = sp l y := en_eq (Nat.le_refl _) h3 (fun j a b => by omega) (.inr h6)
      omega
  · intro h5
    have h6 : en l (sp l y) = sp l y := by omega
    rcases Nat.lt_or_ge (sp l y) l.length with h7 | h7
    · right
      have := en_edge (t := l) (s := sp l y) (by omega)
      rw [h6] at this
      unfold le at this
      show ((at8 l (sp l y)).toNat : Int) = 10
      simpa using this
    · exact .inl (by omega)
theorem ls9_up (l : List UInt8) (x y : Nat) (h : x ≤ y) (_hy : y ≤ nl l + 1) : ls9 l x ≤ ls9 l y := by
  unfold ls9
  split
  · next h1 =>
    split
    · next h2 => exact sp_up h h2
    · have := sp_le h1; omega
  · next h1 => rw [if_neg (by omega)]; exact Nat.le_refl _
/-- ip about a place -/
theorem runs_p (l : List UInt8) (p : Nat) (hp : p ≤ l.length) : ∃ F T : Nat, s4 l p 1 112 false = ((F : Int), (T : Int), 3, 0) ∧ F ≤ p ∧ T ≤ l.length ∧ F ≤ T ∧ ∀ x, F ≤ x → x ≤ T → (x = 0 ∨ bi l (x - 1) = 10) → em l x = em l F := by
  have hx0 : nl (l.take p) ≤ nl l := nl_take_le l p
  have hsp := sp_of l p hp
  have hbl := bg_le l p
  have hpe := place_en (t := l) (i := p) hp
  obtain ⟨i0, r1, r2, r3⟩ := run_of (K := ek l) (n := nl l + 1) (q := nl (l.take p)) (by omega)
  have hR := run_at r1
  have hle := hR.le
  have hup := hR.up
  have f1 : ls9 l (nl (l.take p)) = bg l p := by unfold ls9; rw [if_pos hx0, hsp]
  have f2 : p < ls9 l (nl (l.take p) + 1) := by
    rw [ls9_next hx0, f1, ln_length hx0, hsp]
    have := en_ge l (bg l p)
    omega
  have hix : ix (pl l) p = i0 := ix_run (ls9_up l) r1 (by have := ls9_up l _ _ r2 (by omega); omega) (by have := ls9_up l _ _ (show nl (l.take p) + 1 ≤ re (ek l) (nl l + 1) i0 by omega) hle; omega)
  have hlen : (pl l).length = rm (ek l) (nl l + 1) := rl_len ..
  have hbn : ∃ x, bnd l p 1 112 false = some x := by
    have e : bnd l p 1 112 false = cx (pl l) (ix (pl l) p) 1 false := rfl
    rw [e, hix]
    unfold cx cho inn
    simp only [Bool.false_eq_true, if_false]
    rw [if_pos (by omega)]
    exact ⟨_, rfl⟩
  obtain ⟨x, hx⟩ := hbn
  obtain ⟨A, B, c1, _, _, _, a4, a5, a6, a7⟩ := p_lines (Nat.le_refl 1) hx
  have e1 : A = i0 ∧ B = i0 + 1 := by
    rw [hix] at c1
    unfold cho inn at c1
    simp only [Bool.false_eq_true, if_false] at c1
    rw [if_pos (by omega)] at c1
    injection c1 with c1
    injection c1 with c1 c2
    exact ⟨c1.symm, c2.symm⟩
  obtain ⟨rfl, rfl⟩ := e1
  rw [Nat.add_sub_cancel] at a5 a6 a7
  refine ⟨sp l (rf (ek l) (nl l + 1) A), sp l (re (ek l) (nl l + 1) A - 1), ?_, ?_, sp_le a7, sp_up a6 a7, fun y h1 h2 h3 => ?_⟩
  · unfold s4
    rw [hx]
    simp only [if_true]
    rw [a4, a5]
  · have := sp_up r2 hx0
    omega
  · have hyl : y ≤ l.length := by have := sp_le a7; omega
    have hst : St l (nl (l.take y)) y := by
      refine ⟨hyl, rfl, ?_⟩
      rcases h3 with h3 | h3
      · exact .inl h3
      · rcases Nat.eq_zero_or_pos y with h0 | h0
        · exact .inl h0
        · refine .inr ⟨h0, ?_⟩
          have h' : ((at8 l (y - 1)).toNat : Int) = 10 := h3
          unfold le; rw [h']; rfl
    have hy : nl (l.take y) ≤ nl l := nl_take_le l y
    have hsy := sp_eq hst
    have k1 : rf (ek l) (nl l + 1) A ≤ nl (l.take y) := by
      rcases Nat.lt_or_ge (nl (l.take y)) (rf (ek l) (nl l + 1) A) with g | g
      · have s1 := sp_st (t := l) (n := rf (ek l) (nl l + 1) A) (by omega)
        rcases Nat.lt_or_ge (sp l (rf (ek l) (nl l + 1) A)) y with g2 | g2
        · have := s1.lt hst g2; omega
        · have e9 : sp l (rf (ek l) (nl l + 1) A) = y := by omega
          rw [e9] at s1
          have := s1.num
          omega
      · exact g
    have k2 : nl (l.take y) ≤ re (ek l) (nl l + 1) A - 1 := by
      rcases Nat.lt_or_ge (re (ek l) (nl l + 1) A - 1) (nl (l.take y)) with g | g
      · have s1 := sp_st a7
        rcases Nat.lt_or_ge y (sp l (re (ek l) (nl l + 1) A - 1)) with g2 | g2
        · have := hst.lt s1 g2; omega
        · have e9 : sp l (re (ek l) (nl l + 1) A - 1) = y := by omega
          rw [e9] at s1
          have := s1.num
          omega
      · exact g
    have k3 := hR.same (nl (l.take y)) k1 (by omega)
    rw [ek_eq] at k3
    have k4 := em_eg hy
    rw [hsy] at k4
    rw [k4, k3, em_eg (by omega)]
end Go.Proofs.Ytgdhdegmjljbfaa
