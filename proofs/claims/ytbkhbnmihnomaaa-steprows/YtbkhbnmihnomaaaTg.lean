/- Plain facts on where motions lead: within the text, in the line that is named, at a resting place; and that motions one after the other are the motion with their count. -/
import Derived.Test.YtbkhbnmihnomaaaMv
namespace Go.Proofs.Ytbkhbnmihnomaaa

theorem opt_some {b : Bool} {x q : Nat} (h : opt b x = some q) : b = true ∧ x = q := by
  unfold opt at h
  cases b with
  | true => exact ⟨rfl, by simpa using h⟩
  | false => simp at h
theorem opt_none {b : Bool} {x : Nat} (h : opt b x = none) : b = false := by
  unfold opt at h
  cases b with
  | true => simp at h
  | false => rfl

/-- a place of a line from s to e where a cursor rests -/
def InL (s e q : Nat) : Prop := s ≤ q ∧ (q < e ∨ (q = s ∧ s = e))
theorem lb_in {s e : Nat} (h : s ≤ e) : InL s e (lb s e) := by unfold InL lb; omega
theorem pc_in {s e : Nat} (C : Int) (h : s ≤ e) : InL s e (pc s e C) := by
  unfold pc
  split
  · rename_i hc; unfold InL; omega
  · exact lb_in h
theorem fb_in {s e z : Nat} (l : List UInt8) (hz : InL s e z) : ∀ d i, i + d = e → s ≤ i → InL s e (fb l z d i)
  | 0, _, _, _ => hz
  | d + 1, i, h, hs => by
    unfold fb
    split
    · exact fb_in l hz d (i + 1) (by omega) (by omega)
    · exact ⟨hs, .inl (by omega)⟩

theorem in_le {l : List UInt8} {L q : Nat} (h : InL (sp l L) (en l (sp l L)) q) : q ≤ en l (sp l L) := by
  have := en_ge l (sp l L)
  unfold InL at h; omega
/-- a place between a line's start and its end lies in that line -/
theorem at_line {l : List UInt8} {L q : Nat} (hL : L ≤ nl l) (h1 : sp l L ≤ q) (h2 : q ≤ en l (sp l L)) : q ≤ l.length ∧ nl (l.take q) = L ∧ bg l q = sp l L := by
  have hs := sp_st hL
  have hq : q ≤ l.length := Nat.le_trans h2 (en_le hs.low')
  have h3 := nl_flat (t := l) (s := sp l L) (q - sp l L) (by omega) hs.low'
  rw [show sp l L + (q - sp l L) = q from by omega, hs.num] at h3
  have h4 := bg_st l q hq
  rw [h3] at h4
  exact ⟨hq, h3, h4.one hs⟩
theorem in_line {l : List UInt8} {L q : Nat} (hL : L ≤ nl l) (h : InL (sp l L) (en l (sp l L)) q) : q ≤ l.length ∧ nl (l.take q) = L ∧ bg l q = sp l L ∧ rs l q = q := by
  obtain ⟨h1, h2, h3⟩ := at_line hL h.1 (in_le h)
  refine ⟨h1, h2, h3, ?_⟩
  unfold rs
  have he := en_le (sp_st hL).low'
  rcases h.2 with h4 | ⟨h4, h5⟩
  · rw [if_pos (.inl ⟨by omega, en_none h.1 h4⟩)]
  · rw [if_pos (.inr (by omega))]

theorem lnAt_some {l : List UInt8} {L C : Int} {q : Nat} (h : lnAt l L C = some q) : 0 ≤ L ∧ L ≤ nl l ∧ q = pc (sp l L.toNat) (en l (sp l L.toNat)) C := by
  obtain ⟨h1, h2⟩ := opt_some h
  have := of_decide_eq_true h1
  exact ⟨this.1, this.2, h2.symm⟩
theorem lnFirst_some {l : List UInt8} {L : Int} {q : Nat} (h : lnFirst l L = some q) : 0 ≤ L ∧ L ≤ nl l ∧ InL (sp l L.toNat) (en l (sp l L.toNat)) q := by
  obtain ⟨h1, h2⟩ := opt_some h
  have := of_decide_eq_true h1
  have he := en_ge l (sp l L.toNat)
  refine ⟨this.1, this.2, ?_⟩
  rw [← h2]
  exact fb_in l (lb_in he) _ _ (by omega) (Nat.le_refl _)
theorem lnEnd_some {l : List UInt8} {L : Int} {q : Nat} (h : lnEnd l L = some q) : 0 ≤ L ∧ L ≤ nl l ∧ q = en l (sp l L.toNat) := by
  obtain ⟨h1, h2⟩ := opt_some h
  have := of_decide_eq_true h1
  exact ⟨this.1, this.2, h2.symm⟩
theorem lnAt_in {l : List UInt8} {L C : Int} {q : Nat} (h : lnAt l L C = some q) : 0 ≤ L ∧ L ≤ nl l ∧ InL (sp l L.toNat) (en l (sp l L.toNat)) q := by
  obtain ⟨h1, h2, rfl⟩ := lnAt_some h
  exact ⟨h1, h2, pc_in C (en_ge _ _)⟩
theorem lnAt_yes {l : List UInt8} {L : Nat} (C : Int) (h : L ≤ nl l) : lnAt l (L : Int) C = some (pc (sp l L) (en l (sp l L)) C) := by
  unfold lnAt opt lnB
  rw [decide_eq_true (by omega)]; simp
theorem lnAt_no {l : List UInt8} {L C : Int} (h : lnAt l L C = none) : L < 0 ∨ (nl l : Int) < L := by
  have := of_decide_eq_false (opt_none h); omega
theorem lnFirst_no {l : List UInt8} {L : Int} (h : lnFirst l L = none) : L < 0 ∨ (nl l : Int) < L := by
  have := of_decide_eq_false (opt_none h); omega
theorem lnEnd_no {l : List UInt8} {L : Int} (h : lnEnd l L = none) : L < 0 ∨ (nl l : Int) < L := by
  have := of_decide_eq_false (opt_none h); omega

theorem onw_le (l : List UInt8) : ∀ d p n to, p + d ≤ l.length + 1 → to ≤ l.length → onw l d p n to ≤ l.length
  | 0, _, _, _, _, h => h
  | d + 1, p, n, to, h, ht => by
    unfold onw
    split
    · exact ht
    · split
      · exact onw_le l d (p + 1) (n - 1) p (by omega) (by omega)
      · exact onw_le l d (p + 1) n to (by omega) ht
theorem onw_ge (l : List UInt8) : ∀ d p n to, to ≤ p → to ≤ onw l d p n to
  | 0, _, _, _, _ => Nat.le_refl _
  | d + 1, p, n, to, h => by
    unfold onw
    split
    · exact Nat.le_refl _
    · split
      · exact Nat.le_trans h (onw_ge l d (p + 1) (n - 1) p (by omega))
      · exact onw_ge l d (p + 1) n to (by omega)
theorem bkw_le (l : List UInt8) : ∀ p n to, p ≤ to → bkw l p n to ≤ to
  | 0, _, _, _ => Nat.le_refl _
  | p + 1, n, to, h => by
    unfold bkw
    split
    · exact Nat.le_refl _
    · split
      · exact Nat.le_trans (bkw_le l p (n - 1) p (Nat.le_refl _)) (by omega)
      · exact bkw_le l p n to (by omega)
theorem onw_z (l : List UInt8) (d p to : Nat) : onw l d p 0 to = to := by cases d <;> rfl
theorem bkw_z (l : List UInt8) (p to : Nat) : bkw l p 0 to = to := by cases p <;> rfl

/-- the first stop, and then the others -/
theorem onw_split (l : List UInt8) (to : Nat) : ∀ d p, p + d = l.length + 1 → to < p →
    (onw l d p 1 to = to ∧ ∀ m, onw l d p m to = to) ∨ (p ≤ onw l d p 1 to ∧ onw l d p 1 to ≤ l.length ∧ ∀ m, onw l d p (m + 1) to = onwP l (onw l d p 1 to) m)
  | 0, p, _, _ => .inl ⟨rfl, fun _ => rfl⟩
  | d + 1, p, h, ht => by
    cases hs : stp l p with
    | true =>
      have e : ∀ m, onw l (d + 1) p (m + 1) to = onw l d (p + 1) m p := fun m => by
        conv => lhs; unfold onw
        rw [if_neg (by omega), if_pos hs]; rfl
      have e1 : onw l (d + 1) p 1 to = p := by rw [e 0, onw_z]
      refine .inr ⟨by omega, by omega, fun m => ?_⟩
      rw [e1, e m]
      unfold onwP
      rw [show l.length - p = d from by omega]
    | false =>
      have e : ∀ m, onw l (d + 1) p m to = onw l d (p + 1) m to := fun m => by
        cases m with
        | zero => rw [onw_z, onw_z]
        | succ m =>
          conv => lhs; unfold onw
          rw [if_neg (by omega), if_neg (by rw [hs]; simp)]
      rcases onw_split l to d (p + 1) (by omega) (by omega) with ⟨h1, h2⟩ | ⟨h1, h2, h3⟩
      · exact .inl ⟨by rw [e]; exact h1, fun m => by rw [e]; exact h2 m⟩
      · refine .inr ⟨by rw [e]; omega, by rw [e]; exact h2, fun m => ?_⟩
        rw [e, e]; exact h3 m
theorem bkw_split (l : List UInt8) (to : Nat) : ∀ p, p ≤ to →
    (bkw l p 1 to = to ∧ ∀ m, bkw l p m to = to) ∨ (bkw l p 1 to < p ∧ ∀ m, bkw l p (m + 1) to = bkwP l (bkw l p 1 to) m)
  | 0, _ => .inl ⟨rfl, fun _ => rfl⟩
  | p + 1, ht => by
    cases hs : rst l p with
    | true =>
      have e : ∀ m, bkw l (p + 1) (m + 1) to = bkw l p m p := fun m => by
        conv => lhs; unfold bkw
        rw [if_neg (by omega), if_pos hs]; rfl
      have e1 : bkw l (p + 1) 1 to = p := by rw [e 0, bkw_z]
      refine .inr ⟨by omega, fun m => ?_⟩
      rw [e1, e m]
      rfl
    | false =>
      have e : ∀ m, bkw l (p + 1) m to = bkw l p m to := fun m => by
        cases m with
        | zero => rw [bkw_z, bkw_z]
        | succ m =>
          conv => lhs; unfold bkw
          rw [if_neg (by omega), if_neg (by rw [hs]; simp)]
      rcases bkw_split l to p (by omega) with ⟨h1, h2⟩ | ⟨h1, h3⟩
      · exact .inl ⟨by rw [e]; exact h1, fun m => by rw [e]; exact h2 m⟩
      · refine .inr ⟨by rw [e]; omega, fun m => ?_⟩
        rw [e, e]; exact h3 m
theorem onwP_step {l : List UInt8} {p : Nat} (hp : p ≤ l.length) (h : onwP l p 1 ≠ p) (m : Nat) : onwP l p (m + 1) = onwP l (onwP l p 1) m ∧ p < onwP l p 1 ∧ onwP l p 1 ≤ l.length := by
  rcases onw_split l p (l.length - p) (p + 1) (by omega) (by omega) with ⟨h1, _⟩ | ⟨h1, h2, h3⟩
  · exact absurd h1 h
  · exact ⟨h3 m, h1, h2⟩
theorem bkwP_step {l : List UInt8} {p : Nat} (h : bkwP l p 1 ≠ p) (m : Nat) : bkwP l p (m + 1) = bkwP l (bkwP l p 1) m ∧ bkwP l p 1 < p := by
  rcases bkw_split l p p (Nat.le_refl _) with ⟨h1, _⟩ | ⟨h1, h3⟩
  · exact absurd h1 h
  · exact ⟨h3 m, h1⟩
theorem onwP_le (l : List UInt8) {p n : Nat} (hp : p ≤ l.length) : onwP l p n ≤ l.length := onw_le l _ _ _ _ (by omega) hp
theorem onwP_ge (l : List UInt8) (p n : Nat) : p ≤ onwP l p n := onw_ge l _ _ _ _ (by omega)
theorem bkwP_le (l : List UInt8) (p n : Nat) : bkwP l p n ≤ p := bkw_le l _ _ _ (Nat.le_refl _)
/-- more stops, one by one -/
theorem onwP_more {l : List UInt8} : ∀ {p m : Nat}, p ≤ l.length → onwP l p m ≠ p ∨ m = 0 → onwP l (onwP l p m) 1 ≠ onwP l p m → onwP l p (m + 1) = onwP l (onwP l p m) 1
  | p, 0, _, _, _ => by simp only [onwP, onw_z]
  | p, m + 1, hp, h, h2 => by
    have h1 : onwP l p 1 ≠ p := by
      intro hc
      rcases onw_split l p (l.length - p) (p + 1) (by omega) (by omega) with ⟨_, h3⟩ | ⟨h3, _⟩
      · rcases h with h | h
        · exact h (h3 _)
        · omega
      · have : onwP l p 1 = p := hc
        unfold onwP at this; omega
    obtain ⟨e1, l1, l2⟩ := onwP_step hp h1 m
    obtain ⟨e2, _, _⟩ := onwP_step hp h1 (m + 1)
    rw [e2, e1]
    rw [e1] at h2
    by_cases hm : m = 0
    · subst hm; simp only [onwP, onw_z]
    · refine onwP_more l2 ?_ h2
      by_cases hq : onwP l (onwP l p 1) m = onwP l p 1
      · exfalso
        rw [hq] at h2
        obtain ⟨m', rfl⟩ : ∃ m', m = m' + 1 := ⟨m - 1, by omega⟩
        obtain ⟨e3, l3, l4⟩ := onwP_step l2 h2 m'
        rw [e3] at hq
        have := onwP_ge l (onwP l (onwP l p 1) 1) m'
        omega
      · exact .inl hq
theorem bkwP_more {l : List UInt8} : ∀ {p m : Nat}, bkwP l p m ≠ p ∨ m = 0 → bkwP l (bkwP l p m) 1 ≠ bkwP l p m → bkwP l p (m + 1) = bkwP l (bkwP l p m) 1
  | p, 0, _, _ => by simp only [bkwP, bkw_z]
  | p, m + 1, h, h2 => by
    have h1 : bkwP l p 1 ≠ p := by
      intro hc
      rcases bkw_split l p p (Nat.le_refl _) with ⟨_, h3⟩ | ⟨h3, _⟩
      · rcases h with h | h
        · exact h (h3 _)
        · omega
      · have : bkwP l p 1 = p := hc
        unfold bkwP at this; omega
    obtain ⟨e1, l1⟩ := bkwP_step h1 m
    obtain ⟨e2, _⟩ := bkwP_step h1 (m + 1)
    rw [e2, e1]
    rw [e1] at h2
    by_cases hm : m = 0
    · subst hm; simp only [bkwP, bkw_z]
    · refine bkwP_more ?_ h2
      by_cases hq : bkwP l (bkwP l p 1) m = bkwP l p 1
      · exfalso
        rw [hq] at h2
        obtain ⟨m', rfl⟩ : ∃ m', m = m' + 1 := ⟨m - 1, by omega⟩
        obtain ⟨e3, l3⟩ := bkwP_step h2 m'
        rw [e3] at hq
        have := bkwP_le l (bkwP l (bkwP l p 1) 1) m'
        omega
      · exact .inl hq

/-- a target lies in the text -/
theorem tgt_le {l : List UInt8} {p : Nat} {want : Int} {n : Nat} {z : Bool} {k q : Nat} (hp : p ≤ l.length) (hk : k ≤ 16) (h : tgt l p want n z k = some q) : q ≤ l.length := by
  have F : ∀ L : Int, lnFirst l L = some q → q ≤ l.length := fun L h => by
    obtain ⟨h1, h2, h3⟩ := lnFirst_some h
    exact (in_line (by omega) h3).1
  have A : ∀ L C : Int, lnAt l L C = some q → q ≤ l.length := fun L C h => by
    obtain ⟨h1, h2, h3⟩ := lnAt_in h
    exact (in_line (by omega) h3).1
  have hb := bg_le l p
  have he := en_le (t := l) (s := bg l p) (by omega)
  have : k = 0 ∨ k = 1 ∨ k = 2 ∨ k = 3 ∨ k = 4 ∨ k = 5 ∨ k = 6 ∨ k = 7 ∨ k = 8 ∨ k = 9 ∨ k = 10 ∨ k = 11 ∨ k = 12 ∨ k = 13 ∨ k = 14 ∨ k = 15 ∨ k = 16 := by omega
  rcases this with rfl | rfl | rfl | rfl | rfl | rfl | rfl | rfl | rfl | rfl | rfl | rfl | rfl | rfl | rfl | rfl | rfl
  · cases h
  · obtain ⟨_, rfl⟩ := opt_some h; omega
  · obtain ⟨_, rfl⟩ := opt_some h; omega
  · obtain ⟨_, rfl⟩ := opt_some h; exact onwP_le l hp
  · obtain ⟨_, rfl⟩ := opt_some h; have := bkwP_le l p n; omega
  · exact A _ _ h
  · exact A _ _ h
  · exact F _ h
  · exact F _ h
  · exact F _ h
  · exact F _ h
  · have : bg l p = q := by simpa [tgt] using h
    omega
  · exact F _ h
  · obtain ⟨h1, h2, rfl⟩ := lnEnd_some h
    exact en_le (sp_le (by omega))
  · have e : pc (bg l p) (en l (bg l p)) ((n : Int) - 1) = q := by simpa [tgt] using h
    have := pc_in (s := bg l p) (e := en l (bg l p)) ((n : Int) - 1) (en_ge _ _)
    rw [e] at this
    unfold InL at this
    omega
  · cases z with
    | true => exact F _ h
    | false => exact F _ h
  · exact F _ h

/-- one motion more is the motion with one more count -/
theorem tgt_more {l : List UInt8} {p : Nat} {want : Int} {i : Nat} {z : Bool} {k q q' : Nat} (hp : p ≤ l.length) (hk1 : 1 ≤ k) (hk6 : k ≤ 6) (hi : 0 < i) (h : tgt l p want i z k = some q) (h' : tgt l q want 1 z k = some q') : tgt l p want (i + 1) z k = some q' := by
  have hb := bg_le l p
  have hE := place_en hp
  have he := en_le (t := l) (s := bg l p) (by omega)
  have hst := bg_st l p hp
  have hql := tgt_le hp (by omega) h
  have : k = 1 ∨ k = 2 ∨ k = 3 ∨ k = 4 ∨ k = 5 ∨ k = 6 := by omega
  have hspb := sp_of l p hp
  have hnl := nl_take_le l p
  rcases this with rfl | rfl | rfl | rfl | rfl | rfl
  · obtain ⟨h1, rfl⟩ := opt_some h
    obtain ⟨h2, rfl⟩ := opt_some h'
    have h1 := of_decide_eq_true h1
    have h2 := of_decide_eq_true h2
    have hL := at_line (l := l) (L := nl (l.take p)) (q := max (p - i) (bg l p)) hnl (by omega) (by rw [hspb]; omega)
    rw [hL.2.2, hspb] at h2
    show opt (decide (p ≠ bg l p)) (max (p - (i + 1)) (bg l p)) = some (max (max (p - i) (bg l p) - 1) (bg l (max (p - i) (bg l p))))
    rw [hL.2.2, hspb, decide_eq_true h1]
    show some _ = some _
    congr 1
    omega
  · obtain ⟨h1, rfl⟩ := opt_some h
    obtain ⟨h2, rfl⟩ := opt_some h'
    have h1 := of_decide_eq_true h1
    have h2 := of_decide_eq_true h2
    have hL := at_line (l := l) (L := nl (l.take p)) (q := min (p + i) (en l (bg l p))) hnl (by omega) (by rw [hspb]; omega)
    rw [hL.2.2, hspb] at h2
    show opt (decide (p ≠ en l (bg l p))) (min (p + (i + 1)) (en l (bg l p))) = some (min (min (p + i) (en l (bg l p)) + 1) (en l (bg l (min (p + i) (en l (bg l p))))))
    rw [hL.2.2, hspb, decide_eq_true h1]
    show some _ = some _
    congr 1
    omega
  · obtain ⟨h1, rfl⟩ := opt_some h
    obtain ⟨h2, rfl⟩ := opt_some h'
    have h1 := of_decide_eq_true h1
    have h2 := of_decide_eq_true h2
    have e := onwP_more hp (.inl h1) h2
    have g1 := onwP_ge l p i
    have g2 := onwP_ge l (onwP l p i) 1
    show opt (decide (onwP l p (i + 1) ≠ p)) (onwP l p (i + 1)) = some (onwP l (onwP l p i) 1)
    rw [e, decide_eq_true (by omega)]; rfl
  · obtain ⟨h1, rfl⟩ := opt_some h
    obtain ⟨h2, rfl⟩ := opt_some h'
    have h1 := of_decide_eq_true h1
    have h2 := of_decide_eq_true h2
    have e := bkwP_more (.inl h1) h2
    have g1 := bkwP_le l p i
    have g2 := bkwP_le l (bkwP l p i) 1
    show opt (decide (bkwP l p (i + 1) ≠ p)) (bkwP l p (i + 1)) = some (bkwP l (bkwP l p i) 1)
    rw [e, decide_eq_true (by omega)]; rfl
  · obtain ⟨a1, a2, a3⟩ := lnAt_in h
    obtain ⟨b1, b2, b3⟩ := in_line (L := ((nl (l.take p) : Nat) + (i : Int)).toNat) (by omega) a3
    have h'' : lnAt l ((nl (l.take q) : Nat) + ((1 : Nat) : Int)) want = some q' := h'
    show lnAt l ((nl (l.take p) : Nat) + ((i + 1 : Nat) : Int)) want = some q'
    rw [b2] at h''
    rw [← h'']
    congr 1
  · obtain ⟨a1, a2, a3⟩ := lnAt_in h
    obtain ⟨b1, b2, b3⟩ := in_line (L := ((nl (l.take p) : Nat) - (i : Int)).toNat) (by omega) a3
    have h'' : lnAt l ((nl (l.take q) : Nat) - ((1 : Nat) : Int)) want = some q' := h'
    show lnAt l ((nl (l.take p) : Nat) - ((i + 1 : Nat) : Int)) want = some q'
    rw [b2] at h''
    rw [← h'']
    congr 1
    omega
theorem wn_more (l : List UInt8) (want : Int) (n m k q : Nat) (hk : k ≤ 6) : wn l want n k q = wn l want m k q := by
  unfold wn
  split
  · rfl
  · rw [if_neg (by omega), if_neg (by omega), if_neg (by omega), if_neg (by omega)]
/-- the count alone is looked at by two keys -/
theorem tgt_want {l : List UInt8} {p : Nat} {want want' : Int} {n : Nat} {z z' : Bool} {k : Nat} (hk : k ≤ 6) (h : k = 5 ∨ k = 6 → want = want') : tgt l p want n z k = tgt l p want' n z' k := by
  have : k = 0 ∨ k = 1 ∨ k = 2 ∨ k = 3 ∨ k = 4 ∨ k = 5 ∨ k = 6 := by omega
  rcases this with rfl | rfl | rfl | rfl | rfl | rfl | rfl
  · rfl
  · rfl
  · rfl
  · rfl
  · rfl
  · rw [h (.inl rfl)]; rfl
  · rw [h (.inr rfl)]; rfl
end Go.Proofs.Ytbkhbnmihnomaaa
