/- Stops of a text, one after the other, as plain functions: the n-th stop above a place, below it. -/
import Derived.Test.YtomekjakjgfjdaaStop
namespace Go.Proofs.Ytomekjakjgfjdaa

/-- the n-th stop of the f places above p; d: the last one so far -/
def sup (S : Nat → Bool) (fw : Nat → Nat) : Nat → Nat → Nat → Nat → Nat
  | 0, n, d, _ => if n = 0 then d else fw d
  | f + 1, n, d, p => if n = 0 then d else if S (p + 1) = true then sup S fw f (n - 1) (p + 1) (p + 1) else sup S fw f n d (p + 1)
/-- the n-th stop below p -/
def sdn (S : Nat → Bool) (fw : Nat → Nat) : Nat → Nat → Nat → Nat
  | 0, n, d => if n = 0 then d else fw d
  | p + 1, n, d => if n = 0 then d else if S p = true then sdn S fw p (n - 1) p else sdn S fw p n d

theorem sup_zero (S : Nat → Bool) (fw : Nat → Nat) (f d p : Nat) : sup S fw f 0 d p = d := by cases f <;> simp [sup]
theorem sup_end {S : Nat → Bool} {fw : Nat → Nat} {n : Nat} (d p : Nat) (h : 0 < n) : sup S fw 0 n d p = fw d := by unfold sup; rw [if_neg (by omega)]
theorem sup_yes {S : Nat → Bool} {fw : Nat → Nat} {f n d p : Nat} (h : 0 < n) (hs : S (p + 1) = true) : sup S fw (f + 1) n d p = sup S fw f (n - 1) (p + 1) (p + 1) := by
  conv => lhs; unfold sup
  rw [if_neg (by omega), if_pos hs]
theorem sup_no {S : Nat → Bool} {fw : Nat → Nat} {f n d p : Nat} (h : 0 < n) (hs : S (p + 1) = false) : sup S fw (f + 1) n d p = sup S fw f n d (p + 1) := by
  conv => lhs; unfold sup
  rw [if_neg (by omega), if_neg (by rw [hs]; simp)]
theorem sdn_zero (S : Nat → Bool) (fw : Nat → Nat) (p d : Nat) : sdn S fw p 0 d = d := by cases p <;> simp [sdn]
theorem sdn_end {S : Nat → Bool} {fw : Nat → Nat} {n : Nat} (d : Nat) (h : 0 < n) : sdn S fw 0 n d = fw d := by unfold sdn; rw [if_neg (by omega)]
theorem sdn_yes {S : Nat → Bool} {fw : Nat → Nat} {n d p : Nat} (h : 0 < n) (hs : S p = true) : sdn S fw (p + 1) n d = sdn S fw p (n - 1) p := by
  conv => lhs; unfold sdn
  rw [if_neg (by omega), if_pos hs]
theorem sdn_no {S : Nat → Bool} {fw : Nat → Nat} {n d p : Nat} (h : 0 < n) (hs : S p = false) : sdn S fw (p + 1) n d = sdn S fw p n d := by
  conv => lhs; unfold sdn
  rw [if_neg (by omega), if_neg (by rw [hs]; simp)]

/-- where it may end -/
theorem sup_le {S : Nat → Bool} {fw : Nat → Nat} {L : Nat} (hw : ∀ d, d ≤ L → d ≤ fw d ∧ fw d ≤ L) : ∀ (f n d p : Nat), f + p = L → d ≤ p → d ≤ sup S fw f n d p ∧ sup S fw f n d p ≤ L
  | 0, n, d, p, h, hd => by unfold sup; split; (constructor <;> omega); exact hw d (by omega)
  | f + 1, n, d, p, h, hd => by
    unfold sup
    split
    · constructor <;> omega
    · split
      · have := sup_le (S := S) hw f (n - 1) (p + 1) (p + 1) (by omega) (by omega)
        constructor <;> omega
      · exact sup_le hw f n d (p + 1) (by omega) (by omega)
theorem sdn_le {S : Nat → Bool} {fw : Nat → Nat} (hw : ∀ d, fw d ≤ d) : ∀ (p n d : Nat), p ≤ d → sdn S fw p n d ≤ d
  | 0, n, d, hd => by unfold sdn; split; omega; exact hw d
  | p + 1, n, d, hd => by
    unfold sdn
    split
    · omega
    · split
      · have := sdn_le (S := S) hw p (n - 1) p (Nat.le_refl _); omega
      · exact sdn_le hw p n d (by omega)

/-- places without stops are passed over -/
theorem sup_skip {S : Nat → Bool} {fw : Nat → Nat} {n d L : Nat} (hn : 0 < n) : ∀ (j p : Nat), p + j ≤ L → (∀ q, p < q → q ≤ p + j → S q = false) → sup S fw (L - p) n d p = sup S fw (L - (p + j)) n d (p + j)
  | 0, p, _, _ => rfl
  | j + 1, p, h, hs => by
    rw [show L - p = (L - (p + 1)) + 1 from by omega, sup_no hn (hs (p + 1) (by omega) (by omega)), sup_skip hn j (p + 1) (by omega) (fun q h1 h2 => hs q (by omega) (by omega)), show p + 1 + j = p + (j + 1) from by omega]
theorem sdn_skip {S : Nat → Bool} {fw : Nat → Nat} {n d : Nat} (hn : 0 < n) : ∀ (j p : Nat), (∀ q, p ≤ q → q < p + j → S q = false) → sdn S fw (p + j) n d = sdn S fw p n d
  | 0, p, _ => rfl
  | j + 1, p, hs => by
    rw [show p + (j + 1) = (p + j) + 1 from by omega, sdn_no hn (hs (p + j) (by omega) (by omega)), sdn_skip hn j p (fun q h1 h2 => hs q h1 (by omega))]

/-- which ends: the last one so far, or a place behind which nothing is -/
structure Ways (S : Nat → Bool) (fw : Nat → Nat) (L : Nat) : Prop where
  le : ∀ d, d ≤ L → d ≤ fw d ∧ fw d ≤ L
  again : ∀ d, d ≤ L → (∀ q, d < q → q ≤ L → S q = false) → ∀ n, sup S fw (L - fw d) n (fw d) (fw d) = fw d
/-- m steps and then n are m + n -/
theorem sup_add {S : Nat → Bool} {fw : Nat → Nat} {L : Nat} (hw : Ways S fw L) (n : Nat) : ∀ (f m d p : Nat), f + p = L → d ≤ p → (∀ q, d < q → q ≤ p → S q = false) →
    sup S fw f (m + n) d p = sup S fw (L - sup S fw f m d p) n (sup S fw f m d p) (sup S fw f m d p)
  | f, 0, d, p, h, hd, hs => by
    rw [sup_zero, Nat.zero_add]
    rcases Nat.eq_zero_or_pos n with h0 | h0
    · subst h0; rw [sup_zero, sup_zero]
    · have := sup_skip (fw := fw) (d := d) (L := L) h0 (p - d) d (by omega) (fun q h1 h2 => hs q h1 (by omega))
      rw [show d + (p - d) = p from by omega] at this
      rw [this, show L - p = f from by omega]
  | 0, m + 1, d, p, h, hd, hs => by
    rw [sup_end d p (by omega), sup_end d p (by omega)]
    rw [hw.again d (by omega) (fun q h1 h2 => hs q h1 (by omega)) n]
  | f + 1, m + 1, d, p, h, hd, hs => by
    cases hq : S (p + 1) with
    | true =>
      rw [sup_yes (by omega) hq, sup_yes (by omega) hq, show m + 1 + n - 1 = m + n from by omega, Nat.add_sub_cancel]
      exact sup_add hw n f m (p + 1) (p + 1) (by omega) (Nat.le_refl _) (fun q h1 h2 => by omega)
    | false =>
      rw [sup_no (by omega) hq, sup_no (by omega) hq]
      exact sup_add hw n f (m + 1) d (p + 1) (by omega) (by omega) (fun q h1 h2 => by
        rcases Nat.lt_or_ge p q with h3 | h3
        · rw [show q = p + 1 from by omega]; exact hq
        · exact hs q h1 h3)
theorem sdn_add {S : Nat → Bool} {n : Nat} : ∀ (p m d : Nat), p ≤ d → (∀ q, p ≤ q → q < d → S q = false) →
    sdn S (fun _ => 0) p (m + n) d = sdn S (fun _ => 0) (sdn S (fun _ => 0) p m d) n (sdn S (fun _ => 0) p m d)
  | p, 0, d, hd, hs => by
    rw [sdn_zero, Nat.zero_add]
    rcases Nat.eq_zero_or_pos n with h0 | h0
    · subst h0; rw [sdn_zero, sdn_zero]
    · have := sdn_skip (fw := fun _ => 0) (d := d) h0 (d - p) p (fun q h1 h2 => hs q h1 (by omega))
      rw [show p + (d - p) = d from by omega] at this
      rw [this]
  | 0, m + 1, d, hd, hs => by
    rw [sdn_end d (by omega), sdn_end d (by omega)]
    rcases Nat.eq_zero_or_pos n with h0 | h0
    · subst h0; rw [sdn_zero]
    · rw [sdn_end _ h0]
  | p + 1, m + 1, d, hd, hs => by
    cases hq : S p with
    | true =>
      rw [sdn_yes (by omega) hq, sdn_yes (by omega) hq, show m + 1 + n - 1 = m + n from by omega, Nat.add_sub_cancel]
      exact sdn_add p m p (Nat.le_refl _) (fun q h1 h2 => by omega)
    | false =>
      rw [sdn_no (by omega) hq, sdn_no (by omega) hq]
      exact sdn_add p (m + 1) d (by omega) (fun q h1 h2 => by
        rcases Nat.lt_or_ge p q with h3 | h3
        · exact hs q (by omega) h2
        · rw [show q = p from by omega]; exact hq)
/-- what stays stays -/
theorem sup_first {S : Nat → Bool} {fw : Nat → Nat} {L : Nat} (hw : ∀ d, d ≤ L → d ≤ fw d ∧ fw d ≤ L) : ∀ (f d p : Nat), f + p = L → d ≤ p → ((∀ q, p < q → q ≤ L → S q = false) ∧ ∀ n, sup S fw f (n + 1) d p = fw d) ∨ ((∃ q, p < q ∧ q ≤ L ∧ S q = true ∧ (∀ r, p < r → r < q → S r = false) ∧ ∀ n, sup S fw f (n + 1) d p = sup S fw (L - q) n q q) ∧ ∀ n, p < sup S fw f (n + 1) d p)
  | 0, d, p, h, hd => .inl ⟨fun q h1 h2 => by omega, fun n => sup_end d p (by omega)⟩
  | f + 1, d, p, h, hd => by
    cases hq : S (p + 1) with
    | true =>
      refine .inr ⟨⟨p + 1, by omega, by omega, hq, fun r h1 h2 => by omega, fun n => ?_⟩, fun n => ?_⟩
      · rw [sup_yes (by omega) hq, Nat.add_sub_cancel, show L - (p + 1) = f from by omega]
      · rw [sup_yes (by omega) hq]
        have := (sup_le hw f (n + 1 - 1) (p + 1) (p + 1) (by omega) (Nat.le_refl _) (S := S)).1
        omega
    | false =>
      have e : ∀ n, sup S fw (f + 1) (n + 1) d p = sup S fw f (n + 1) d (p + 1) := fun n => sup_no (by omega) hq
      have hone : ∀ q, p < q → ¬ p + 1 < q → S q = false := fun q h1 h2 => by rw [show q = p + 1 from by omega]; exact hq
      rcases sup_first hw f d (p + 1) (by omega) (by omega) with ⟨h1, h2⟩ | ⟨⟨q, h1, h2, h3, h4, h5⟩, h6⟩
      · refine .inl ⟨fun q k1 k2 => ?_, fun n => by rw [e]; exact h2 n⟩
        by_cases hh : p + 1 < q
        · exact h1 q hh k2
        · exact hone q k1 hh
      · refine .inr ⟨⟨q, by omega, h2, h3, fun r k1 k2 => ?_, fun n => by rw [e]; exact h5 n⟩, fun n => by rw [e]; have := h6 n; omega⟩
        by_cases hh : p + 1 < r
        · exact h4 r hh k2
        · exact hone r k1 hh
theorem sup_stuck {S : Nat → Bool} {fw : Nat → Nat} {L p m : Nat} (hw : ∀ d, d ≤ L → d ≤ fw d ∧ fw d ≤ L) (hp : p ≤ L) (hm : 0 < m) (h : sup S fw (L - p) m p p = p) (n : Nat) : sup S fw (L - p) n p p = p := by
  obtain ⟨m, rfl⟩ : ∃ k, m = k + 1 := ⟨m - 1, by omega⟩
  rcases sup_first (S := S) hw (L - p) p p (by omega) (Nat.le_refl _) with ⟨h1, h2⟩ | ⟨-, h1⟩
  · cases n with
    | zero => exact sup_zero _ _ _ _ _
    | succ n => rw [h2 n, ← h2 m]; exact h
  · have := h1 m; omega
theorem sdn_lt {S : Nat → Bool} {p n : Nat} (hp : 0 < p) (hn : 0 < n) : sdn S (fun _ => 0) p n p < p := by
  have aux : ∀ (k d : Nat), k < d → sdn S (fun _ => 0) k n d < d := by
    intro k
    induction k with
    | zero => intro d hd; rw [sdn_end d hn]; exact hd
    | succ k ih =>
      intro d hd
      cases hq : S k with
      | true => rw [sdn_yes hn hq]; have := sdn_le (S := S) (fw := fun _ => 0) (fun d => Nat.zero_le d) k (n - 1) k (Nat.le_refl _); omega
      | false => rw [sdn_no hn hq]; exact ih d (by omega)
  obtain ⟨k, rfl⟩ : ∃ k, p = k + 1 := ⟨p - 1, by omega⟩
  cases hq : S k with
  | true => rw [sdn_yes hn hq]; have := sdn_le (S := S) (fw := fun _ => 0) (fun d => Nat.zero_le d) k (n - 1) k (Nat.le_refl _); omega
  | false => rw [sdn_no hn hq]; exact aux k (k + 1) (by omega)
/-- the next stop below -/
theorem sdn_one {S : Nat → Bool} {fw : Nat → Nat} {p q : Nat} (h : q < p) (hq : S q = true) (hs : ∀ r, q < r → r < p → S r = false) (d : Nat) : sdn S fw p 1 d = q := by
  have e := sdn_skip (S := S) (fw := fw) (n := 1) (d := d) (by omega) (p - (q + 1)) (q + 1) (fun r h1 h2 => hs r (by omega) (by omega))
  rw [show q + 1 + (p - (q + 1)) = p from by omega] at e
  rw [e, sdn_yes (by omega) hq, sdn_zero]
theorem sup_congr {S S' : Nat → Bool} {fw : Nat → Nat} {L : Nat} (h : ∀ q, q ≤ L → S q = S' q) : ∀ (f n d p : Nat), f + p = L → sup S fw f n d p = sup S' fw f n d p
  | 0, n, d, p, _ => rfl
  | f + 1, n, d, p, hp => by
    unfold sup
    rw [h (p + 1) (by omega), sup_congr h f (n - 1) (p + 1) (p + 1) (by omega), sup_congr h f n d (p + 1) (by omega)]
theorem sdn_congr {S S' : Nat → Bool} {fw : Nat → Nat} {L : Nat} (h : ∀ q, q ≤ L → S q = S' q) : ∀ (p n d : Nat), p ≤ L → sdn S fw p n d = sdn S' fw p n d
  | 0, n, d, _ => rfl
  | p + 1, n, d, hp => by
    unfold sdn
    rw [h p (by omega), sdn_congr h p (n - 1) p (by omega), sdn_congr h p n d (by omega)]
end Go.Proofs.Ytomekjakjgfjdaa
