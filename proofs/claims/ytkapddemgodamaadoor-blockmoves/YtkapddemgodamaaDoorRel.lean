/- Steps along a list of stops are steps from stop to stop; no program. -/
import Derived.Test.YtkapddemgodamaaDoorStopW
import Derived.Test.YtkapddemgodamaaDoorRab
namespace Go.Proofs.YtkapddemgodamaaDoor

theorem nu_unique {P : Nat → Bool} : ∀ (g q a : Nat), q ≤ a → a ≤ q + g → (a = q + g ∨ P a = true) → (∀ j, q ≤ j → j < a → P j = false) → nu P g q = a
  | 0, q, a, h1, h2, _, _ => by unfold nu; omega
  | g + 1, q, a, h1, h2, h3, h4 => by
    unfold nu
    rcases Nat.eq_or_lt_of_le h1 with e | e
    · subst e
      rw [if_pos (by rcases h3 with h | h; omega; exact h)]
    · rw [if_neg (by rw [h4 q (Nat.le_refl _) e]; decide)]
      exact nu_unique g (q + 1) a (by omega) (by omega) (by rcases h3 with h | h; exact .inl (by omega); exact .inr h) (fun j hj hj2 => h4 j (by omega) hj2)
theorem nd_unique {P : Nat → Bool} : ∀ (q a : Nat), a ≤ q → (a = 0 ∨ P a = true) → (∀ j, a < j → j ≤ q → P j = false) → nd P q = a
  | 0, a, h1, _, _ => by unfold nd; omega
  | q + 1, a, h1, h3, h4 => by
    unfold nd
    rcases Nat.eq_or_lt_of_le h1 with e | e
    · subst e
      rw [if_pos (by rcases h3 with h | h; omega; exact h)]
    · rw [if_neg (by rw [h4 (q + 1) e (Nat.le_refl _)]; decide)]
      exact nd_unique q a (by omega) h3 (fun j hj hj2 => h4 j hj (by omega))
/-- a rising list of the stops -/
structure Sl (L : List Nat) (P : Nat → Bool) (n : Nat) : Prop where
  up : L.Pairwise (· < ·)
  le : ∀ x ∈ L, x ≤ n
  mem : ∀ q, 0 < q → q < n → (q ∈ L ↔ P q = true)
theorem abv_cases (p n : Nat) : ∀ L : List Nat, L.Pairwise (· < ·) → (abv p n L = n ∧ ∀ x ∈ L, x ≤ p) ∨ (abv p n L ∈ L ∧ p < abv p n L ∧ ∀ x ∈ L, p < x → abv p n L ≤ x)
  | [], _ => .inl ⟨rfl, fun x hx => by cases hx⟩
  | y :: r, h => by
    rw [List.pairwise_cons] at h
    unfold abv
    by_cases hy : p < y
    · rw [if_pos hy]
      refine .inr ⟨List.mem_cons_self .., hy, fun x hx _ => ?_⟩
      rcases List.mem_cons.1 hx with e | e
      · omega
      · have := h.1 x e; omega
    · rw [if_neg hy]
      rcases abv_cases p n r h.2 with ⟨h1, h2⟩ | ⟨h1, h2, h3⟩
      · refine .inl ⟨h1, fun x hx => ?_⟩
        rcases List.mem_cons.1 hx with e | e
        · omega
        · exact h2 x e
      · refine .inr ⟨List.mem_cons_of_mem _ h1, h2, fun x hx hpx => ?_⟩
        rcases List.mem_cons.1 hx with e | e
        · omega
        · exact h3 x e hpx
theorem ab_su {L : List Nat} {P : Nat → Bool} {n p : Nat} (h : Sl L P n) (hp : p ≤ n) : ab L n p = su P n p := by
  unfold ab su
  by_cases hpn : p = n
  · rw [if_pos hpn, if_pos hpn]
  · rw [if_neg hpn, if_neg hpn]
    congr 1
    symm
    rcases abv_cases p n L h.up with ⟨h1, h2⟩ | ⟨h1, h2, h3⟩
    · rw [h1]
      refine nu_unique _ _ _ (by omega) (by omega) (.inl (by omega)) fun j hj hj2 => ?_
      cases hP : P j with
      | false => rfl
      | true => have := h2 j ((h.mem j (by omega) hj2).2 hP); omega
    · have hle := h.le _ h1
      refine nu_unique _ _ _ (by omega) (by omega) ?_ fun j hj hj2 => ?_
      · rcases Nat.eq_or_lt_of_le hle with e | e
        · exact .inl (by omega)
        · exact .inr ((h.mem _ (by omega) e).1 h1)
      · cases hP : P j with
        | false => rfl
        | true => have := h3 j ((h.mem j (by omega) (by omega)).2 hP) (by omega); omega
theorem blw_take (p : Nat) (L : List Nat) (h0 : L.Pairwise (· < ·)) : ∀ k, k ≤ L.length → (blw p (L.take k) = 0 ∧ ∀ x ∈ L.take k, p ≤ x) ∨ (blw p (L.take k) ∈ L.take k ∧ blw p (L.take k) < p ∧ ∀ x ∈ L.take k, x < p → x ≤ blw p (L.take k))
  | 0, _ => .inl ⟨rfl, fun x hx => by simp at hx⟩
  | k + 1, hk => by
    have h : (L.take (k + 1)).Pairwise (· < ·) := h0.sublist (List.take_sublist _ _)
    rw [take_at (by omega)] at h ⊢
    rw [List.pairwise_append] at h
    rw [blw_snoc]
    generalize L.getD k 0 = y at *
    by_cases hy : y < p
    · rw [if_pos hy]
      refine .inr ⟨by simp, hy, fun x hx _ => ?_⟩
      rcases List.mem_append.1 hx with e | e
      · have := h.2.2 x e y (by simp); omega
      · simp at e; omega
    · rw [if_neg hy]
      rcases blw_take p L h0 k (by omega) with ⟨h1, h2⟩ | ⟨h1, h2, h3⟩
      · refine .inl ⟨h1, fun x hx => ?_⟩
        rcases List.mem_append.1 hx with e | e
        · exact h2 x e
        · simp at e; omega
      · refine .inr ⟨List.mem_append_left _ h1, h2, fun x hx hpx => ?_⟩
        rcases List.mem_append.1 hx with e | e
        · exact h3 x e hpx
        · simp at e; omega
theorem blw_cases (p : Nat) (L : List Nat) (h : L.Pairwise (· < ·)) : (blw p L = 0 ∧ ∀ x ∈ L, p ≤ x) ∨ (blw p L ∈ L ∧ blw p L < p ∧ ∀ x ∈ L, x < p → x ≤ blw p L) := by
  have := blw_take p L h L.length (Nat.le_refl _)
  rwa [List.take_length] at this
theorem bw_sd {L : List Nat} {P : Nat → Bool} {n p : Nat} (h : Sl L P n) (hp : p ≤ n) : bw L p = sd P p := by
  unfold bw sd
  by_cases hpn : p = 0
  · rw [if_pos hpn, if_pos hpn]
  · rw [if_neg hpn, if_neg hpn]
    congr 1
    symm
    rcases blw_cases p L h.up with ⟨h1, h2⟩ | ⟨h1, h2, h3⟩
    · rw [h1]
      refine nd_unique _ _ (by omega) (.inl rfl) fun j hj hj2 => ?_
      cases hP : P j with
      | false => rfl
      | true => have := h2 j ((h.mem j (by omega) (by omega)).2 hP); omega
    · refine nd_unique _ _ (by omega) ?_ fun j hj hj2 => ?_
      · rcases Nat.eq_zero_or_pos (blw p L) with e | e
        · exact .inl e
        · exact .inr ((h.mem _ e (by omega)).1 h1)
      · cases hP : P j with
        | false => rfl
        | true => have := h3 j ((h.mem j (by omega) (by omega)).2 hP) (by omega); omega
theorem it_congr {s t : Nat → Option Nat} {n : Nat} (h : ∀ p, p ≤ n → s p = t p) (hs : ∀ p q, p ≤ n → t p = some q → q ≤ n) : ∀ m p, p ≤ n → it s m p = it t m p
  | 0, p, _ => rfl
  | m + 1, p, hp => by
    unfold it
    rw [h p hp]
    cases e : t p with
    | none => rfl
    | some q => exact it_congr h hs m q (hs p q hp e)
end Go.Proofs.YtkapddemgodamaaDoor
