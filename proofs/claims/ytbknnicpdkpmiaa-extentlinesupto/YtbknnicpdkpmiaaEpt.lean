/- What Of answers is a range of the text, about both ends; pure. -/
import Derived.Test.YtbknnicpdkpmiaaOf
import Derived.Test.YtbknnicpdkpmiaaTk0
namespace Go.Proofs.Ytbknnicpdkpmiaa
open Go.RowKit

theorem ofr_swap (l : List UInt8) (i j k : Int) (o : Nat) : ofr l j i k o = ofr l i j k o := by
  unfold ofr
  rw [Bool.and_comm (plB l j) (plB l i), Int.min_comm j i, Int.max_comm j i]
/-- a range that an operator may work on -/
structure Good (l : List UInt8) (a b : Nat) (k : Int) (o : Nat) (r : Rg) : Prop where
  ok : r.E = 0
  rng : rgB l r.F r.T r.L r.D = true
  low : r.F ≤ a
  lin : r.L = true → (b : Int) ≤ r.T ∨ (0 < b ∧ le (at8 l (b - 1)) = true)
  pln : r.L = false → ¬ k = 3 ∧ shB o = false ∧ r.F = a ∧ r.D = false ∧ (((b : Int) ≤ r.T ∧ r.T ≤ (b : Int) + 1) ∨ (r.T = (b : Int) - 1 ∧ 0 < b ∧ le (at8 l (b - 1)) = true ∧ k = 1))
theorem rgB_mk {l : List UInt8} {F T : Int} {L D : Bool} (h1 : 0 ≤ F) (h2 : F ≤ T) (h3 : T ≤ l.length) (h4 : D = false ∨ leB l F = true) : rgB l F T L D = true := by
  unfold rgB
  rw [decide_eq_true ⟨h1, h2, h3⟩, Bool.true_and]
  rcases h4 with h4 | h4
  · rw [h4]; simp
  · rw [h4]; simp
theorem lo_good {l : List UInt8} {a b c : Nat} {k : Int} {o : Nat} (hab : a ≤ c) (hc : c ≤ l.length) (hb : b = c ∨ (b = c + 1 ∧ le (at8 l c) = true)) : Good l a b k o (lo l a c) ∧ (lo l a c).L = true := by
  have h1 := nl_take_le l a
  have h2 := nl_take_le l c
  have h3 := nl_mono l a c hab
  have e : lo l a c = whY l (sp l (nl (l.take a))) (en l (sp l (nl (l.take c)))) := wh_yes h1 h2 h3
  rw [sp_of l a (by omega), sp_of l c hc] at e
  have ha := bg_le l a
  have hcE := place_en (t := l) hc
  have hE := en_le (t := l) (s := bg l c) (by have := bg_le l c; omega)
  have hba : bg l a ≤ en l (bg l c) := by omega
  have hlin : ∀ T : Int, (c : Int) ≤ T → (b : Int) ≤ T ∨ (0 < b ∧ le (at8 l (b - 1)) = true) := by
    intro T hT
    rcases hb with rfl | ⟨rfl, hq⟩
    · exact .inl hT
    · exact .inr ⟨by omega, by simpa using hq⟩
  rw [e]
  unfold whY
  by_cases hx : en l (bg l c) < l.length
  · rw [if_pos hx]
    exact ⟨⟨rfl, rgB_mk (by show (0 : Int) ≤ (bg l a : Int); omega) (by show (bg l a : Int) ≤ (en l (bg l c) : Int) + 1; omega) (by show ((en l (bg l c) : Int) + 1) ≤ l.length; omega) (.inl rfl), by show (bg l a : Int) ≤ a; omega, fun _ => hlin _ (by show (c : Int) ≤ (en l (bg l c) : Int) + 1; omega), fun h => by cases h⟩, rfl⟩
  · rw [if_neg hx]
    by_cases hs : 0 < bg l a
    · rw [if_pos hs]
      have hed := (bg_st l a (by omega)).edge
      have hle : leB l ((bg l a : Int) - 1) = true := by
        unfold leB
        rcases hed with h | ⟨_, h⟩
        · omega
        · rw [decide_eq_true (by omega), show ((bg l a : Int) - 1).toNat = bg l a - 1 from by omega, h]; rfl
      exact ⟨⟨rfl, rgB_mk (by show (0 : Int) ≤ (bg l a : Int) - 1; omega) (by show (bg l a : Int) - 1 ≤ (en l (bg l c) : Int); omega) (by show (en l (bg l c) : Int) ≤ l.length; omega) (.inr hle), by show (bg l a : Int) - 1 ≤ a; omega, fun _ => hlin _ (by show (c : Int) ≤ (en l (bg l c) : Int); omega), fun h => by cases h⟩, rfl⟩
    · rw [if_neg hs]
      exact ⟨⟨rfl, rgB_mk (by show (0 : Int) ≤ (bg l a : Int); omega) (by show (bg l a : Int) ≤ (en l (bg l c) : Int); omega) (by show (en l (bg l c) : Int) ≤ l.length; omega) (.inl rfl), by show (bg l a : Int) ≤ a; omega, fun _ => hlin _ (by show (c : Int) ≤ (en l (bg l c) : Int); omega), fun h => by cases h⟩, rfl⟩
theorem pl_good {l : List UInt8} {a b : Nat} {T k : Int} {o : Nat} (ha : (a : Int) ≤ T) (hT : T ≤ l.length) (hk : ¬ k = 3) (ho : shB o = false) (h : ((b : Int) ≤ T ∧ T ≤ (b : Int) + 1) ∨ (T = (b : Int) - 1 ∧ 0 < b ∧ le (at8 l (b - 1)) = true ∧ k = 1)) : Good l a b k o ⟨a, T, false, false, 0⟩ :=
  ⟨rfl, rgB_mk (by show (0 : Int) ≤ (a : Int); omega) ha hT (.inl rfl), Int.le_refl _, (fun h => by cases h), fun _ => ⟨hk, ho, rfl, rfl, h⟩⟩
theorem ofR_good {l : List UInt8} {a b : Nat} {k : Int} {o : Nat} (hab : a ≤ b) (hb : b ≤ l.length) : Good l a b k o (ofR l a b k o) := by
  unfold ofR
  by_cases h3 : k = 3 ∨ shB o = true
  · rw [if_pos h3]; exact (lo_good hab hb (.inl rfl)).1
  · rw [if_neg h3]
    have hk3 : ¬ k = 3 := fun h => h3 (.inl h)
    have ho : shB o = false := by
      cases h : shB o with
      | false => rfl
      | true => exact absurd (.inr h) h3
    by_cases h1 : k = 1
    · rw [if_pos h1]
      unfold exR
      by_cases hx : a = b ∨ le (at8 l (b - 1)) = false
      · rw [if_pos hx]
        exact pl_good (by omega) (by omega) hk3 ho (.inl ⟨Int.le_refl _, by omega⟩)
      · rw [if_neg hx]
        have hne : ¬ a = b := fun h => hx (.inl h)
        have hle : le (at8 l (b - 1)) = true := by
          cases h : le (at8 l (b - 1)) with
          | true => rfl
          | false => exact absurd (.inr h) hx
        by_cases hq : ba l a = true
        · rw [if_pos hq]
          exact (lo_good (by omega) (by omega) (.inr ⟨by omega, hle⟩)).1
        · rw [if_neg hq]
          exact pl_good (by omega) (by omega) hk3 ho (.inr ⟨rfl, by omega, hle, h1⟩)
    · rw [if_neg h1]
      unfold inR
      by_cases hx : b = l.length ∨ le (at8 l b) = true
      · rw [if_pos hx]
        exact pl_good (by omega) (by omega) hk3 ho (.inl ⟨Int.le_refl _, by omega⟩)
      · rw [if_neg hx]
        have hne : ¬ b = l.length := fun h => hx (.inl h)
        exact pl_good (by omega) (by omega) hk3 ho (.inl ⟨by omega, Int.le_refl _⟩)
theorem ofr_good (l : List UInt8) (i j k : Int) (o : Nat) : ofr l i j k o = rno ∨ ∃ a b : Nat, min i j = a ∧ max i j = b ∧ a ≤ b ∧ b ≤ l.length ∧ Good l a b k o (ofr l i j k o) := by
  unfold ofr
  cases h : (plB l i && plB l j && kdB k && opB o) with
  | false => exact .inl rfl
  | true =>
    right
    simp only [Bool.and_eq_true] at h
    obtain ⟨⟨⟨h1, h2⟩, h3⟩, h4⟩ := h
    obtain ⟨I, rfl, hi⟩ := pl_yes h1
    obtain ⟨J, rfl, hj⟩ := pl_yes h2
    rw [if_pos rfl]
    refine ⟨min I J, max I J, by omega, by omega, by omega, by omega, ?_⟩
    have e1 : (min (I : Int) J).toNat = min I J := by omega
    have e2 : (max (I : Int) J).toNat = max I J := by omega
    rw [e1, e2]
    exact ofR_good (by omega) (by omega)

end Go.Proofs.Ytbknnicpdkpmiaa
