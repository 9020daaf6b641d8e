/- What the answers of Move and Again are, case by case; no program. -/
import Derived.Test.YtinlkeionoghdaaMov
namespace Go.Proofs.Ytinlkeionoghdaa
open Go.RowKit

theorem hit_up {l : List UInt8} {b : Int} {p m sk k q : Nat} (hk : k = 1 ∨ k = 2) (h : hit l b p m sk k = some q) : p + 1 + sk ≤ q ∧ q < en l (bg l p) ∧ isb l b q = true := by
  have h' : (hu (isb l b) (en l (bg l p) - (p + 1 + sk)) (p + 1 + sk))[m - 1]? = some q := by rcases hk with rfl | rfl <;> exact h
  have := hu_mem _ _ _ q (List.mem_of_getElem? h')
  exact ⟨this.1, by omega, this.2.2⟩
theorem hit_dn {l : List UInt8} {b : Int} {p m sk k q : Nat} (hk : k = 3 ∨ k = 4) (h : hit l b p m sk k = some q) : bg l p ≤ q ∧ q < p - sk ∧ isb l b q = true := by
  have h' : (hd (isb l b) (p - sk - bg l p) (p - sk))[m - 1]? = some q := by rcases hk with rfl | rfl <;> exact h
  have := hd_mem _ _ _ q (by omega) (List.mem_of_getElem? h')
  exact ⟨by omega, this.2.1, this.2.2⟩
theorem mv_cases (l : List UInt8) (i cnt key b : Int) : (∃ z : Int, (z = 2 ∨ z = 70) ∧ mv l i cnt key b = ⟨0, 0, 0, z⟩) ∨
    ∃ p q : Nat, i = p ∧ p ≤ l.length ∧ 0 ≤ cnt ∧ cnt ≤ 9999 ∧ kq key ≠ 0 ∧ hit l b p (max cnt 1).toNat 0 (kq key) = some q ∧ mv l i cnt key b = ⟨p, tov (kq key) q, kd (kq key), 0⟩ := by
  cases h : okB l i cnt with
  | false => exact .inl ⟨2, .inl rfl, by unfold mv; rw [h]; rfl⟩
  | true =>
    obtain ⟨p, rfl, hp, h0, h1⟩ := ok_yes h
    by_cases hk : kq key = 0
    · exact .inl ⟨2, .inl rfl, by unfold mv; rw [h, if_pos rfl, if_pos hk]⟩
    · cases hh : hit l b p (max cnt 1).toNat 0 (kq key) with
      | none => exact .inl ⟨70, .inr rfl, by unfold mv; rw [h, if_pos rfl, if_neg hk, Int.toNat_natCast, hh]; rfl⟩
      | some q => exact .inr ⟨p, q, rfl, hp, h0, h1, hk, hh, by unfold mv; rw [h, if_pos rfl, if_neg hk, Int.toNat_natCast, hh]; rfl⟩
theorem ag_cases (l : List UInt8) (i cnt key b : Int) (t : Bool) : (∃ z : Int, (z = 2 ∨ z = 70) ∧ ag l i cnt key b t = ⟨0, 0, 0, z⟩) ∨
    ∃ p q : Nat, i = p ∧ p ≤ l.length ∧ kq key ≠ 0 ∧ hit l b p (max cnt 1).toNat (sh (ky t (kq key))) (ky t (kq key)) = some q ∧ ag l i cnt key b t = ⟨p, tov (ky t (kq key)) q, kd (ky t (kq key)), 0⟩ := by
  cases h : okB l i cnt with
  | false => exact .inl ⟨2, .inl rfl, by unfold ag; rw [h]; rfl⟩
  | true =>
    obtain ⟨p, rfl, hp, h0, h1⟩ := ok_yes h
    by_cases hz : key = 0
    · exact .inl ⟨70, .inr rfl, by unfold ag; rw [h, if_pos rfl, if_pos hz]⟩
    by_cases hk : kq key = 0
    · exact .inl ⟨2, .inl rfl, by unfold ag; rw [h, if_pos rfl, if_neg hz, if_pos hk]⟩
    · cases hh : hit l b p (max cnt 1).toNat (sh (ky t (kq key))) (ky t (kq key)) with
      | none => exact .inl ⟨70, .inr rfl, by unfold ag; rw [h, if_pos rfl, if_neg hz, if_neg hk, Int.toNat_natCast, hh]; rfl⟩
      | some q => exact .inr ⟨p, q, rfl, hp, hk, hh, by unfold ag; rw [h, if_pos rfl, if_neg hz, if_neg hk, Int.toNat_natCast, hh]; rfl⟩
/-- what SeekOn asks, as plain data: refused, or ahead, or back -/
theorem on_cases (l : List UInt8) (i cnt key b : Int) (t : Bool) : (∃ z : Int, (z = 2 ∨ z = 70) ∧ ag l i cnt key b t = ⟨0, 0, 0, z⟩) ∨
    ((((key == 102) || (key == 116)) != t) = true ∧ ∃ x y : Int, i < y ∧ ag l i cnt key b t = ⟨x, y, 2, 0⟩) ∨ ((((key == 102) || (key == 116)) != t) = false ∧ ∃ x y : Int, y < i ∧ ag l i cnt key b t = ⟨x, y, 1, 0⟩) := by
  rcases ag_cases l i cnt key b t with h | ⟨p, q, rfl, hp, hk, hh, e⟩
  · exact .inl h
  right
  rcases kq_cases key with ⟨rfl, h⟩ | ⟨rfl, h⟩ | ⟨rfl, h⟩ | ⟨rfl, h⟩ | ⟨g1, g2, g3, g4, h⟩
  · rw [h] at hh e
    cases t
    · have := hit_up (.inl rfl) hh
      exact .inl ⟨rfl, _, _, (show (p : Int) < tov 1 q by simp only [tov, wy, sh]; omega), e⟩
    · have := hit_dn (.inl rfl) hh
      exact .inr ⟨rfl, _, _, (show tov 3 q < (p : Int) by simp only [tov, wy, sh]; omega), e⟩
  · rw [h] at hh e
    cases t
    · have := hit_up (.inr rfl) hh
      simp only [ky, sh, cond_false] at this
      exact .inl ⟨rfl, _, _, (show (p : Int) < tov 2 q by simp only [tov, wy, sh]; omega), e⟩
    · have := hit_dn (.inr rfl) hh
      simp only [ky, flip, sh, cond_true] at this
      exact .inr ⟨rfl, _, _, (show tov 4 q < (p : Int) by simp only [tov, wy, sh]; omega), e⟩
  · rw [h] at hh e
    cases t
    · have := hit_dn (.inl rfl) hh
      exact .inr ⟨rfl, _, _, (show tov 3 q < (p : Int) by simp only [tov, wy, sh]; omega), e⟩
    · have := hit_up (.inl rfl) hh
      exact .inl ⟨rfl, _, _, (show (p : Int) < tov 1 q by simp only [tov, wy, sh]; omega), e⟩
  · rw [h] at hh e
    cases t
    · have := hit_dn (.inr rfl) hh
      simp only [ky, sh, cond_false] at this
      exact .inr ⟨rfl, _, _, (show tov 4 q < (p : Int) by simp only [tov, wy, sh]; omega), e⟩
    · have := hit_up (.inr rfl) hh
      simp only [ky, flip, sh, cond_true] at this
      exact .inl ⟨rfl, _, _, (show (p : Int) < tov 2 q by simp only [tov, wy, sh]; omega), e⟩
  · exact absurd h hk
end Go.Proofs.Ytinlkeionoghdaa
