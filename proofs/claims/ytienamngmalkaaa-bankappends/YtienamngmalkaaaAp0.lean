/- What is put behind a content, told apart. -/
import Derived.Test.YtienamngmalkaaaPur
namespace Go.Proofs.Ytienamngmalkaaa
/-- what the new content adds behind the line end -/
def tel (t : List UInt8) : List UInt8 := if t = [] then [] else wle t
theorem enl_wle (o : List UInt8) : enl (wle o) = true := by
  unfold wle
  cases h : enl o with
  | true => rw [if_pos rfl]; exact h
  | false => rw [if_neg (by simp)]; unfold enl; simp
theorem enl_app (o t : List UInt8) (h : t ≠ []) : enl (o ++ t) = enl t := by
  unfold enl
  rw [List.getLastD_eq_getLast?, List.getLastD_eq_getLast?, List.getLast?_append, List.getLast?_eq_some_getLast h]
  rfl
theorem bht_lines {ol l : Bool} (h : (ol || l) = true) (o t : List UInt8) : bht ol l o t = o ++ ((if enl o then [] else [10]) ++ tel t) := by
  have e1 : wle o = o ++ (if enl o then [] else [10]) := by unfold wle; cases enl o <;> simp
  unfold bht tel
  rw [if_pos h]
  by_cases ht : t = []
  · rw [if_pos ht, ht, List.append_nil, List.append_nil, ← e1]
    have := enl_wle o
    generalize wle o = z at *
    unfold wle
    rw [if_pos this]
  · rw [if_neg ht, ← List.append_assoc, ← e1]
    generalize wle o = z
    unfold wle
    rw [enl_app z t ht]
    cases enl t <;> simp
theorem bht_plain {ol l : Bool} (h : (ol || l) = false) (o t : List UInt8) : bht ol l o t = o ++ t := by unfold bht; rw [if_neg (by simp [h])]
theorem rix_small {j : Nat} (hj : j < 26) : rix (97 + j) = some (11 + j) := by unfold rix; rw [if_neg (by omega), if_neg (by omega), if_neg (by omega), if_pos (by omega)]; congr 1; omega
theorem rix_great {j : Nat} (hj : j < 26) : rix (65 + j) = some (11 + j) := by unfold rix; rw [if_neg (by omega), if_neg (by omega), if_neg (by omega), if_neg (by omega), if_pos (by omega)]; congr 1; omega
/-- what a Put behind a letter's content leaves there -/
theorem put_great {P : List Ct} (hP : P.length = 37) {j : Nat} (hj : j < 26) {s l : Bool} {t : List UInt8} (h : (putP P (65 + j) 1 ⟨s, l, t⟩).2 = 0) :
    (l = true → enl t = true) ∧ ((P.getD (11 + j) zc).s = false ∧ getP P (97 + j) = (zc, 151) ∧ getP (putP P (65 + j) 1 ⟨s, l, t⟩).1 (97 + j) = (⟨true, l, t⟩, 0) ∨
      ∃ ol ot, getP P (97 + j) = (⟨true, ol, ot⟩, 0) ∧ getP (putP P (65 + j) 1 ⟨s, l, t⟩).1 (97 + j) = (⟨true, ol || l, bht ol l ot t⟩, 0) ∧ (bht ol l ot t).length ≤ 65536) := by
  obtain ⟨k, h1, h2, h3, h4, h5, h6⟩ := putP_ok h
  rw [rix_great hj] at h1
  injection h1 with h1
  subst h1
  refine ⟨fun hl => by subst hl; simpa using h4, ?_⟩
  have hg := getP_of (rix_small hj) (putB_self hP (by omega : 11 + j < 37) 1 (putD P (65 + j) (11 + j) ⟨s, l, t⟩))
  rw [h6, hg, putD_s, if_pos rfl]
  have hgt : grt (65 + j) = true := by unfold grt; simp; omega
  cases hs : (P.getD (11 + j) zc).s with
  | false =>
    refine .inl ⟨rfl, ?_, ?_⟩
    · unfold getP; rw [rix_small hj]; dsimp only; rw [hs]; rfl
    · unfold putD; rw [hgt, hs]; rfl
  | true =>
    obtain ⟨⟨cs, cl, cot⟩, hc⟩ : ∃ z, P.getD (11 + j) zc = z := ⟨_, rfl⟩
    rw [hc] at hs
    dsimp only at hs
    subst hs
    have hd : putD P (65 + j) (11 + j) ⟨s, l, t⟩ = ⟨true, cl || l, bht cl l cot t⟩ := by unfold putD; rw [hgt, hc]; rfl
    rw [hd] at h5 ⊢
    refine .inr ⟨cl, cot, ?_, rfl, h5⟩
    unfold getP; rw [rix_small hj]; dsimp only; rw [hc]; rfl
end Go.Proofs.Ytienamngmalkaaa
