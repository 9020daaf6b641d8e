/- The lists of stops hold the stops: the double line end; no program. -/
import Derived.Test.YtkapddemgodamaaDoorBgs
namespace Go.Proofs.YtkapddemgodamaaDoor

theorem occ_two (s : List UInt8) (i : Nat) : Lib.occAt s [10, 10] i = true ↔ s[i]? = some (10 : UInt8) ∧ s[i + 1]? = some (10 : UInt8) := by
  unfold Lib.occAt
  have e0 : s[i]? = (s.drop i)[0]? := by rw [List.getElem?_drop, Nat.add_zero]
  have e1 : s[i + 1]? = (s.drop i)[1]? := by rw [List.getElem?_drop]
  rw [e0, e1]
  generalize s.drop i = t
  match t with
  | [] => simp [List.isPrefixOf]
  | [a] => simp [List.isPrefixOf]
  | a :: b :: r => simp [List.isPrefixOf]; constructor <;> (rintro ⟨h1, h2⟩; exact ⟨h1.symm, h2.symm⟩)
theorem contains_iff (s : List UInt8) : Lib.contains s [10, 10] = true ↔ ∃ i, s[i]? = some (10 : UInt8) ∧ s[i + 1]? = some (10 : UInt8) := by
  unfold Lib.contains
  rw [decide_eq_true_iff]
  rcases Lib.index_spec s [10, 10] with ⟨h1, h2⟩ | ⟨i, h1, h2, h3⟩
  · rw [h1]
    constructor
    · intro h; omega
    · rintro ⟨i, h3, h4⟩
      have hi : i < s.length := (List.getElem?_eq_some_iff.1 h3).1
      have := h2 i (by omega)
      rw [(occ_two s i).2 ⟨h3, h4⟩] at this
      cases this
  · rw [h1]
    exact ⟨fun _ => ⟨i, (occ_two s i).1 h3.1⟩, fun _ => by omega⟩
theorem mid_at {l : List UInt8} {a b i : Nat} (hb : b ≤ l.length) : (mid l a b)[i]? = some (10 : UInt8) ↔ a + i < b ∧ bi l (a + i) = 10 := by
  unfold mid
  rw [List.getElem?_take, List.getElem?_drop]
  by_cases h : i < b - a
  · rw [if_pos h]
    have hl : a + i < l.length := by omega
    rw [List.getElem?_eq_getElem hl]
    unfold bi at8
    rw [List.getD_eq_getElem?_getD, List.getElem?_eq_getElem hl]
    simp only [Option.some.injEq, Option.getD_some]
    constructor
    · intro e; rw [e]; exact ⟨by omega, rfl⟩
    · rintro ⟨_, e⟩; exact UInt8.toNat_inj.1 (by have : (10 : UInt8).toNat = 10 := rfl; omega)
  · rw [if_neg h]
    constructor
    · intro e; cases e
    · rintro ⟨e, _⟩; omega
theorem contains_dbl {l : List UInt8} {a b : Nat} (hb : b ≤ l.length) : Lib.contains (mid l a b) [10, 10] = true ↔ ∃ j, a < j ∧ j < b ∧ bi l j = 10 ∧ bi l (j - 1) = 10 := by
  rw [contains_iff]
  constructor
  · rintro ⟨i, h1, h2⟩
    rw [mid_at hb] at h1 h2
    exact ⟨a + (i + 1), by omega, h2.1, h2.2, by rw [show a + (i + 1) - 1 = a + i by omega]; exact h1.2⟩
  · rintro ⟨j, h1, h2, h3, h4⟩
    refine ⟨j - 1 - a, (mid_at hb).2 ⟨by omega, ?_⟩, (mid_at hb).2 ⟨by omega, ?_⟩⟩
    · rw [show a + (j - 1 - a) = j - 1 by omega]; exact h4
    · rw [show a + (j - 1 - a + 1) = j by omega]; exact h3
/-- one and the same -/
theorem bs_bgr {l : List UInt8} {q : Nat} (hq : q < l.length) : bs l q = (!gab (bi l q) && bgr l q q) := by
  unfold bs
  rw [gp_gab hq]
  congr 1
  rw [Bool.eq_iff_iff, bgr_iff hq q (Nat.le_refl _), Bool.or_eq_true, Bool.or_eq_true, Bool.and_eq_true, decide_eq_true_iff, decide_eq_true_iff, contains_dbl (by omega)]
  have hg := gs_le l q
  rw [es_fin (by omega)]
  constructor
  · rintro ((h | ⟨h1, h2⟩) | ⟨j, h1, h2, h3, h4⟩)
    · exact .inl h
    · rcases Nat.eq_zero_or_pos (gs l q) with e | e
      · exact .inl e
      · exact .inr (.inr ⟨e, h1, h2⟩)
    · exact .inr (.inl ⟨j, by omega, h2, by omega, h3, h4⟩)
  · rintro (h | ⟨j, h1, h2, h3, h4, h5⟩ | ⟨h1, h2, h3⟩)
    · exact .inl (.inl h)
    · rcases Nat.eq_or_lt_of_le h1 with e | e
      · exfalso
        have := gs_edge (l := l) (k := q) (by omega) (by omega)
        rw [e] at this
        unfold gab at this
        rw [h5] at this
        simp at this
      · exact .inr ⟨j, e, h2, h4, h5⟩
    · exact .inl (.inr ⟨h2, h3⟩)
end Go.Proofs.YtkapddemgodamaaDoor
