/- The reference's list of hits, place by place (pure); its counting. -/
import Derived.Test.YtaakgoojcogbcaaXi
namespace Go.Proofs.Ytaakgoojcogbcaa
open Go.RowKit
/-- the hits of the first q places -/
def hr (l : List Th) (t : List UInt8) : Nat → List Nat
  | 0 => []
  | q + 1 => if mp l t q = true then (if (hr l t q).getLast? = some (rs t q) then hr l t q else hr l t q ++ [rs t q]) else hr l t q
section
variable {l : List Th} {t : List UInt8}
theorem hr_mem : ∀ {q x : Nat}, x ∈ hr l t q ↔ ∃ p, p < q ∧ mp l t p = true ∧ rs t p = x
  | 0, x => by simp [hr]
  | q + 1, x => by
    have ih := hr_mem (q := q) (x := x)
    unfold hr
    by_cases h : mp l t q = true
    · rw [if_pos h]
      by_cases h2 : (hr l t q).getLast? = some (rs t q)
      · rw [if_pos h2, ih]
        refine ⟨fun ⟨p, a, b, c⟩ => ⟨p, by omega, b, c⟩, fun ⟨p, a, b, c⟩ => ?_⟩
        rcases Nat.lt_or_ge p q with g | g
        · exact ⟨p, g, b, c⟩
        · have : p = q := by omega
          subst this
          have hm := List.mem_of_getLast? h2
          rw [c] at hm
          exact ih.1 hm
      · rw [if_neg h2, List.mem_append, ih, List.mem_singleton]
        refine ⟨fun hh => ?_, fun ⟨p, a, b, c⟩ => ?_⟩
        · rcases hh with ⟨p, a, b, c⟩ | hh
          · exact ⟨p, by omega, b, c⟩
          · exact ⟨q, by omega, h, hh.symm⟩
        · rcases Nat.lt_or_ge p q with g | g
          · exact .inl ⟨p, g, b, c⟩
          · have : p = q := by omega
            subst this
            exact .inr c.symm
    · rw [if_neg h, ih]
      refine ⟨fun ⟨p, a, b, c⟩ => ⟨p, by omega, b, c⟩, fun ⟨p, a, b, c⟩ => ?_⟩
      rcases Nat.lt_or_ge p q with g | g
      · exact ⟨p, g, b, c⟩
      · have : p = q := by omega
        subst this
        exact absurd b h
theorem hr_le {q x : Nat} (h : x ∈ hr l t q) : x ≤ rs t q := by
  obtain ⟨p, a, _, rfl⟩ := hr_mem.1 h
  exact rs_mono (by omega)
theorem getLast_le : ∀ {H : List Nat} {y : Nat}, Ris H → H.getLast? = some y → ∀ x, x ∈ H → x ≤ y := by
  intro H y hr hl x hx
  obtain ⟨i, hi, rfl⟩ := List.mem_iff_getElem.1 hx
  have hn : 0 < H.length := by omega
  have : y = H[H.length - 1] := by
    rw [List.getLast?_eq_getElem?, List.getElem?_eq_getElem (by omega)] at hl
    injection hl with hl
    exact hl.symm
  rw [this]
  exact (ris_le hr hi (by omega)).2 (by omega)
theorem hr_ris : ∀ q, Ris (hr l t q)
  | 0 => List.Pairwise.nil
  | q + 1 => by
    have ih := hr_ris q
    unfold hr
    by_cases h : mp l t q = true
    · rw [if_pos h]
      by_cases h2 : (hr l t q).getLast? = some (rs t q)
      · rw [if_pos h2]; exact ih
      · rw [if_neg h2]
        refine List.pairwise_append.2 ⟨ih, List.pairwise_singleton _ _, fun a ha b hb => ?_⟩
        rw [List.mem_singleton] at hb
        subst hb
        have h3 := hr_le ha
        rcases Nat.lt_or_ge a (rs t q) with g | g
        · exact g
        · have e : a = rs t q := by omega
          exfalso
          apply h2
          cases hl : (hr l t q).getLast? with
          | none =>
            rw [List.getLast?_eq_none_iff] at hl
            rw [hl] at ha; cases ha
          | some y =>
            have h4 := getLast_le ih hl a ha
            have h5 := hr_le (List.mem_of_getLast? hl)
            congr 1; omega
    · rw [if_neg h]; exact ih
theorem ris_ext : ∀ {A B : List Nat}, Ris A → Ris B → (∀ x, x ∈ A ↔ x ∈ B) → A = B
  | [], [], _, _, _ => rfl
  | [], b :: B, _, _, h => by have := (h b).2 (by simp); cases this
  | a :: A, [], _, _, h => by have := (h a).1 (by simp); cases this
  | a :: A, b :: B, ha, hb, h => by
    rw [Ris, List.pairwise_cons] at ha hb
    have e : a = b := by
      have h1 := (h a).1 (by simp)
      have h2 := (h b).2 (by simp)
      rcases List.mem_cons.1 h1 with e | e
      · exact e
      · rcases List.mem_cons.1 h2 with e2 | e2
        · exact e2.symm
        · have := ha.1 b e2; have := hb.1 a e; omega
    subst e
    rw [ris_ext ha.2 hb.2 (fun x => ?_)]
    have hx := h x
    constructor
    · intro hm
      have h1 := ha.1 x hm
      have := hx.1 (List.mem_cons_of_mem _ hm)
      rcases List.mem_cons.1 this with e | e
      · omega
      · exact e
    · intro hm
      have h1 := hb.1 x hm
      have := hx.2 (List.mem_cons_of_mem _ hm)
      rcases List.mem_cons.1 this with e | e
      · omega
      · exact e
theorem hr_end : hr l t (t.length + 1) = hs l t := by
  refine ris_ext (hr_ris _) hs_ris fun x => ?_
  rw [hr_mem, hs_iff]
  exact ⟨fun ⟨p, _, b, c⟩ => ⟨p, b, c⟩, fun ⟨p, b, c⟩ => ⟨p, by have := mp_le b; omega, b, c⟩⟩
theorem hr_skip {q : Nat} : ∀ j, (∀ p, q ≤ p → p < q + j → mp l t p = false) → hr l t (q + j) = hr l t q
  | 0, _ => rfl
  | j + 1, h => by
    rw [show q + (j + 1) = q + j + 1 by omega]
    show (if mp l t (q + j) = true then _ else hr l t (q + j)) = _
    rw [if_neg (by rw [h (q + j) (by omega) (by omega)]; decide)]
    exact hr_skip j fun p a b => h p a (by omega)
theorem hr_len (q : Nat) : (hr l t q).length ≤ q := by
  induction q with
  | zero => exact Nat.le_refl _
  | succ q ih =>
    unfold hr
    split
    · split
      · omega
      · rw [List.length_append]; simp; omega
    · omega
theorem hr_hit {q : Nat} (h : mp l t q = true) : hr l t (q + 1) = if (hr l t q).getLast? = some (rs t q) then hr l t q else hr l t q ++ [rs t q] := by
  show (if mp l t q = true then _ else _) = _
  rw [if_pos h]
end
/-- truncated and back -/
theorem tmod_back (d m n : Nat) (hn : 0 < n) : Int.tmod (Int.tmod ((d : Int) - (m : Int)) (n : Int) + (n : Int)) (n : Int) = (((d + m * (n - 1)) % n : Nat) : Int) := by
  have hn' : (0 : Int) < (n : Int) := by omega
  have h1 : Int.tmod ((d : Int) - m) n = ((d : Int) - m) - n * Int.tdiv ((d : Int) - m) n := by have := Int.tmod_add_mul_tdiv ((d : Int) - m) n; omega
  have h2 : -(n : Int) < Int.tmod ((d : Int) - m) n := by
    by_cases hmd : m ≤ d
    · have : 0 ≤ Int.tmod ((d : Int) - m) n := Int.tmod_nonneg _ (by omega)
      omega
    · rw [show (d : Int) - m = -((m - d : Nat) : Int) by omega, Int.neg_tmod]
      have := Int.tmod_lt_of_pos ((m - d : Nat) : Int) hn'
      omega
  rw [Int.tmod_eq_emod_of_nonneg (by omega)]
  have h3 : (((d + m * (n - 1)) % n : Nat) : Int) = ((d : Int) - m + n * m) % n := by
    rw [Int.natCast_emod]
    congr 1
    rw [Int.natCast_add, Int.natCast_mul]
    have : ((n - 1 : Nat) : Int) = (n : Int) - 1 := by omega
    rw [this, Int.mul_sub, Int.mul_one, Int.mul_comm]
    omega
  rw [h3, h1, Int.add_mul_emod_self_left, Int.add_emod_right, Int.sub_mul_emod_self_left]
end Go.Proofs.Ytaakgoojcogbcaa
