/- The lists of stops hold the stops: lines and places; no program. -/
import Derived.Test.YtkapddemgodamaaDoorBgt
import Derived.Test.YtkapddemgodamaaDoorRel
import Derived.Test.YtkapddemgodamaaDoorRse
namespace Go.Proofs.YtkapddemgodamaaDoor

theorem sp_next {l : List UInt8} {i : Nat} (h : i + 1 ≤ nl l) : en l (sp l i) < l.length ∧ sp l (i + 1) = en l (sp l i) + 1 := by
  have hs := sp_st (t := l) (n := i) (by omega)
  have he : en l (sp l i) < l.length := by
    rcases Nat.lt_or_ge (en l (sp l i)) l.length with h1 | h1
    · exact h1
    · have := hs.last (by have := en_le hs.low'; omega); omega
  exact ⟨he, sp_eq (hs.next he)⟩
theorem sp_zero (l : List UInt8) : sp l 0 = 0 := sp_eq (St.zero l)
theorem ap_sp {l : List UInt8} : ∀ {i : Nat}, i ≤ nl l → ap (ln l) i = sp l i
  | 0, _ => (sp_zero l).symm
  | i + 1, h => by
    rw [ap_succ, ap_sp (by omega), ln_length (by omega), (sp_next h).2]
    have := en_ge l (sp l i)
    omega
theorem ap_ends {l : List UInt8} {i : Nat} (h : i ≤ nl l) : ap (ln l) i + (ln l i).length = en l (sp l i) := by
  rw [ap_sp h, ln_length h]
  have := en_ge l (sp l i)
  omega
theorem en_self {l : List UInt8} {k : Nat} (hk : k ≤ l.length) : en l k = k ↔ (k = l.length ∨ bi l k = 10) := by
  constructor
  · intro e
    rcases Nat.lt_or_ge k l.length with h | h
    · have := en_edge (t := l) (s := k) (by omega)
      rw [e, le_bi] at this
      exact .inr (by simpa using this)
    · exact .inl (by omega)
  · intro e
    refine en_eq (Nat.le_refl _) hk (fun j h1 h2 => by omega) ?_
    rcases e with e | e
    · exact .inl e
    · exact .inr (by rw [le_bi]; simpa using e)
theorem sp_edge {l : List UInt8} {i : Nat} (h : i ≤ nl l) : sp l i = 0 ∨ bi l (sp l i - 1) = 10 := by
  rcases (sp_st h).edge with e | ⟨_, e⟩
  · exact .inl e
  · rw [le_bi] at e; exact .inr (by simpa using e)
theorem emq_el {l : List UInt8} {i : Nat} (h : i ≤ nl l) : emq (nl l + 1) (ln l) i = el l (sp l i) := by
  unfold emq
  have h1 := sp_le h
  rw [Bool.eq_iff_iff, decide_eq_true_iff, Int.toNat_natCast, ln_length h, el_iff h1]
  have h2 := en_self h1
  have h3 := en_ge l (sp l i)
  constructor
  · rintro ⟨_, _, e⟩; exact ⟨h2.1 (by omega), sp_edge h⟩
  · rintro ⟨e, _⟩; have := h2.2 e; exact ⟨by omega, by omega, by omega⟩
theorem line_of {l : List UInt8} {q : Nat} (hq : q ≤ l.length) (h : q = 0 ∨ bi l (q - 1) = 10) : nl (l.take q) ≤ nl l ∧ sp l (nl (l.take q)) = q := by
  refine ⟨nl_take_le l q, ?_⟩
  rw [sp_of l q hq]
  rcases Nat.eq_zero_or_pos q with e | e
  · subst e; have := bg_le l 0; omega
  · exact (bg_iff e).2 (by rcases h with h | h; omega; exact h)
/-- the line ahead of a line: is it empty? -/
theorem ahead {l : List UInt8} {i : Nat} (h : i + 1 ≤ nl l) : el l (sp l i) = el l (sp l (i + 1) - 1) := by
  obtain ⟨h1, h2⟩ := sp_next h
  have h3 := en_ge l (sp l i)
  rw [h2, Nat.add_sub_cancel]
  rcases Nat.eq_or_lt_of_le h3 with e | e
  · rw [← e]
  · have a1 : el l (sp l i) = false := by
      cases hh : el l (sp l i) with
      | false => rfl
      | true => have := (en_self (by omega)).2 ((el_iff (by omega)).1 hh).1; omega
    have a2 : el l (en l (sp l i)) = false := by
      cases hh : el l (en l (sp l i)) with
      | false => rfl
      | true =>
        have hx := ((el_iff (by omega)).1 hh).2
        have hn := en_none (t := l) (s := sp l i) (j := en l (sp l i) - 1) (by omega) (by omega)
        rw [le_bi] at hn
        rcases hx with hx | hx
        · omega
        · rw [hx] at hn; simp at hn
    rw [a1, a2]
theorem nl_pos {l : List UInt8} {q : Nat} (hq : q ≤ l.length) (h0 : 0 < q) (h : bi l (q - 1) = 10) : 1 ≤ nl (l.take q) := by
  obtain ⟨j, rfl⟩ : ∃ j, q = j + 1 := ⟨q - 1, by omega⟩
  rw [nl_take l j (by omega), if_pos (by rw [le_bi]; simpa using h)]
  omega
theorem pas_mem (K : Nat) (f : Nat → List UInt8) (down : Bool) (q : Nat) : ∀ k, q ∈ pas K f down k ↔ ∃ i, i < k ∧ pcd K f down i = true ∧ q = ap f i
  | 0 => by simp [pas]
  | k + 1 => by
    unfold pas
    rw [List.mem_append, pas_mem K f down q k]
    constructor
    · rintro (⟨i, h1, h2, h3⟩ | h)
      · exact ⟨i, by omega, h2, h3⟩
      · split at h
        · next hp => exact ⟨k, by omega, hp, by simpa using h⟩
        · cases h
    · rintro ⟨i, h1, h2, h3⟩
      rcases Nat.eq_or_lt_of_le (show i ≤ k by omega) with e | e
      · subst e; right; rw [if_pos h2]; simpa using h3
      · exact .inl ⟨i, e, h2, h3⟩
theorem ap_lt (f : Nat → List UInt8) : ∀ {i j : Nat}, i < j → ap f i + (f i).length < ap f j
  | i, 0, h => by omega
  | i, j + 1, h => by
    rw [ap_succ]
    rcases Nat.eq_or_lt_of_le (show i ≤ j by omega) with e | e
    · subst e; omega
    · have := ap_lt f e; omega
theorem pas_up (K : Nat) (f : Nat → List UInt8) (down : Bool) : ∀ k, (pas K f down k).Pairwise (· < ·)
  | 0 => List.Pairwise.nil
  | k + 1 => by
    unfold pas
    rw [List.pairwise_append]
    refine ⟨pas_up K f down k, by split <;> simp, fun x hx y hy => ?_⟩
    obtain ⟨i, h1, _, rfl⟩ := (pas_mem K f down x k).1 hx
    split at hy
    · have : y = ap f k := by simpa using hy
      have := ap_lt f h1
      omega
    · cases hy
/-- the paragraphs' stops -/
theorem pas_sl_down (l : List UInt8) : Sl (pas (nl l + 1) (ln l) true (nl l + 1)) (be l) l.length := by
  refine ⟨pas_up _ _ _ _, fun x hx => ?_, fun q h0 hq => ?_⟩
  · obtain ⟨i, h1, _, rfl⟩ := (pas_mem _ _ _ x _).1 hx
    rw [ap_sp (by omega)]; exact sp_le (by omega)
  · rw [pas_mem]
    constructor
    · rintro ⟨i, h1, h2, rfl⟩
      rw [ap_sp (by omega)] at h0 hq ⊢
      unfold pcd oth at h2
      simp only [if_true, Bool.and_eq_true, decide_eq_true_iff, Bool.not_eq_true'] at h2
      obtain ⟨⟨⟨e1, e2⟩, e3⟩, e4⟩ := h2
      obtain ⟨j, rfl⟩ : ∃ j, i = j + 1 := ⟨i - 1, by omega⟩
      rw [emq_el (by omega)] at e1
      rw [show ((j + 1 : Nat) : Int) - 1 = (j : Int) by omega, emq_el (by omega), ahead (by omega)] at e4
      unfold be
      rw [e1, e4]; rfl
    · intro hb
      unfold be at hb
      rw [Bool.and_eq_true, Bool.not_eq_true'] at hb
      have hx := (el_iff (by omega)).1 hb.1
      have hb1 : bi l (q - 1) = 10 := by rcases hx.2 with e | e; omega; exact e
      obtain ⟨g1, g2⟩ := line_of (l := l) (q := q) (by omega) (.inr hb1)
      have g3 := nl_pos (by omega) h0 hb1
      refine ⟨nl (l.take q), by omega, ?_, by rw [ap_sp g1, g2]⟩
      obtain ⟨j, hj⟩ : ∃ j, nl (l.take q) = j + 1 := ⟨nl (l.take q) - 1, by omega⟩
      rw [hj] at g1 g2 ⊢
      unfold pcd oth
      have e1 : emq (nl l + 1) (ln l) ((j + 1 : Nat) : Int) = true := by rw [emq_el g1, g2]; exact hb.1
      have e2 : emq (nl l + 1) (ln l) ((j : Nat) : Int) = false := by rw [emq_el (by omega), ahead g1, g2]; exact hb.2
      simp only [if_true]
      rw [show ((j + 1 : Nat) : Int) - 1 = (j : Int) by omega, e1, e2, decide_eq_true (by omega), decide_eq_true (by omega)]
      rfl
theorem pas_sl_up (l : List UInt8) : Sl (pas (nl l + 1) (ln l) false (nl l + 1)) (ee l) l.length := by
  refine ⟨pas_up _ _ _ _, fun x hx => ?_, fun q h0 hq => ?_⟩
  · obtain ⟨i, h1, _, rfl⟩ := (pas_mem _ _ _ x _).1 hx
    rw [ap_sp (by omega)]; exact sp_le (by omega)
  · have key : ∀ i, i ≤ nl l → sp l i = q → el l q = true → i + 1 ≤ nl l ∧ sp l (i + 1) = q + 1 := fun i hi hs he => by
      have h10 := ((el_iff (by omega)).1 he).1
      have hen : en l q = q := (en_self (by omega)).2 h10
      have hst := (sp_st hi).next (by rw [hs, hen]; exact hq)
      rw [hs, hen] at hst
      exact ⟨hst.low, sp_eq hst⟩
    rw [pas_mem]
    constructor
    · rintro ⟨i, h1, h2, rfl⟩
      rw [ap_sp (by omega)] at h0 hq key ⊢
      unfold pcd oth at h2
      simp only [Bool.false_eq_true, if_false, Bool.and_eq_true, decide_eq_true_iff, Bool.not_eq_true'] at h2
      obtain ⟨⟨⟨e1, e2⟩, e3⟩, e4⟩ := h2
      rw [emq_el (by omega)] at e1
      obtain ⟨k1, k2⟩ := key i (by omega) rfl e1
      rw [show (i : Int) + 1 = ((i + 1 : Nat) : Int) by omega, emq_el k1, k2] at e4
      unfold ee
      rw [e1, e4]; rfl
    · intro hb
      unfold ee at hb
      rw [Bool.and_eq_true, Bool.not_eq_true'] at hb
      have hx := (el_iff (by omega)).1 hb.1
      obtain ⟨g1, g2⟩ := line_of (l := l) (q := q) (by omega) hx.2
      obtain ⟨k1, k2⟩ := key _ g1 g2 hb.1
      refine ⟨nl (l.take q), by omega, ?_, by rw [ap_sp g1, g2]⟩
      unfold pcd oth
      have e1 : emq (nl l + 1) (ln l) ((nl (l.take q) : Nat) : Int) = true := by rw [emq_el g1, g2]; exact hb.1
      have e2 : emq (nl l + 1) (ln l) ((nl (l.take q) + 1 : Nat) : Int) = false := by rw [emq_el k1, k2]; exact hb.2
      simp only [Bool.false_eq_true, if_false]
      rw [show ((nl (l.take q) : Nat) : Int) + 1 = ((nl (l.take q) + 1 : Nat) : Int) by omega, e1, e2, decide_eq_true (by omega), decide_eq_true (by omega)]
      rfl
end Go.Proofs.YtkapddemgodamaaDoor
