/- Lines and places of a text, as plain lists: how many line ends, where a line begins, where it ends; no program. -/
import Derived.Test.YtbknnicpdkpmiaaRows
import Derived.Lib.Bytealg
namespace Go.Proofs.Ytbknnicpdkpmiaa

/-- is a byte a line end -/
def le (b : UInt8) : Bool := ((b.toNat : Int) == 10)
theorem le_ten (b : UInt8) : le b = (b == 10) := by
  unfold le
  rw [Bool.eq_iff_iff]
  simp only [beq_iff_eq]
  constructor
  · intro h
    have h1 : b.toNat = 10 := by omega
    exact UInt8.toNat_inj.1 (by rw [h1]; rfl)
  · rintro rfl; rfl
/-- how many line ends -/
def nl (t : List UInt8) : Nat := t.countP le
/-- byte number i, 0 beyond the end -/
def at8 (t : List UInt8) (i : Nat) : UInt8 := t.getD i 0
theorem at8_eq {t : List UInt8} {i : Nat} (h : i < t.length) : at8 t i = t[i] := by simp [at8, h]
theorem nl_le (t : List UInt8) : nl t ≤ t.length := List.countP_le_length
theorem nl_nil : nl [] = 0 := rfl
theorem nl_append (a b : List UInt8) : nl (a ++ b) = nl a + nl b := List.countP_append
theorem nl_count (t : List UInt8) : Lib.countByte t (10 : UInt8) = nl t := by
  unfold Lib.countByte nl List.count
  exact List.countP_congr fun b _ => by rw [le_ten]
theorem nl_take (t : List UInt8) (j : Nat) (h : j < t.length) : nl (t.take (j + 1)) = nl (t.take j) + if le (at8 t j) then 1 else 0 := by
  rw [List.take_succ_eq_append_getElem h, nl_append, at8_eq h]
  unfold nl
  simp [List.countP_cons]
theorem nl_mono (t : List UInt8) (i j : Nat) (h : i ≤ j) : nl (t.take i) ≤ nl (t.take j) := by
  have : t.take j = t.take i ++ (t.drop i).take (j - i) := by
    rw [← List.take_add]; congr 1; omega
  rw [this, nl_append]; omega
theorem nl_take_le (t : List UInt8) (i : Nat) : nl (t.take i) ≤ nl t := by
  have h := nl_append (t.take i) (t.drop i)
  rw [List.take_append_drop] at h
  omega

/-- s is where line number n begins -/
structure St (t : List UInt8) (n s : Nat) : Prop where
  low' : s ≤ t.length
  num : nl (t.take s) = n
  edge : s = 0 ∨ (0 < s ∧ le (at8 t (s - 1)) = true)

theorem St.zero (t : List UInt8) : St t 0 0 := ⟨Nat.zero_le _, rfl, .inl rfl⟩
theorem St.low {t : List UInt8} {n s : Nat} (h : St t n s) : n ≤ nl t := by rw [← h.num]; exact nl_take_le t s
theorem St.lt {t : List UInt8} {n s m p : Nat} (h : St t n s) (g : St t m p) (hp : s < p) : n < m := by
  have h1 := nl_mono t s (p - 1) (by omega)
  have h2 := nl_take t (p - 1) (by have := g.low'; omega)
  have h3 : le (at8 t (p - 1)) = true := by rcases g.edge with h | h; omega; exact h.2
  rw [h3, show p - 1 + 1 = p from by omega, g.num] at h2
  have := h.num
  simp at h2
  omega
theorem St.one {t : List UInt8} {n s p : Nat} (h : St t n s) (g : St t n p) : s = p := by
  rcases Nat.lt_trichotomy s p with hh | hh | hh
  · exact absurd (h.lt g hh) (Nat.lt_irrefl _)
  · exact hh
  · exact absurd (g.lt h hh) (Nat.lt_irrefl _)

/-- where the line of a place begins -/
def bg (t : List UInt8) : Nat → Nat
  | 0 => 0
  | i + 1 => if le (at8 t i) then i + 1 else bg t i
theorem bg_le (t : List UInt8) : ∀ i, bg t i ≤ i
  | 0 => Nat.le_refl _
  | i + 1 => by
    have := bg_le t i
    unfold bg; split <;> omega
theorem bg_st (t : List UInt8) : ∀ i, i ≤ t.length → St t (nl (t.take i)) (bg t i)
  | 0, _ => ⟨Nat.zero_le _, rfl, .inl rfl⟩
  | i + 1, h => by
    have ih := bg_st t i (by omega)
    have e := nl_take t i (by omega)
    unfold bg
    by_cases hb : le (at8 t i) = true
    · rw [if_pos hb]
      exact ⟨h, rfl, .inr ⟨by omega, by simpa using hb⟩⟩
    · rw [if_neg hb]
      rw [if_neg hb] at e
      rw [e]
      exact ih
theorem bg_self {t : List UInt8} {n s : Nat} (h : St t n s) : bg t s = s := by
  have g := bg_st t s h.low'
  rw [h.num] at g
  exact g.one h
theorem bg_none (t : List UInt8) : ∀ i j, bg t i ≤ j → j < i → le (at8 t j) = false
  | 0, j, _, h => by omega
  | i + 1, j, h1, h2 => by
    unfold bg at h1
    by_cases hb : le (at8 t i) = true
    · rw [if_pos hb] at h1; omega
    · rw [if_neg hb] at h1
      rcases Nat.lt_or_ge j i with h | h
      · exact bg_none t i j h1 h
      · obtain rfl : j = i := by omega
        simpa using hb

/-- the last place among the first i whose line is number n -/
def ps (t : List UInt8) (n : Nat) : Nat → Nat
  | 0 => 0
  | i + 1 => if nl (t.take (i + 1)) = n then i + 1 else ps t n i
theorem ps_le (t : List UInt8) (n : Nat) : ∀ i, ps t n i ≤ i
  | 0 => Nat.le_refl _
  | i + 1 => by
    have := ps_le t n i
    unfold ps; split <;> omega
theorem ps_num (t : List UInt8) (n : Nat) : ∀ i, i ≤ t.length → n ≤ nl (t.take i) → nl (t.take (ps t n i)) = n
  | 0, _, h => by simp [nl] at h; rw [h]; rfl
  | i + 1, hi, h => by
    unfold ps
    split
    · assumption
    · have e := nl_take t i (by omega)
      refine ps_num t n i (by omega) ?_
      split at e <;> omega
/-- where line number n begins, of a line that there is -/
def sp (t : List UInt8) (n : Nat) : Nat := bg t (ps t n t.length)
theorem sp_st {t : List UInt8} {n : Nat} (h : n ≤ nl t) : St t n (sp t n) := by
  have h1 := ps_num t n t.length (Nat.le_refl _) (by rw [List.take_length]; exact h)
  have h2 := bg_st t (ps t n t.length) (ps_le t n _)
  rwa [h1] at h2
theorem sp_eq {t : List UInt8} {n s : Nat} (h : St t n s) : sp t n = s := (sp_st h.low).one h
theorem sp_le {t : List UInt8} {n : Nat} (h : n ≤ nl t) : sp t n ≤ t.length := (sp_st h).low'
theorem sp_of (t : List UInt8) (i : Nat) (h : i ≤ t.length) : sp t (nl (t.take i)) = bg t i := sp_eq (bg_st t i h)

/-- where the line ends that begins at s (or holds the place s) -/
def en (t : List UInt8) (s : Nat) : Nat := s + (t.drop s).findIdx le
theorem en_ge (t : List UInt8) (s : Nat) : s ≤ en t s := Nat.le_add_right _ _
theorem en_le {t : List UInt8} {s : Nat} (h : s ≤ t.length) : en t s ≤ t.length := by
  unfold en
  have : (t.drop s).findIdx le ≤ (t.drop s).length := List.findIdx_le_length
  simp at this
  omega
theorem en_none {t : List UInt8} {s j : Nat} (h1 : s ≤ j) (h2 : j < en t s) : le (at8 t j) = false := by
  unfold en at h2
  have h3 : (t.drop s).findIdx le ≤ (t.drop s).length := List.findIdx_le_length
  have hl : j < t.length := by simp at h3; omega
  have h := List.not_of_lt_findIdx (p := le) (xs := t.drop s) (i := j - s) (by omega)
  rw [at8_eq hl]
  simpa [show s + (j - s) = j from by omega] using h
theorem en_edge {t : List UInt8} {s : Nat} (h : en t s < t.length) : le (at8 t (en t s)) = true := by
  rw [at8_eq h]
  unfold en at *
  have h2 : (t.drop s).findIdx le < (t.drop s).length := by simp; omega
  have := List.findIdx_getElem (p := le) (xs := t.drop s) (w := h2)
  simpa using this
/-- an end, by its words -/
theorem en_eq {t : List UInt8} {s e : Nat} (h1 : s ≤ e) (h2 : e ≤ t.length) (h3 : ∀ j, s ≤ j → j < e → le (at8 t j) = false) (h4 : e = t.length ∨ le (at8 t e) = true) : en t s = e := by
  rcases Nat.lt_trichotomy (en t s) e with h | h | h
  · have hx := en_edge (t := t) (s := s) (by omega)
    rw [h3 _ (en_ge t s) h] at hx; simp at hx
  · exact h
  · rcases h4 with h4 | h4
    · have := en_le (t := t) (s := s) (by omega); omega
    · rw [en_none h1 h] at h4; simp at h4
theorem nl_flat {t : List UInt8} {s : Nat} : ∀ j, s + j ≤ en t s → s ≤ t.length → nl (t.take (s + j)) = nl (t.take s)
  | 0, _, _ => rfl
  | j + 1, h, hs => by
    have hl := en_le hs
    have := nl_take t (s + j) (by omega)
    rw [en_none (t := t) (s := s) (j := s + j) (by omega) (by omega)] at this
    rw [show s + (j + 1) = s + j + 1 from by omega, this, nl_flat j (by omega) hs]
    rfl
/-- the next line -/
theorem St.next {t : List UInt8} {n s : Nat} (h : St t n s) (he : en t s < t.length) : St t (n + 1) (en t s + 1) := by
  refine ⟨by omega, ?_, .inr ⟨by omega, by simpa using en_edge he⟩⟩
  have := nl_take t (en t s) he
  rw [en_edge he] at this
  rw [this]
  have h2 := nl_flat (t := t) (s := s) (en t s - s) (by have := en_ge t s; omega) h.low'
  rw [show s + (en t s - s) = en t s from by have := en_ge t s; omega] at h2
  rw [h2, h.num]
  rfl
/-- the last line -/
theorem St.last {t : List UInt8} {n s : Nat} (h : St t n s) (he : en t s = t.length) : nl t = n := by
  have h2 := nl_flat (t := t) (s := s) (en t s - s) (by have := en_ge t s; omega) h.low'
  rw [show s + (en t s - s) = en t s from by have := en_ge t s; omega, he, List.take_length] at h2
  rw [h2, h.num]
/-- a place is in its line -/
theorem place_en {t : List UInt8} {i : Nat} (h : i ≤ t.length) : i ≤ en t (bg t i) := by
  rcases Nat.lt_or_ge (en t (bg t i)) i with hl | hl
  · have h1 := bg_none t i _ (en_ge t _) hl
    rw [en_edge (by omega)] at h1
    simp at h1
  · exact hl

/-- bytes.IndexByte of a line end, in these words -/
theorem index_le (l : List UInt8) : Lib.indexByte l (10 : UInt8) = if l.findIdx le < l.length then (l.findIdx le : Int) else -1 := by
  induction l with
  | nil => rfl
  | cons b l ih =>
    unfold Lib.indexByte
    rw [← le_ten, List.findIdx_cons, ih]
    have hle : l.findIdx le ≤ l.length := List.findIdx_le_length
    cases hb : le b with
    | true => simp
    | false =>
      simp only [Bool.false_eq_true, if_false, cond_false]
      by_cases hl : l.findIdx le < l.length
      · rw [if_pos hl, if_pos (show l.findIdx le + 1 < (b :: l).length by rw [List.length_cons]; omega)]
        have h2 : ((l.findIdx le : Int) == -1) = false := by rw [beq_eq_false_iff_ne]; omega
        rw [h2]
        simp
      · rw [if_neg hl, if_neg (show ¬ l.findIdx le + 1 < (b :: l).length by rw [List.length_cons]; omega)]
        rfl
end Go.Proofs.Ytbknnicpdkpmiaa
