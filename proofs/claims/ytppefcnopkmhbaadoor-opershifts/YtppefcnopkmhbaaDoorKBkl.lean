/- taken out and put in again, pure: lines. -/
import Derived.Test.YtppefcnopkmhbaaDoorKBkp
namespace Go.Proofs.YtppefcnopkmhbaaDoor
open Go.RowKit

set_option maxRecDepth 8000
theorem nl_sp {l : List UInt8} {a : Nat} (h : a ≤ nl l) : nl (l.take (sp l a)) = a := (sp_st h).num
theorem nl_ahead {l : List UInt8} {a : Nat} (h : a ≤ nl l) (h0 : 0 < sp l a) : nl (l.take (sp l a - 1)) + 1 = a ∧ le (at8 l (sp l a - 1)) = true := by
  have hs := sp_st h
  rcases hs.edge with e | ⟨_, e⟩
  · omega
  · refine ⟨?_, e⟩
    have h1 := nl_take l (sp l a - 1) (by have := hs.low'; omega)
    rw [show sp l a - 1 + 1 = sp l a by omega, hs.num, e, if_pos rfl] at h1
    omega
theorem isW_of {l : List UInt8} {a b fF tT : Int} {L D : Bool} (h : wh l a b = ⟨fF, tT, L, D, 0⟩) : isW l a b fF tT L D = true := by
  unfold isW
  rw [h]
  simp
theorem lnO_right {l : List UInt8} {k f t : Nat} {D : Bool} (hft : f ≤ t) (ht : t ≤ l.length) {a b : Nat} (hw : wh l (a : Int) (b : Int) = ⟨(f : Int), (t : Int), true, D, 0⟩)
    (ha : (nl (l.take f) : Int) + (if D = true then 1 else 0) = (a : Int)) (hb : (nl (l.take t) : Int) = (b : Int) ∨ (nl (l.take t) : Int) = (b : Int) + 1) : (lnO l k (f : Int) (t : Int) true D).2.2 = true := by
  unfold lnO
  rw [if_neg (by omega), if_neg (by simp)]
  rw [show ((f : Int)).toNat = f from rfl, show ((t : Int)).toNat = t from rfl, ha]
  dsimp only
  rcases hb with hb | hb
  · rw [hb, isW_of hw]
    split <;> rfl
  · rw [hb, show (b : Int) + 1 - 1 = (b : Int) by omega, isW_of hw]
    split
    · rfl
    · rename_i h
      simp at h
      exact h.1
/-- what d answers to lines -/
theorem do_dL {l : List UInt8} {k f t : Nat} {D : Bool} (hk : k ≤ l.length) (hr : (lnO l k (f : Int) (t : Int) true D).2.2 = true) :
    ∃ c : Int, doX l (k : Int) ⟨#[100]⟩ (f : Int) (t : Int) true D 1 = if f = t then (ef0, 190) else (⟨sw l f t [], c, true, true, tk l f t true D, 2, false⟩, 0) := by
  have hs : kn ⟨#[100]⟩ = 1 := by decide +kernel
  unfold doX
  rw [show ((k : Int)).toNat = k from rfl, hs]
  rw [if_neg (by
    rintro (h | h | h | h)
    · omega
    · exact h ⟨by omega, by omega⟩
    · exact h ⟨by omega, by omega⟩
    · rw [hr] at h; cases h)]
  by_cases he : f = t
  · exact ⟨0, by rw [if_pos ⟨by omega, rfl⟩, if_pos he]⟩
  · rw [if_neg (fun h => he (by omega))]
    exact ⟨rmC l (sw l f t []) f true (lnO l k (f : Int) (t : Int) true D).1.toNat, by rw [if_neg he]; unfold opX rEf; rw [if_pos rfl]; rfl⟩
theorem hw_two (X : List UInt8) : hwE true X = 2 := by unfold hwE; rfl
/-- the three kinds of lines -/
theorem whole_kinds {l : List UInt8} {a b : Nat} (hab : a ≤ b) (hb : b ≤ nl l) :
    (b < nl l ∧ en l (sp l b) < l.length ∧ wh l (a : Int) (b : Int) = ⟨(sp l a : Int), ((en l (sp l b) + 1 : Nat) : Int), true, false, 0⟩) ∨
    (b = nl l ∧ 0 < a ∧ 0 < sp l a ∧ wh l (a : Int) (b : Int) = ⟨((sp l a - 1 : Nat) : Int), (l.length : Int), true, true, 0⟩) ∨
    (b = nl l ∧ a = 0 ∧ wh l (a : Int) (b : Int) = ⟨0, (l.length : Int), true, false, 0⟩) := by
  have h1 := sp_le (t := l) hb
  have hw := wh_yes (l := l) (f := a) (t := b) (by omega) hb hab
  rcases Nat.lt_or_ge b (nl l) with h | h
  · have h2 := (sp_next (l := l) (i := b) (by omega)).1
    refine .inl ⟨h, h2, ?_⟩
    rw [hw]
    unfold whY
    rw [if_pos h2]
    rfl
  · have hbe : b = nl l := by omega
    have he : en l (sp l b) = l.length := by
      rcases Nat.lt_or_ge (en l (sp l b)) l.length with h3 | h3
      · have := ((sp_st hb).next h3).low
        omega
      · have := en_le h1; omega
    rcases Nat.eq_zero_or_pos a with h0 | h0
    · subst h0
      refine .inr (.inr ⟨hbe, rfl, ?_⟩)
      rw [hw]
      unfold whY
      rw [he, if_neg (by omega), sp_zero, if_neg (by omega)]
      rfl
    · have hs0 : 0 < sp l a := by
        obtain ⟨i, rfl⟩ : ∃ i, a = i + 1 := ⟨a - 1, by omega⟩
        have := (sp_next (l := l) (i := i) (by omega)).2
        omega
      refine .inr (.inl ⟨hbe, h0, hs0, ?_⟩)
      rw [hw]
      unfold whY
      rw [he, if_neg (by omega), if_pos hs0]
      congr 1
      omega
theorem tk_one {l : List UInt8} {s e : Nat} (h : s ≤ e) (he : e < l.length) (hle : le (at8 l e) = true) : tk l s (e + 1) true false = sl l s (e + 1) := by
  have hk : tkb l s (e + 1) false = sl l s (e + 1) := by unfold tkb sl; simp
  have hl : lack (sl l s (e + 1)) = false := lack_no (by omega) (by omega) (by rw [Nat.add_sub_cancel]; exact hle)
  unfold tk
  rw [show (true && false) = false from rfl, hk, hl]
  rfl
theorem tk_two {l : List UInt8} {s : Nat} (h : 0 < s) : tk l (s - 1) l.length true true = l.drop s ++ [10] := by
  have hk : tkb l (s - 1) l.length true = l.drop s := by
    unfold tkb
    rw [show s - 1 + true.toNat = s by simp; omega]
    rw [List.take_of_length_le (by rw [List.length_drop]; omega)]
  unfold tk
  rw [show (true && true) = true from rfl, hk]
  rfl
theorem sp_wo {l : List UInt8} {a t : Nat} (ha : a ≤ nl l) (ht : sp l a ≤ t) (htl : t ≤ l.length) : St (wo l (sp l a) t) a (sp l a) := by
  have hs := sp_st ha
  have hl := wo_len (l := l) ht htl
  have hlow := hs.low'
  refine ⟨by omega, by rw [wo_take (by omega)]; exact hs.num, ?_⟩
  rcases hs.edge with e | ⟨h0, e⟩
  · exact .inl e
  · refine .inr ⟨h0, ?_⟩
    have : at8 (wo l (sp l a) t) (sp l a - 1) = at8 l (sp l a - 1) := by
      unfold wo at8
      rw [List.getD_eq_getElem?_getD, List.getD_eq_getElem?_getD, List.getElem?_append_left (by rw [List.length_take]; omega), List.getElem?_take_of_lt (by omega)]
    rw [this]; exact e
/-- whole lines ahead of a line -/
theorem put_L1 {u X : List UInt8} {a s : Nat} (hs : St u a s) (hX : lack X = false) (hb : X.length ≤ 65536) :
    ∃ x : Ef, ptX u (s : Int) 1 true true X true = (x, 0) ∧ x.es = sw u s s X := by
  have hc : cntB 1 = true := by decide
  have ha := hs.low
  have hlow := hs.low'
  unfold ptX
  rw [if_neg (fun h => h ⟨⟨by omega, by omega⟩, hc⟩), if_neg (by simp)]
  unfold ptM
  rw [show ptT true X = X from by unfold ptT; rw [hX]; simp, show ((1 : Int)).toNat = 1 from rfl, Nat.div_one, if_neg (by omega), if_pos rfl, rp_one, show ((s : Int)).toNat = s from rfl]
  refine ⟨_, rfl, ?_⟩
  have hI : plI u s true = a := by unfold plI; rw [if_pos rfl]; exact hs.num
  unfold plX plP plY
  rw [hI, if_pos ha, if_pos ha, sp_eq hs]
/-- whole lines behind the last line -/
theorem put_L2 {u Z : List UInt8} {i p : Nat} (hs : St u i p) (hn : nl u = i) (hb : Z.length < 65536) :
    ∃ x : Ef, ptX u (p : Int) 1 true true (Z ++ [10]) false = (x, 0) ∧ x.es = sw u u.length u.length (10 :: Z) := by
  have hc : cntB 1 = true := by decide
  have hlow := hs.low'
  have hlk : lack (Z ++ [10]) = false := by
    unfold lack leB
    rw [List.length_append, decide_eq_true (by simp; omega), Bool.true_and]
    have : at8 (Z ++ [10]) ((((Z.length + [(10 : UInt8)].length : Nat) : Int) - 1).toNat) = 10 := by
      rw [show ((((Z.length + [(10 : UInt8)].length : Nat) : Int) - 1).toNat) = Z.length by simp]
      simp [at8]
    rw [this]
    decide
  unfold ptX
  rw [if_neg (fun h => h ⟨⟨by omega, by omega⟩, hc⟩), if_neg (by simp)]
  unfold ptM
  rw [show ptT true (Z ++ [10]) = Z ++ [10] from by unfold ptT; rw [hlk]; simp, show ((1 : Int)).toNat = 1 from rfl, Nat.div_one, if_neg (by rw [List.length_append]; simp; omega), if_pos rfl, rp_one, show ((p : Int)).toNat = p from rfl]
  refine ⟨_, rfl, ?_⟩
  have hI : plI u p false = i + 1 := by unfold plI; rw [if_neg (by simp), hs.num]
  unfold plX plP plY
  rw [hI, if_neg (by omega), if_neg (by omega)]
  show sw u u.length u.length (10 :: (Z ++ [10]).take ((Z ++ [10]).length - 1)) = _
  rw [List.length_append, show Z.length + [(10 : UInt8)].length - 1 = Z.length by simp, List.take_append_of_le_length (Nat.le_refl _), List.take_of_length_le (Nat.le_refl _)]
theorem back_L2 {l : List UInt8} {s : Nat} (h : 0 < s) (hs : s ≤ l.length) (hle : le (at8 l (s - 1)) = true) :
    apU (wo l (s - 1) l.length) (sw (wo l (s - 1) l.length) (wo l (s - 1) l.length).length (wo l (s - 1) l.length).length (10 :: l.drop s)) = l ∧ apE (wo l (s - 1) l.length) (sw (wo l (s - 1) l.length) (wo l (s - 1) l.length).length (wo l (s - 1) l.length).length (10 :: l.drop s)) = 0 := by
  have hu : wo l (s - 1) l.length = l.take (s - 1) := by unfold wo; rw [List.drop_of_length_le (Nat.le_refl _), List.append_nil]
  rw [hu]
  have h1 := apU_sw (l := l.take (s - 1)) (f := (l.take (s - 1)).length) (t := (l.take (s - 1)).length) (Nat.le_refl _) (Nat.le_refl _) (10 :: l.drop s)
  refine ⟨h1.1.trans ?_, h1.2⟩
  rw [List.take_of_length_le (Nat.le_refl _), List.drop_of_length_le (Nat.le_refl _), List.append_nil]
  have e : l.drop (s - 1) = 10 :: l.drop s := by
    have hlt : s - 1 < l.length := by omega
    have h3 := List.drop_eq_getElem_cons hlt
    rw [h3, show s - 1 + 1 = s by omega]
    congr 1
    have h4 : le l[s - 1] = true := by rw [at8_eq hlt] at hle; exact hle
    unfold le at h4
    have : (l[s - 1]).toNat = 10 := by have := eq_of_beq h4; omega
    exact UInt8.toNat_inj.1 (by rw [this]; rfl)
  rw [← e, List.take_append_drop]
end Go.Proofs.YtppefcnopkmhbaaDoor
