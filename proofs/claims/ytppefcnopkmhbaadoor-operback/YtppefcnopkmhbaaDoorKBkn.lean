/- counts of lines, pure. -/
import Derived.Test.YtppefcnopkmhbaaDoorKBkl
namespace Go.Proofs.YtppefcnopkmhbaaDoor
open Go.RowKit

set_option maxRecDepth 8000
theorem nl_wo {l : List UInt8} {f t : Nat} : nl (wo l f t) + nl (l.take t) = nl l + nl (l.take f) := by
  unfold wo
  rw [nl_append]
  have h : nl l = nl (l.take t) + nl (l.drop t) := by rw [← nl_append, List.take_append_drop]
  omega
/-- what is known of whole lines that are taken out -/
structure Knd (l : List UInt8) (a b f t : Nat) (D : Bool) : Prop where
  w : wh l (a : Int) (b : Int) = ⟨(f : Int), (t : Int), true, D, 0⟩
  ft : f ≤ t
  tn : t ≤ l.length
  r : ∀ k, (lnO l k (f : Int) (t : Int) true D).2.2 = true
theorem knd_one {l : List UInt8} {a b : Nat} (hab : a ≤ b) (hb : b < nl l) (he : en l (sp l b) < l.length) (hw : wh l (a : Int) (b : Int) = ⟨(sp l a : Int), ((en l (sp l b) + 1 : Nat) : Int), true, false, 0⟩) :
    Knd l a b (sp l a) (en l (sp l b) + 1) false ∧ sp l a < en l (sp l b) + 1 ∧ nl (l.take (en l (sp l b) + 1)) = b + 1 := by
  have h1 := sp_mono (l := l) hab (by omega)
  have h2 := en_ge l (sp l b)
  have h3 := (sp_next (l := l) (i := b) (by omega)).2
  have h4 : nl (l.take (en l (sp l b) + 1)) = b + 1 := by rw [← h3]; exact nl_sp (by omega)
  have h5 := nl_sp (l := l) (a := a) (by omega)
  refine ⟨⟨hw, by omega, by omega, fun k => lnO_right (by omega) (by omega) hw (by rw [h5]; simp) (.inr (by rw [h4]; omega))⟩, by omega, h4⟩
theorem knd_two {l : List UInt8} {a : Nat} (hs : 0 < sp l a) (ha : a ≤ nl l) (hw : wh l (a : Int) (nl l : Int) = ⟨((sp l a - 1 : Nat) : Int), (l.length : Int), true, true, 0⟩) :
    Knd l a (nl l) (sp l a - 1) l.length true ∧ sp l a - 1 < l.length := by
  have h1 := sp_le (t := l) ha
  have h2 := (nl_ahead ha hs).1
  refine ⟨⟨hw, by omega, Nat.le_refl _, fun k => lnO_right (by omega) (Nat.le_refl _) hw (by rw [if_pos rfl]; omega) (.inl (by rw [List.take_length]))⟩, by omega⟩
theorem knd_all {l : List UInt8} (hw : wh l ((0 : Nat) : Int) (nl l : Int) = ⟨0, (l.length : Int), true, false, 0⟩) : Knd l 0 (nl l) 0 l.length false :=
  ⟨hw, Nat.zero_le _, Nat.le_refl _, fun k => lnO_right (f := 0) (Nat.zero_le _) (Nat.le_refl _) (a := 0) (b := nl l) hw (by rw [List.take_zero, nl_nil]; simp) (.inl (by rw [List.take_length]))⟩
theorem sp_wo2 {l : List UInt8} {a : Nat} (ha : a ≤ nl l) (hs : 0 < sp l a) : nl (wo l (sp l a - 1) l.length) + 1 = a := by
  have h := nl_wo (l := l) (f := sp l a - 1) (t := l.length)
  rw [List.take_length] at h
  have := (nl_ahead ha hs).1
  omega
/-- lines that end ahead of the last one's end -/
structure Kd1 (l X : List UInt8) (a b f t : Nat) : Prop where
  k : Knd l a b f t false
  lt : f < t
  s : sp l a = f
  x : tk l f t true false = X
  xl : X.length ≤ l.length
  xk : lack X = false
  u : St (wo l f t) a f
  c : nl (wo l f t) + (b + 1) = nl l + a
  back : apU (wo l f t) (sw (wo l f t) f f X) = l ∧ apE (wo l f t) (sw (wo l f t) f f X) = 0
theorem kd1 {l : List UInt8} {a b n : Nat} (hn : l.length = n) (hab : a ≤ b) (hb : b < nl l) (he : en l (sp l b) < l.length) (hw : wh l (a : Int) (b : Int) = ⟨(sp l a : Int), ((en l (sp l b) + 1 : Nat) : Int), true, false, 0⟩) : ∃ f t X, Kd1 l X a b f t ∧ t ≤ n := by
  obtain ⟨K, hlt, hnt⟩ := knd_one hab hb he hw
  have hc := nl_wo (l := l) (f := sp l a) (t := en l (sp l b) + 1)
  rw [nl_sp (l := l) (a := a) (by omega), hnt] at hc
  have hX : (sl l (sp l a) (en l (sp l b) + 1)).length = en l (sp l b) + 1 - sp l a := sl_len K.tn
  refine ⟨sp l a, en l (sp l b) + 1, sl l (sp l a) (en l (sp l b) + 1), ⟨K, hlt, rfl, tk_one (by omega) he (en_edge he), by omega, lack_no hlt K.tn (by rw [Nat.add_sub_cancel]; exact en_edge he), sp_wo (by omega) (by omega) K.tn, hc, back_B (by omega) K.tn⟩, by omega⟩
/-- the last lines -/
structure Kd2 (l Z : List UInt8) (a f n : Nat) : Prop where
  k : Knd l a (nl l) f n true
  lt : f < n
  x : tk l f n true true = Z ++ [10]
  xl : Z.length ≤ n
  c : nl (wo l f n) + 1 = a
  back : apU (wo l f n) (sw (wo l f n) (wo l f n).length (wo l f n).length (10 :: Z)) = l ∧ apE (wo l f n) (sw (wo l f n) (wo l f n).length (wo l f n).length (10 :: Z)) = 0
theorem kd2 {l : List UInt8} {a n : Nat} (hn : l.length = n) (ha : a ≤ nl l) (hs : 0 < sp l a) (hw : wh l (a : Int) (nl l : Int) = ⟨((sp l a - 1 : Nat) : Int), (l.length : Int), true, true, 0⟩) : ∃ f Z, Kd2 l Z a f n := by
  subst hn
  obtain ⟨K, hlt⟩ := knd_two hs ha hw
  exact ⟨sp l a - 1, l.drop (sp l a), ⟨K, hlt, tk_two hs, by rw [List.length_drop]; omega, sp_wo2 ha hs, back_L2 hs (sp_le ha) (nl_ahead ha hs).2⟩⟩
theorem kd3 {l : List UInt8} {n : Nat} (hn : l.length = n) (hw : wh l ((0 : Nat) : Int) (nl l : Int) = ⟨0, (l.length : Int), true, false, 0⟩) : Knd l 0 (nl l) 0 n false := by
  subst hn
  exact knd_all hw
end Go.Proofs.YtppefcnopkmhbaaDoor
