/- What a motion by bytes and lines answers, as plain functions of the text: the place that it leads to, the column that is wanted then. -/
import Derived.Test.YtbkhbnmihnomaaaIs
namespace Go.Proofs.Ytbkhbnmihnomaaa

def opt (b : Bool) (x : Nat) : Option Nat := if b then some x else none
/-- does the key space stop at p -/
def stp (l : List UInt8) (p : Nat) : Bool := decide (p = l.length) || decide (rs l p = p)
/-- does the byte 8 stop at p -/
def rst (l : List UInt8) (p : Nat) : Bool := decide (rs l p = p)
/-- n stops on, of the d places from p on; to: the last one so far -/
def onw (l : List UInt8) : Nat → Nat → Nat → Nat → Nat
  | 0, _, _, to => to
  | d + 1, p, n, to => if n = 0 then to else if stp l p then onw l d (p + 1) (n - 1) p else onw l d (p + 1) n to
/-- n stops back, of the places below p -/
def bkw (l : List UInt8) : Nat → Nat → Nat → Nat
  | 0, _, to => to
  | p + 1, n, to => if n = 0 then to else if rst l p then bkw l p (n - 1) p else bkw l p n to
def lnAt (l : List UInt8) (L C : Int) : Option Nat := opt (lnB l L) (pc (sp l L.toNat) (en l (sp l L.toNat)) C)
def lnFirst (l : List UInt8) (L : Int) : Option Nat := opt (lnB l L) (fb l (lb (sp l L.toNat) (en l (sp l L.toNat))) (en l (sp l L.toNat) - sp l L.toNat) (sp l L.toNat))
def lnEnd (l : List UInt8) (L : Int) : Option Nat := opt (lnB l L) (en l (sp l L.toNat))
def onwP (l : List UInt8) (p n : Nat) : Nat := onw l (l.length - p) (p + 1) n p
def bkwP (l : List UInt8) (p n : Nat) : Nat := bkw l p n p

/-- a key's number; 0: it is none of the keys -/
def knl (t : List UInt8) : Nat :=
  if t == [104] then 1 else if t == [108] then 2 else if t == [32] then 3 else if t == [8] then 4 else if t == [106] then 5 else if t == [107] then 6 else if t == [43] then 7 else if t == [13] then 8 else if t == [45] then 9 else if t == [95] then 10 else if t == [48] then 11 else if t == [94] then 12 else if t == [36] then 13 else if t == [124] then 14 else if t == [71] then 15 else if t == [103, 103] then 16 else 0
def kn (s : ByteArray) : Nat := knl s.toList
theorem kn_rules (s : ByteArray) (k : Nat) (h : kn s = k) : (s.toList == [104]) = (k == 1) ∧ (s.toList == [108]) = (k == 2) ∧ (s.toList == [32]) = (k == 3) ∧ (s.toList == [8]) = (k == 4) ∧ (s.toList == [106]) = (k == 5) ∧ (s.toList == [107]) = (k == 6) ∧ (s.toList == [43]) = (k == 7) ∧ (s.toList == [13]) = (k == 8) ∧ (s.toList == [45]) = (k == 9) ∧ (s.toList == [95]) = (k == 10) ∧ (s.toList == [48]) = (k == 11) ∧ (s.toList == [94]) = (k == 12) ∧ (s.toList == [36]) = (k == 13) ∧ (s.toList == [124]) = (k == 14) ∧ (s.toList == [71]) = (k == 15) ∧ (s.toList == [103, 103]) = (k == 16) := by
  unfold kn at h
  generalize s.toList = t at *
  unfold knl at h
  by_cases ht : t ∈ [[104], [108], [32], [8], [106], [107], [43], [13], [45], [95], [48], [94], [36], [124], [71], [103, 103]]
  · simp only [List.mem_cons, List.not_mem_nil, or_false] at ht
    rcases ht with rfl | rfl | rfl | rfl | rfl | rfl | rfl | rfl | rfl | rfl | rfl | rfl | rfl | rfl | rfl | rfl <;> (subst h; decide)
  · simp only [List.mem_cons, List.not_mem_nil, or_false, not_or] at ht
    obtain ⟨h1, h2, h3, h4, h5, h6, h7, h8, h9, h10, h11, h12, h13, h14, h15, h16⟩ := ht
    simp only [beq_false_of_ne h1, beq_false_of_ne h2, beq_false_of_ne h3, beq_false_of_ne h4, beq_false_of_ne h5, beq_false_of_ne h6, beq_false_of_ne h7, beq_false_of_ne h8, beq_false_of_ne h9, beq_false_of_ne h10, beq_false_of_ne h11, beq_false_of_ne h12, beq_false_of_ne h13, beq_false_of_ne h14, beq_false_of_ne h15, beq_false_of_ne h16, Bool.false_eq_true, if_false] at h
    subst h
    exact ⟨beq_false_of_ne h1, beq_false_of_ne h2, beq_false_of_ne h3, beq_false_of_ne h4, beq_false_of_ne h5, beq_false_of_ne h6, beq_false_of_ne h7, beq_false_of_ne h8, beq_false_of_ne h9, beq_false_of_ne h10, beq_false_of_ne h11, beq_false_of_ne h12, beq_false_of_ne h13, beq_false_of_ne h14, beq_false_of_ne h15, beq_false_of_ne h16⟩
theorem ite_le16 {c : Prop} [Decidable c] {a b : Nat} (ha : a ≤ 16) (hb : b ≤ 16) : (if c then a else b) ≤ 16 := by split <;> assumption
theorem kn_le (s : ByteArray) : kn s ≤ 16 := by
  unfold kn knl
  repeat (refine ite_le16 (by omega) ?_)
  omega

/-- where the motion leads: p the place, n the count or 1, z: no count was given -/
def tgt (l : List UInt8) (p : Nat) (want : Int) (n : Nat) (z : Bool) : Nat → Option Nat
  | 1 => opt (decide (p ≠ bg l p)) (max (p - n) (bg l p))
  | 2 => opt (decide (p ≠ en l (bg l p))) (min (p + n) (en l (bg l p)))
  | 3 => opt (decide (onwP l p n ≠ p)) (onwP l p n)
  | 4 => opt (decide (bkwP l p n ≠ p)) (bkwP l p n)
  | 5 => lnAt l ((nl (l.take p) : Nat) + (n : Int)) want
  | 6 => lnAt l ((nl (l.take p) : Nat) - (n : Int)) want
  | 7 => lnFirst l ((nl (l.take p) : Nat) + (n : Int))
  | 8 => lnFirst l ((nl (l.take p) : Nat) + (n : Int))
  | 9 => lnFirst l ((nl (l.take p) : Nat) - (n : Int))
  | 10 => lnFirst l ((nl (l.take p) : Nat) + (n : Int) - 1)
  | 11 => some (bg l p)
  | 12 => lnFirst l (nl (l.take p) : Nat)
  | 13 => lnEnd l ((nl (l.take p) : Nat) + (n : Int) - 1)
  | 14 => some (pc (bg l p) (en l (bg l p)) ((n : Int) - 1))
  | 15 => if z then lnFirst l (nl l) else lnFirst l ((n : Int) - 1)
  | 16 => lnFirst l ((n : Int) - 1)
  | _ => none
/-- the kind of a key's targets -/
def kd (k : Nat) : Int := if k = 0 then 0 else if k = 1 ∨ k = 2 ∨ k = 3 ∨ k = 4 ∨ k = 11 ∨ k = 12 ∨ k = 13 ∨ k = 14 then 1 else 3
/-- the column that is wanted behind a motion to q -/
def wn (l : List UInt8) (want : Int) (n : Nat) (k q : Nat) : Int := if k = 5 ∨ k = 6 then want else if k = 13 then -1 else if k = 14 then (n : Int) - 1 else ((q - bg l q : Nat) : Int)

/-- what Move answers: From, To, Kind, the wanted column, the error -/
structure Ansr where
  fr : Int
  to : Int
  kind : Int
  want : Int
  err : Int
def okB (l : List UInt8) (i want cnt : Int) (s : ByteArray) : Bool := plB l i && decide (-1 ≤ want) && decide (0 ≤ cnt) && decide (cnt ≤ 9999) && decide (kn s ≠ 0)
def mv (l : List UInt8) (i want cnt : Int) (s : ByteArray) : Ansr :=
  if okB l i want cnt s then
    match tgt l i.toNat want (max cnt 1).toNat (decide (cnt = 0)) (kn s) with
    | some q => ⟨i, q, kd (kn s), wn l want (max cnt 1).toNat (kn s) q, 0⟩
    | none => ⟨0, 0, 0, 0, 70⟩
  else ⟨0, 0, 0, 0, 2⟩
def mvE (a : Ansr) : Ending := .returned (.tuple #[.agg #[.int .i64 a.fr, .int .i64 a.to, .int .i64 a.kind], .int .i64 a.want, .int .i64 a.err])
/-- a place or an error, as a call gives it -/
def prE (o : Option Nat) (z : Int) : Ending := match o with
  | some q => .returned (.tuple #[.int .i64 q, .int .i64 0])
  | none => .returned (.tuple #[.int .i64 0, .int .i64 z])
end Go.Proofs.Ytbkhbnmihnomaaa
