/- What a motion by words answers, as plain functions of the text. -/
import Derived.Test.YtomekjakjgfjdaaScan
namespace Go.Proofs.Ytomekjakjgfjdaa

/-- a key's number; 0: it is none of the keys -/
def knl (t : List UInt8) : Nat :=
  if t == [119] then 1 else if t == [87] then 2 else if t == [98] then 3 else if t == [66] then 4 else if t == [101] then 5 else if t == [69] then 6 else if t == [103, 101] then 7 else if t == [103, 69] then 8 else 0
def kn (s : ByteArray) : Nat := knl s.toList
theorem kn_rules (s : ByteArray) (k : Nat) (h : kn s = k) : (s.toList == [119]) = (k == 1) ∧ (s.toList == [87]) = (k == 2) ∧ (s.toList == [98]) = (k == 3) ∧ (s.toList == [66]) = (k == 4) ∧ (s.toList == [101]) = (k == 5) ∧ (s.toList == [69]) = (k == 6) ∧ (s.toList == [103, 101]) = (k == 7) ∧ (s.toList == [103, 69]) = (k == 8) := by
  unfold kn at h
  generalize s.toList = t at *
  unfold knl at h
  by_cases ht : t ∈ [[119], [87], [98], [66], [101], [69], [103, 101], [103, 69]]
  · simp only [List.mem_cons, List.not_mem_nil, or_false] at ht
    rcases ht with rfl | rfl | rfl | rfl | rfl | rfl | rfl | rfl <;> (subst h; decide)
  · simp only [List.mem_cons, List.not_mem_nil, or_false, not_or] at ht
    obtain ⟨h1, h2, h3, h4, h5, h6, h7, h8⟩ := ht
    simp only [beq_false_of_ne h1, beq_false_of_ne h2, beq_false_of_ne h3, beq_false_of_ne h4, beq_false_of_ne h5, beq_false_of_ne h6, beq_false_of_ne h7, beq_false_of_ne h8, Bool.false_eq_true, if_false] at h
    subst h
    exact ⟨beq_false_of_ne h1, beq_false_of_ne h2, beq_false_of_ne h3, beq_false_of_ne h4, beq_false_of_ne h5, beq_false_of_ne h6, beq_false_of_ne h7, beq_false_of_ne h8⟩
theorem ite_le8 {c : Prop} [Decidable c] {a b : Nat} (ha : a ≤ 8) (hb : b ≤ 8) : (if c then a else b) ≤ 8 := by split <;> assumption
theorem kn_le (s : ByteArray) : kn s ≤ 8 := by
  unfold kn knl
  repeat (refine ite_le8 (by omega) ?_)
  omega
theorem kn_cases {P : Nat → Prop} (k : Nat) (h : k ≤ 8) (h0 : P 0) (h1 : P 1) (h2 : P 2) (h3 : P 3) (h4 : P 4) (h5 : P 5) (h6 : P 6) (h7 : P 7) (h8 : P 8) : P k := by
  have : k = 0 ∨ k = 1 ∨ k = 2 ∨ k = 3 ∨ k = 4 ∨ k = 5 ∨ k = 6 ∨ k = 7 ∨ k = 8 := by omega
  rcases this with rfl | rfl | rfl | rfl | rfl | rfl | rfl | rfl | rfl <;> assumption
/-- where the motion leads: p the place, m the count or 1 -/
def tgt (l : List UInt8) (p m : Nat) : Nat → Nat
  | 1 => sup (bgn l false) (fun _ => l.length) (l.length - p) m p p
  | 2 => sup (bgn l true) (fun _ => l.length) (l.length - p) m p p
  | 3 => sdn (bgn l false) (fun _ => 0) p m p
  | 4 => sdn (bgn l true) (fun _ => 0) p m p
  | 5 => sup (ndg l false) (fun d => d) (l.length - p) m p p
  | 6 => sup (ndg l true) (fun d => d) (l.length - p) m p p
  | 7 => sdn (hlt l false) (fun _ => 0) p m p
  | 8 => sdn (hlt l true) (fun _ => 0) p m p
  | _ => p
/-- the motion of a key: which way, which stops, on to the end, what is answered, great words -/
def mW : Nat → Int
  | 1 => 1
  | 2 => 1
  | 3 => -1
  | 4 => -1
  | 5 => 1
  | 6 => 1
  | 7 => -1
  | 8 => -1
  | _ => 0
def mF : Nat → Value
  | 1 => .func (.func 25) #[] #[]
  | 2 => .func (.func 25) #[] #[]
  | 3 => .func (.func 25) #[] #[]
  | 4 => .func (.func 25) #[] #[]
  | 5 => .func (.func 26) #[] #[]
  | 6 => .func (.func 26) #[] #[]
  | 7 => .func (.func 27) #[] #[]
  | 8 => .func (.func 27) #[] #[]
  | _ => Value.nilFunc
def mH : Nat → Bool
  | 1 => true
  | 2 => true
  | 3 => true
  | 4 => true
  | 5 => false
  | 6 => false
  | 7 => true
  | 8 => true
  | _ => false
def mK : Nat → Int
  | 1 => 1
  | 2 => 1
  | 3 => 1
  | 4 => 1
  | 5 => 2
  | 6 => 2
  | 7 => 2
  | 8 => 2
  | _ => 0
def mB : Nat → Bool
  | 1 => false
  | 2 => true
  | 3 => false
  | 4 => true
  | 5 => false
  | 6 => true
  | 7 => false
  | 8 => true
  | _ => false
def mot (k : Nat) : Value := .agg #[.int .i64 (mW k), mF k, .bool (mH k), .int .i64 (mK k), .bool (mB k)]
/-- an answer: from, to, how it is meant, the error -/
structure Ansr where
  fr : Int
  to : Int
  kind : Int
  err : Int
def plB (l : List UInt8) (i : Int) : Bool := decide (0 ≤ i ∧ i ≤ l.length)
def okB (l : List UInt8) (i cnt : Int) (s : ByteArray) : Bool := plB l i && decide (0 ≤ cnt) && decide (cnt ≤ 9999) && decide (kn s ≠ 0)
def mv (l : List UInt8) (i cnt : Int) (s : ByteArray) : Ansr :=
  if okB l i cnt s = true then
    if tgt l i.toNat (max cnt 1).toNat (kn s) = i.toNat then ⟨0, 0, 0, 70⟩ else ⟨i, (tgt l i.toNat (max cnt 1).toNat (kn s) : Nat), mK (kn s), 0⟩
  else ⟨0, 0, 0, 2⟩
def mvE (a : Ansr) : Ending := .returned (.tuple #[.agg #[.int .i64 a.fr, .int .i64 a.to, .int .i64 a.kind], .int .i64 a.err])
theorem mvE_def (a : Ansr) : mvE a = .returned (.tuple #[.agg #[.int .i64 a.fr, .int .i64 a.to, .int .i64 a.kind], .int .i64 a.err]) := rfl
theorem pl_yes {l : List UInt8} {i : Int} (h : plB l i = true) : ∃ p : Nat, i = (p : Int) ∧ p ≤ l.length := by
  have := of_decide_eq_true h
  exact ⟨i.toNat, by omega, by omega⟩
/-- a target is a place -/
theorem tgt_le {l : List UInt8} {p m k : Nat} (hp : p ≤ l.length) : tgt l p m k ≤ l.length := by
  have up : ∀ (S : Nat → Bool) (fw : Nat → Nat), (∀ d, d ≤ l.length → d ≤ fw d ∧ fw d ≤ l.length) → sup S fw (l.length - p) m p p ≤ l.length := fun S fw hw => (sup_le hw _ m p p (by omega) (Nat.le_refl _)).2
  have dn : ∀ (S : Nat → Bool), sdn S (fun _ => 0) p m p ≤ l.length := fun S => Nat.le_trans (sdn_le (fun d => Nat.zero_le d) p m p (Nat.le_refl _)) hp
  unfold tgt
  split
  · exact up _ _ (fun d h => ⟨h, Nat.le_refl _⟩)
  · exact up _ _ (fun d h => ⟨h, Nat.le_refl _⟩)
  · exact dn _
  · exact dn _
  · exact up _ _ (fun d h => ⟨Nat.le_refl _, h⟩)
  · exact up _ _ (fun d h => ⟨Nat.le_refl _, h⟩)
  · exact dn _
  · exact dn _
  · exact hp
end Go.Proofs.Ytomekjakjgfjdaa
