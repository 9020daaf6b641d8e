/- The plain answers of extent: a range; the small questions: isPlace, isKind, isOperator, shifts, isLineEnd; known of the reference. -/
import Derived.Test.YtbknnicpdkpmiaaRef2
import Derived.Test.YtbknnicpdkpmiaaCol
import Derived.Test.YtbknnicpdkpmiaaLists
namespace Go.Proofs.Ytbknnicpdkpmiaa
open Go.RowKit

theorem bset {w W : World} (h : Below w.heap.size w W) {a : Addr} (v : Value) (ha : w.heap.size ≤ a.block) : Below w.heap.size w (W.setCell a v) := h.setCell ha v
/-- a range and an error -/
structure Rg where
  F : Int
  T : Int
  L : Bool
  D : Bool
  E : Int
/-- as a call gives it -/
def rt (r : Rg) : Ending := .returned (.tuple #[.agg #[.int .i64 r.F, .int .i64 r.T, .bool r.L, .bool r.D], .int .i64 r.E])
/-- refused -/
def rno : Rg := ⟨0, 0, false, false, 2⟩
/-- the range of lines -/
def whY (l : List UInt8) (s e : Nat) : Rg := if e < l.length then ⟨s, e + 1, true, false, 0⟩ else if 0 < s then ⟨s - 1, e, true, true, 0⟩ else ⟨s, e, true, false, 0⟩
def wh (l : List UInt8) (f t : Int) : Rg := if lnB l f && lnB l t && decide (f ≤ t) then whY l (sp l f.toNat) (en l (sp l t.toNat)) else rno
theorem ln_at {l : List UInt8} {k : Nat} (h : k ≤ nl l) : lnB l (k : Int) = true := decide_eq_true (by omega)

set_option maxRecDepth 8000
set_option maxHeartbeats 400000 in
theorem ePlace_any (ao : Option Addr) (n c : Nat) (i : Int) (w : World) :
    Calls Try.prog 20 #[.slice ao n c, .int .i64 i] w fun e w' => e = .returned (.bool (decide (0 ≤ i ∧ i ≤ n))) ∧ w' = w := by
  by_cases h0 : 0 ≤ i
  · by_cases h1 : i ≤ n
    · have hd : decide (0 ≤ i ∧ i ≤ n) = true := decide_eq_true ⟨h0, h1⟩
      rw [hd]
      go_enter Try.func20, Try.ntmps20
      go_wp2
      go_ret
      exact ⟨rfl, rfl⟩
    · have hd : decide (0 ≤ i ∧ i ≤ n) = false := decide_eq_false (fun h => h1 h.2)
      rw [hd]
      go_enter Try.func20, Try.ntmps20
      go_wp2
      go_ret
      exact ⟨rfl, rfl⟩
  · have hd : decide (0 ≤ i ∧ i ≤ n) = false := decide_eq_false (fun h => h0 h.1)
    rw [hd]
    go_enter Try.func20, Try.ntmps20
    go_wp2
    go_ret
    exact ⟨rfl, rfl⟩
/-- is it one of the three kinds -/
def kdB (k : Int) : Bool := decide (k = 1 ∨ k = 2 ∨ k = 3)
set_option maxHeartbeats 400000 in
theorem kind_any (k : Int) (w : World) : Calls Try.prog 21 #[.int .i64 k] w fun e w' => e = .returned (.bool (kdB k)) ∧ w' = w := by
  by_cases h1 : k = 1
  · subst h1
    go_enter Try.func21, Try.ntmps21
    go_wp2
    go_ret
    exact ⟨rfl, rfl⟩
  by_cases h2 : k = 2
  · subst h2
    go_enter Try.func21, Try.ntmps21
    go_wp2
    go_ret
    exact ⟨rfl, rfl⟩
  by_cases h3 : k = 3
  · subst h3
    go_enter Try.func21, Try.ntmps21
    go_wp2
    go_ret
    exact ⟨rfl, rfl⟩
  have hk : kdB k = false := decide_eq_false (by omega)
  have e1 : (k == 1) = false := by simp; omega
  have e2 : (k == 2) = false := by simp; omega
  have e3 : (k == 3) = false := by simp; omega
  rw [hk]
  go_enter Try.func21, Try.ntmps21
  go_wp2
  go_ret
  exact ⟨rfl, rfl⟩
/-- the number of an operator, 0 of none -/
def onl (t : List UInt8) : Nat := if t == [100] then 1 else if t == [99] then 2 else if t == [121] then 3 else if t == [103, 126] then 4 else if t == [103, 117] then 5 else if t == [103, 85] then 6 else if t == [62] then 7 else if t == [60] then 8 else 0
def opn (s : ByteArray) : Nat := onl s.toList
theorem op_rules (s : ByteArray) (k : Nat) (h : opn s = k) : (s.toList == [100]) = (k == 1) ∧ (s.toList == [99]) = (k == 2) ∧ (s.toList == [121]) = (k == 3) ∧ (s.toList == [103, 126]) = (k == 4) ∧ (s.toList == [103, 117]) = (k == 5) ∧ (s.toList == [103, 85]) = (k == 6) ∧ (s.toList == [62]) = (k == 7) ∧ (s.toList == [60]) = (k == 8) := by
  unfold opn at h
  generalize s.toList = t at *
  unfold onl at h
  by_cases ht : t ∈ [[100], [99], [121], [103, 126], [103, 117], [103, 85], [62], [60]]
  · simp only [List.mem_cons, List.not_mem_nil, or_false] at ht
    rcases ht with rfl | rfl | rfl | rfl | rfl | rfl | rfl | rfl <;> (subst h; decide)
  · simp only [List.mem_cons, List.not_mem_nil, or_false, not_or] at ht
    obtain ⟨h1, h2, h3, h4, h5, h6, h7, h8⟩ := ht
    simp only [beq_false_of_ne h1, beq_false_of_ne h2, beq_false_of_ne h3, beq_false_of_ne h4, beq_false_of_ne h5, beq_false_of_ne h6, beq_false_of_ne h7, beq_false_of_ne h8, Bool.false_eq_true, if_false] at h
    subst h
    exact ⟨beq_false_of_ne h1, beq_false_of_ne h2, beq_false_of_ne h3, beq_false_of_ne h4, beq_false_of_ne h5, beq_false_of_ne h6, beq_false_of_ne h7, beq_false_of_ne h8⟩
theorem ite_le8 {c : Prop} [Decidable c] {a b : Nat} (ha : a ≤ 8) (hb : b ≤ 8) : (if c then a else b) ≤ 8 := by split <;> assumption
theorem opn_le (s : ByteArray) : opn s ≤ 8 := by
  unfold opn onl
  repeat (refine ite_le8 (by omega) ?_)
  omega
/-- does it move lines to the right or the left -/
def shB (k : Nat) : Bool := k == 7 || k == 8
/-- is it an operator -/
def opB (k : Nat) : Bool := k != 0
theorem opn_cases {k : Nat} (h : k ≤ 8) : k = 0 ∨ k = 1 ∨ k = 2 ∨ k = 3 ∨ k = 4 ∨ k = 5 ∨ k = 6 ∨ k = 7 ∨ k = 8 := by omega
set_option maxHeartbeats 1000000 in
theorem shifts_any (s : ByteArray) (w : World) : Calls Try.prog 23 #[.string s] w fun e w' => e = .returned (.bool (shB (opn s))) ∧ w' = w := by
  obtain ⟨k, hk⟩ : ∃ k, opn s = k := ⟨_, rfl⟩
  have hle := opn_le s
  obtain ⟨r1, r2, r3, r4, r5, r6, r7, r8⟩ := op_rules s k hk
  rw [hk] at hle ⊢
  clear hk
  rcases opn_cases hle with rfl | rfl | rfl | rfl | rfl | rfl | rfl | rfl | rfl
  all_goals go_enter Try.func23, Try.ntmps23
  all_goals go_wp2
  all_goals go_ret
  all_goals exact ⟨rfl, rfl⟩
set_option maxHeartbeats 1000000 in
theorem isOp_any (s : ByteArray) (w : World) : Calls Try.prog 22 #[.string s] w fun e w' => e = .returned (.bool (opB (opn s))) ∧ w' = w := by
  have C := Hid.mk' (shifts_any s w)
  obtain ⟨k, hk⟩ : ∃ k, opn s = k := ⟨_, rfl⟩
  have hle := opn_le s
  obtain ⟨r1, r2, r3, r4, r5, r6, r7, r8⟩ := op_rules s k hk
  rw [hk] at hle C ⊢
  clear hk
  rcases opn_cases hle with rfl | rfl | rfl | rfl | rfl | rfl | rfl | rfl | rfl
  all_goals go_enter Try.func22, Try.ntmps22
  all_goals go_wp2_with (go_at_call 23; refine C.out.mono ?_; rintro e w' ⟨rfl, hw⟩; have hq := hw.symm; subst hq; clear hw)
  all_goals go_ret
  all_goals exact ⟨rfl, rfl⟩
set_option maxHeartbeats 1000000 in
theorem known_any (s : ByteArray) (w : World) : Calls Try.prog 17 #[.string s] w fun e w' => e = .returned (.bool (opB (opn s))) ∧ w' = w := by
  obtain ⟨k, hk⟩ : ∃ k, opn s = k := ⟨_, rfl⟩
  have hle := opn_le s
  obtain ⟨r1, r2, r3, r4, r5, r6, r7, r8⟩ := op_rules s k hk
  rw [hk] at hle ⊢
  clear hk
  rcases opn_cases hle with rfl | rfl | rfl | rfl | rfl | rfl | rfl | rfl | rfl
  all_goals go_enter Try.func17, Try.ntmps17
  all_goals go_wp2
  all_goals go_ret
  all_goals exact ⟨rfl, rfl⟩
/-- is the byte at a place a line end -/
def leB (l : List UInt8) (i : Int) : Bool := decide (0 ≤ i ∧ i < l.length) && le (at8 l i.toNat)
set_option maxHeartbeats 1000000 in
theorem isLE_any (ao : Option Addr) (n c : Nat) (i : Int) (l : List UInt8) (w : World) (HT : Hid (Tx w ao n c l)) :
    Calls Try.prog 30 #[.slice ao n c, .int .i64 i] w fun e w' => e = .returned (.bool (leB l i)) ∧ w' = w := by
  have hlen := HT.out.len
  by_cases h0 : 0 ≤ i
  · by_cases h1 : i < n
    · obtain ⟨k, rfl⟩ := Int.eq_ofNat_of_zero_le h0
      obtain ⟨g, o, rfl, hc⟩ := HT.out.at (by omega)
      have hc0 := hc k (by omega)
      have hd : leB l (k : Int) = le (at8 l k) := by unfold leB; rw [decide_eq_true (by omega)]; rfl
      have hD := Hid.mk' hd
      clear hc hd hlen
      cases hb : le (at8 l k) with
      | true =>
        have h10 : (((at8 l k).toNat : Int) == 10) = true := hb
        rw [hb] at hD
        clear hb
        go_enter Try.func30, Try.ntmps30
        go_wp2
        go_ret
        exact ⟨by rw [hD.out]; rfl, rfl⟩
      | false =>
        have h10 : (((at8 l k).toNat : Int) == 10) = false := hb
        rw [hb] at hD
        clear hb
        go_enter Try.func30, Try.ntmps30
        go_wp2
        go_ret
        exact ⟨by rw [hD.out]; rfl, rfl⟩
    · have hd := Hid.mk' (show leB l i = false by unfold leB; rw [decide_eq_false (by omega)]; rfl)
      clear hlen
      go_enter Try.func30, Try.ntmps30
      go_wp2
      go_ret
      exact ⟨by rw [hd.out]; rfl, rfl⟩
  · have hd := Hid.mk' (show leB l i = false by unfold leB; rw [decide_eq_false (by omega)]; rfl)
    clear hlen
    go_enter Try.func30, Try.ntmps30
    go_wp2
    go_ret
    exact ⟨by rw [hd.out]; rfl, rfl⟩

end Go.Proofs.Ytbknnicpdkpmiaa
