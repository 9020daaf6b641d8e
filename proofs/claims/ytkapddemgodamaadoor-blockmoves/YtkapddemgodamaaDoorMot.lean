/- The key's motion; the sentence stop. -/
import Derived.Test.YtkapddemgodamaaDoorBsn
import Derived.Laws.EntriesVeiled
namespace Go.Proofs.YtkapddemgodamaaDoor
open Go.RowKit

set_option maxHeartbeats 1000000 in
theorem isSentence_any {ao : Option Addr} {n c k : Nat} {l : List UInt8} {w : World} (h1 : 1 ≤ k) (hk : k ≤ n) (hn : n < 4294967281) (hc : c ≤ 9223372036854775807) (HG : Hid (Gl w)) (HT : Hid (Tx w ao n c l)) :
    Calls Tryd.prog 35 #[.slice ao n c, .int .i64 k] w fun e w' => e = .returned (.bool (st l k)) ∧ Below w.heap.size w w' := by
  have C1 := Hid.mk' (beginsEmptyLines_any h1 hk HT)
  have C2 := Hid.mk' (beginsSentence_any hk hn hc HG HT)
  have HE : Hid (st l k = (be l k || bs l k)) := rfl
  generalize be l k = x at *
  generalize bs l k = y at *
  generalize st l k = r at *
  cases x
  · go_enter Tryd.func35, Tryd.ntmps35
    go_wp2_with fail
    refine C1.out.mono ?_
    rintro e w' ⟨rfl, hq⟩
    have hq2 := hq.symm; subst hq2; clear hq
    go_wp2_with fail
    refine C2.out.mono ?_
    rintro e w' ⟨rfl, hb⟩
    go_wp2
    go_ret
    exact ⟨by rw [HE.out]; cases y <;> rfl, hb⟩
  · go_enter Tryd.func35, Tryd.ntmps35
    go_wp2_with fail
    refine C1.out.mono ?_
    rintro e w' ⟨rfl, hq⟩
    have hq2 := hq.symm; subst hq2; clear hq
    go_wp2
    go_ret
    exact ⟨by rw [HE.out]; rfl, Below.refl _ _⟩

/-- a key's number; 0: it is none of the keys -/
def knl (t : List UInt8) : Nat := if t == [37] then 5 else if t == [125] then 1 else if t == [123] then 2 else if t == [41] then 3 else if t == [40] then 4 else 0
def kn (s : ByteArray) : Nat := knl s.toList
theorem kn_rules (s : ByteArray) (k : Nat) (h : kn s = k) : (s.toList == [37]) = (k == 5) ∧ (s.toList == [125]) = (k == 1) ∧ (s.toList == [123]) = (k == 2) ∧ (s.toList == [41]) = (k == 3) ∧ (s.toList == [40]) = (k == 4) := by
  unfold kn at h
  generalize s.toList = t at *
  unfold knl at h
  by_cases ht : t ∈ [[37], [125], [123], [41], [40]]
  · simp only [List.mem_cons, List.not_mem_nil, or_false] at ht
    rcases ht with rfl | rfl | rfl | rfl | rfl <;> (subst h; decide)
  · simp only [List.mem_cons, List.not_mem_nil, or_false, not_or] at ht
    obtain ⟨h1, h2, h3, h4, h5⟩ := ht
    simp only [beq_false_of_ne h1, beq_false_of_ne h2, beq_false_of_ne h3, beq_false_of_ne h4, beq_false_of_ne h5, Bool.false_eq_true, if_false] at h
    subst h
    exact ⟨beq_false_of_ne h1, beq_false_of_ne h2, beq_false_of_ne h3, beq_false_of_ne h4, beq_false_of_ne h5⟩
theorem kn_le (s : ByteArray) : kn s ≤ 5 := by unfold kn knl; split; omega; split; omega; split; omega; split; omega; split <;> omega

/-- the motion of a key -/
def mot (way : Int) (f : Nat) : Value := .agg #[.int .i64 way, .func (.func f) #[] #[]]
set_option maxHeartbeats 1000000 in
theorem motion_1 (s : ByteArray) (w : World) (h : kn s = 1) : Calls Tryd.prog 24 #[.string s] w fun e w' => e = .returned (.tuple #[mot 1 33, .bool true]) ∧ Below w.heap.size w w' := by
  obtain ⟨r1, r2, r3, r4, r5⟩ := kn_rules s 1 h
  clear h
  go_enter Tryd.func24, Tryd.ntmps24
  go_wp2
  exact bodyPost_ret (v := .tuple #[mot 1 33, .bool true]) (by simp [results, Tryd.results24, go_sem, mot]) rfl ⟨rfl, by repeat (first | exact bAlloc (Below.refl _ _) _ | refine Below.setCell ?_ (Nat.le_refl _) _)⟩
set_option maxHeartbeats 1000000 in
theorem motion_2 (s : ByteArray) (w : World) (h : kn s = 2) : Calls Tryd.prog 24 #[.string s] w fun e w' => e = .returned (.tuple #[mot (-1) 34, .bool true]) ∧ Below w.heap.size w w' := by
  obtain ⟨r1, r2, r3, r4, r5⟩ := kn_rules s 2 h
  clear h
  go_enter Tryd.func24, Tryd.ntmps24
  go_wp2
  exact bodyPost_ret (v := .tuple #[mot (-1) 34, .bool true]) (by simp [results, Tryd.results24, go_sem, mot]) rfl ⟨rfl, by repeat (first | exact bAlloc (Below.refl _ _) _ | refine Below.setCell ?_ (Nat.le_refl _) _)⟩
set_option maxHeartbeats 1000000 in
theorem motion_3 (s : ByteArray) (w : World) (h : kn s = 3) : Calls Tryd.prog 24 #[.string s] w fun e w' => e = .returned (.tuple #[mot 1 35, .bool true]) ∧ Below w.heap.size w w' := by
  obtain ⟨r1, r2, r3, r4, r5⟩ := kn_rules s 3 h
  clear h
  go_enter Tryd.func24, Tryd.ntmps24
  go_wp2
  exact bodyPost_ret (v := .tuple #[mot 1 35, .bool true]) (by simp [results, Tryd.results24, go_sem, mot]) rfl ⟨rfl, by repeat (first | exact bAlloc (Below.refl _ _) _ | refine Below.setCell ?_ (Nat.le_refl _) _)⟩
set_option maxHeartbeats 1000000 in
theorem motion_4 (s : ByteArray) (w : World) (h : kn s = 4) : Calls Tryd.prog 24 #[.string s] w fun e w' => e = .returned (.tuple #[mot (-1) 35, .bool true]) ∧ Below w.heap.size w w' := by
  obtain ⟨r1, r2, r3, r4, r5⟩ := kn_rules s 4 h
  clear h
  go_enter Tryd.func24, Tryd.ntmps24
  go_wp2
  exact bodyPost_ret (v := .tuple #[mot (-1) 35, .bool true]) (by simp [results, Tryd.results24, go_sem, mot]) rfl ⟨rfl, by repeat (first | exact bAlloc (Below.refl _ _) _ | refine Below.setCell ?_ (Nat.le_refl _) _)⟩
set_option maxHeartbeats 1000000 in
theorem motion_0 (s : ByteArray) (w : World) (h : kn s = 0) : Calls Tryd.prog 24 #[.string s] w fun e w' => e = .returned (.tuple #[.agg #[.int .i64 0, .nilFunc], .bool false]) ∧ Below w.heap.size w w' := by
  obtain ⟨r1, r2, r3, r4, r5⟩ := kn_rules s 0 h
  clear h
  go_enter Tryd.func24, Tryd.ntmps24
  go_wp2
  exact bodyPost_ret (v := .tuple #[.agg #[.int .i64 0, .nilFunc], .bool false]) (by simp [results, Tryd.results24, go_sem]) rfl ⟨rfl, by repeat (first | exact bAlloc (Below.refl _ _) _ | refine Below.setCell ?_ (Nat.le_refl _) _)⟩

/-- one step up: from q on, g bytes are left; one step down -/
def nu (P : Nat → Bool) : Nat → Nat → Nat
  | 0, q => q
  | g + 1, q => if P q = true then q else nu P g (q + 1)
def nd (P : Nat → Bool) : Nat → Nat
  | 0 => 0
  | q + 1 => if P (q + 1) = true then q + 1 else nd P q
def su (P : Nat → Bool) (n p : Nat) : Option Nat := if p = n then none else some (nu P (n - (p + 1)) (p + 1))
def sd (P : Nat → Bool) (p : Nat) : Option Nat := if p = 0 then none else some (nd P (p - 1))
/-- so many steps -/
def it (s : Nat → Option Nat) : Nat → Nat → Option Nat
  | 0, p => some p
  | m + 1, p => (s p).bind (it s m)
theorem nu_le (P : Nat → Bool) : ∀ g q, q ≤ nu P g q ∧ nu P g q ≤ q + g
  | 0, q => ⟨Nat.le_refl _, Nat.le_refl _⟩
  | g + 1, q => by unfold nu; split; omega; have := nu_le P g (q + 1); omega
theorem nd_le (P : Nat → Bool) : ∀ q, nd P q ≤ q
  | 0 => Nat.le_refl _
  | q + 1 => by unfold nd; split; omega; have := nd_le P q; omega
/-- what a motion answers -/
def mvE (p : Nat) (kind : Int) (o : Option Nat) : Ending := match o with
  | none => .returned (.tuple #[.agg #[.int .i64 0, .int .i64 0, .int .i64 0], .int .i64 70])
  | some q => .returned (.tuple #[.agg #[.int .i64 p, .int .i64 q, .int .i64 kind], .int .i64 0])
end Go.Proofs.YtkapddemgodamaaDoor
