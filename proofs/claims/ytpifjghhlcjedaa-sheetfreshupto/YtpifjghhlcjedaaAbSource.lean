/- The contracts of (*Buffer).source and (*Buffer).Size, for every buffer, the nil one too, and every number. -/
import Derived.Test.YtpifjghhlcjedaaAbNew
namespace Go.Proofs.Ytpifjghhlcjedaa.Ab
open Go.RowKit

/-- A buffer's pointer p: nil, or a buffer that New made: its original text and what was added. -/
def Bf (W : World) (base : Nat) (p : Option Addr) (O A : List UInt8) : Prop :=
  (p = none ∧ O = [] ∧ A = []) ∨ ∃ b vo va, p = some ⟨b, 0, none⟩ ∧ BufAt W base b vo va O A

theorem Bf.keep {W W' : World} {base : Nat} {p : Option Addr} {O A : List UInt8} (h : Bf W base p O A) (hb : Below W.heap.size W W') : Bf W' base p O A := by
  rcases h with h | ⟨b, vo, va, rfl, h⟩
  · exact .inl h
  · exact .inr ⟨b, vo, va, rfl, h.keep hb⟩
theorem Bf.alloc {W : World} {base : Nat} {p : Option Addr} {O A : List UInt8} (h : Bf W base p O A) (x : Obj) : Bf (W.alloc x) base p O A := h.keep (bAlloc (Below.refl _ _) x)
theorem Bf.drew {W : World} {base : Nat} {p : Option Addr} {O A : List UInt8} (h : Bf W base p O A) : Bf W.drew base p O A := h.keep (Below.refl _ _).drew

/-- The bytes of the one buffer or the other. -/
def which (k : Int) (O A : List UInt8) : List UInt8 := if k = 0 then O else if k = 1 then A else []

theorem own_le {w : World} {base e n : Nat} {v : Value} {xs : List Value} (h : w.ownsRow base e 1 v n xs) : n ≤ maxLen := by
  rcases h.2 with ⟨_, h0⟩ | ⟨_, cap, _, _, _, _, h1, h2, _⟩
  · omega
  · omega

set_option maxHeartbeats 400000 in
theorem source_any (p : Option Addr) (k : Int) (O A : List UInt8) (base : Nat) (w : World) (h : Hid (Bf w base p O A)) :
    Calls Try.prog 108 #[.pointer p, .int .i64 k] w fun e w' => ∃ ao c, e = .returned (.slice ao (which k O A).length c) ∧ w' = w ∧ w.ownsRow base 5 1 (.slice ao (which k O A).length c) (which k O A).length (bv (which k O A)) := by
  rcases h.out with ⟨rfl, rfl, rfl⟩ | ⟨b, vo, va, rfl, hB⟩
  · have e0 : which k [] [] = [] := by unfold which; split <;> (try split) <;> rfl
    rw [e0]
    clear h e0
    go_enter Try.func108, Try.ntmps108
    go_wp2
    go_ret
    exact ⟨_, _, rfl, rfl, World.ownsRow_nil _ _ _ _⟩
  · have c0 := hB.cell0
    have c1 := hB.cell1
    have o0 : Hid (w.ownsRow base 5 1 vo O.length (bv O)) := hB.orig
    have o1 : Hid (w.ownsRow base 5 1 va A.length (bv A)) := hB.added
    obtain ⟨a0, n0, rfl⟩ := own_shape o0.out
    obtain ⟨a1, n1, rfl⟩ := own_shape o1.out
    clear h hB
    by_cases k0 : k = 0
    · subst k0
      have e0 : which 0 O A = O := by simp [which]
      rw [e0]
      clear e0
      go_enter Try.func108, Try.ntmps108
      go_wp2
      go_ret
      exact ⟨_, _, rfl, rfl, o0.out⟩
    · by_cases k1 : k = 1
      · subst k1
        have e0 : which 1 O A = A := by simp [which]
        rw [e0]
        clear e0
        go_enter Try.func108, Try.ntmps108
        go_wp2
        go_ret
        exact ⟨_, _, rfl, rfl, o1.out⟩
      · have e0 : which k O A = [] := by simp [which, k0, k1]
        rw [e0]
        clear e0
        go_enter Try.func108, Try.ntmps108
        go_wp2
        go_ret
        exact ⟨_, _, rfl, rfl, World.ownsRow_nil _ _ _ _⟩

set_option maxHeartbeats 400000 in
theorem size_any (p : Option Addr) (k : Int) (O A : List UInt8) (base : Nat) (w : World) (h : Hid (Bf w base p O A)) :
    Calls Try.prog 80 #[.pointer p, .int .i64 k] w fun e w' => e = .returned (.int .i64 ((which k O A).length : Int)) ∧ w' = w := by
  go_enter Try.func80, Try.ntmps80
  go_wp2_with (go_at_call 108; refine (source_any _ _ O A base _ h).mono ?_; rintro e w' ⟨ao, c, rfl, rfl, -⟩)
  go_ret
  exact ⟨rfl, rfl⟩
end Go.Proofs.Ytpifjghhlcjedaa.Ab
