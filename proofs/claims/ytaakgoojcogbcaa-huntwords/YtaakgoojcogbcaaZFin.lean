/- Find. -/
import Derived.Test.YtaakgoojcogbcaaZFrm
namespace Go.Proofs.Ytaakgoojcogbcaa
open Go.RowKit
/-- what Find tells -/
def FI (l : List Th) (line : List UInt8) (from_ : Int) (a b : Nat) (ok : Bool) : Prop :=
  ((from_ < 0 ∨ (line.length : Int) < from_) ∧ a = 0 ∧ b = 0 ∧ ok = false) ∨ (0 ≤ from_ ∧ from_ ≤ line.length ∧ FS l line from_.toNat a b ok)
theorem FI.one {l : List Th} {line : List UInt8} {f : Int} {a b a' b' : Nat} {ok ok' : Bool} (h : FI l line f a b ok) (h' : FI l line f a' b' ok') : a = a' ∧ b = b' ∧ ok = ok' := by
  rcases h with ⟨h0, h1, h2, h3⟩ | ⟨h0, h1, h2⟩ <;> rcases h' with ⟨g0, g1, g2, g3⟩ | ⟨g0, g1, g2⟩
  · exact ⟨by omega, by omega, by rw [h3, g3]⟩
  · omega
  · omega
  · exact h2.one g2
/-- .. and what it leaves -/
def Fnd (l : List Th) (line : List UInt8) (f : Int) (W : World) (e : Ending) (W' : World) : Prop := ∃ (a b : Nat) (ok : Bool), e = .returned (.tuple #[.int .i64 (a : Int), .int .i64 (b : Int), .bool ok]) ∧ FI l line f a b ok ∧ Below W.heap.size W W'
set_option maxRecDepth 8000 in
set_option maxHeartbeats 4000000 in
theorem find_nil (W : World) (ao : Option Addr) (nl cl : Nat) (f : Int) :
    Calls Try.prog 13 #[.pointer none, .slice ao nl cl, .int .i64 f] W fun e W' => e = .returned (.tuple #[.int .i64 0, .int .i64 0, .bool false]) ∧ W' = W := by
  go_enter Try.func13, Try.ntmps13
  go_wp2
  go_ret3
  exact ⟨rfl, rfl⟩
set_option maxRecDepth 8000 in
set_option maxHeartbeats 4000000 in
theorem find_any (base : Nat) (W : World) (P : Nat) (l : List Th) (ao : Option Addr) (nl cl : Nat) (line : List UInt8) (f : Int) (hl : l.length ≤ 256) (HP : Hid (Pat base W P l)) (HT : Hid (Tx W ao nl cl line)) :
    Calls Try.prog 13 #[.pointer (some ⟨P, 0, none⟩), .slice ao nl cl, .int .i64 f] W fun e W' => Fnd l line f W e W' := by
  have hlen := HT.out.len
  by_cases h0 : f < 0
  · have h0' : decide (f < 0) = true := decide_eq_true h0
    go_enter Try.func13, Try.ntmps13
    go_wp2
    go_ret3
    exact ⟨0, 0, false, rfl, .inl ⟨.inl h0, rfl, rfl, rfl⟩, Below.refl _ _⟩
  · have h0' : decide (f < 0) = false := decide_eq_false h0
    by_cases h1 : (nl : Int) < f
    · have h1' : decide ((nl : Int) < f) = true := decide_eq_true h1
      go_enter Try.func13, Try.ntmps13
      go_wp2
      go_ret3
      exact ⟨0, 0, false, rfl, .inl ⟨.inr (by omega), rfl, rfl, rfl⟩, Below.refl _ _⟩
    · have h1' : decide ((nl : Int) < f) = false := decide_eq_false h1
      obtain ⟨k, hk⟩ : ∃ k : Nat, f = (k : Int) := ⟨f.toNat, by omega⟩
      subst hk
      obtain ⟨_, tv, hb, ho⟩ := HP.out
      obtain ⟨ax, cx, etv⟩ := own_shape ho
      subst etv
      have cp : W.cell? ⟨P, 0, none⟩ = some (.slice ax l.length cx) := hb.cell (j := 0) rfl
      have HTh := Hid.mk' (ths_own ho)
      have CN := Hid.mk' (new_any W ax cx ao nl cl l hl)
      clear hb ho
      go_enter Try.func13, Try.ntmps13
      go_wp2_with (first | (go_at_call 31; refine CN.out.mono ?_; rintro e w1 ⟨Sb, gb, gn, rfl, hs⟩; have S1 := Hid.mk' hs; clear hs) | (go_at_call 32; refine (from_any W _ _ Sb gb gn ax cx ao nl cl l _ _ line k (by omega) hl HTh HT S1).mono ?_; rintro e w2 ⟨a, b, ok, gb2, gn2, g2, h2, rfl, hfs, hs2, _⟩))
      go_ret3
      exact ⟨a, b, ok, rfl, .inr ⟨by omega, by omega, by rw [Int.toNat_natCast]; exact hfs⟩, hs2.bel⟩
end Go.Proofs.Ytaakgoojcogbcaa
