/- The reference's things, whole; its Compile. -/
import Derived.Test.YtaakgoojcogbcaaZThf
namespace Go.Proofs.Ytaakgoojcogbcaa
open Go.RowKit
set_option maxRecDepth 8000 in
set_option maxHeartbeats 4000000 in
theorem things_nil (w : World) (ao : Option Addr) (c : Nat) :
    Calls Try.prog 33 #[.slice ao 0 c] w fun e w' => ThiP w [] e w' := by
  go_enter Try.func33, Try.ntmps33
  go_wp2_with fail
  go_loopg [5, 6, 7, 8, 9, 10, 11, 12, 13, 14] 1 (fun m x5 x6 x7 x8 x9 x10 x11 x12 x13 x14 wx => x5 = .slice none 0 0 ∧ x6 = .int .i64 0 ∧ wx = w)
  case atStart => exact ⟨rfl, rfl, rfl⟩
  case round =>
    obtain ⟨rfl, rfl, rfl⟩ := hrel
    go_wp2
    refine bodyPost_ret (results_tmp3 rfl _ _ _) rfl ?_
    exact ⟨Below.refl _ _, .inr (.inr ⟨by decide, rfl, Nat.le_refl _, _, [], rfl, Req.nil, rfl, .inl ⟨rfl, rfl⟩⟩)⟩
set_option maxRecDepth 8000 in
set_option maxHeartbeats 4000000 in
theorem things_any (w : World) (ao : Option Addr) (n c : Nat) (p : List UInt8) (HT : Hid (Tx w ao n c p)) :
    Calls Try.prog 33 #[.slice ao n c] w fun e w' => ThiP w p e w' := by
  have hn : p.length = n := HT.out.len
  by_cases h256 : 256 < n
  · have h' : (256 : Int) < (n : Int) := by omega
    go_enter Try.func33, Try.ntmps33
    go_wp2
    refine bodyPost_ret (results_tmp3 rfl _ _ _) rfl ?_
    exact ⟨Below.refl _ _, .inl ⟨by omega, rfl⟩⟩
  · by_cases h0 : n = 0
    · have hp : p = [] := List.eq_nil_of_length_eq_zero (by omega)
      subst hp h0
      exact things_nil w ao c
    · obtain ⟨g, o, e1, _⟩ := HT.out.at (by omega)
      subst e1
      by_cases h94 : bn p 0 = 94
      · exact things_front w g o n c p h0 (by omega) h94 HT
      · exact things_plain w g o n c p h0 (by omega) h94 HT
/-- the reference's Compile -/
def RcP (w : World) (p : List UInt8) (e : Ending) (w' : World) : Prop :=
  Below w.heap.size w w' ∧ ∃ a b : Int, e = .returned (.tuple #[.int .i64 a, .int .i64 b]) ∧ ((256 < p.length ∧ a = 0 ∧ b = 1) ∨ (p.length ≤ 256 ∧ (cmp p).1 ≠ -1 ∧ a = (cmp p).1 ∧ b = 110) ∨ (p.length ≤ 256 ∧ (cmp p).1 = -1 ∧ a = 0 ∧ b = 0))
set_option maxRecDepth 8000 in
set_option maxHeartbeats 4000000 in
theorem rcompile_any (w : World) (ao : Option Addr) (n c : Nat) (p : List UInt8) (HT : Hid (Tx w ao n c p)) :
    Calls Try.prog 40 #[.slice ao n c] w fun e w' => RcP w p e w' := by
  have C := Hid.mk' (things_any w ao n c p HT)
  go_enter Try.func40, Try.ntmps40
  go_wp2_with fail
  refine C.out.mono ?_
  rintro e w1 ⟨hb, h⟩
  rcases h with ⟨h1, rfl⟩ | ⟨h1, h2, rfl⟩ | ⟨h1, h2, h3, v, rl, rfl, hq, ho⟩
  · go_wp2
    go_ret2
    exact ⟨hb, _, _, rfl, .inl ⟨h1, rfl, rfl⟩⟩
  · go_wp2
    go_ret2
    exact ⟨hb, _, _, rfl, .inr (.inl ⟨h1, h2, rfl, rfl⟩)⟩
  · obtain ⟨ax, cx, e⟩ := own_shape ho
    subst e
    clear ho
    go_wp2
    go_ret2
    exact ⟨hb, _, _, rfl, .inr (.inr ⟨h1, h2, rfl, rfl⟩)⟩
end Go.Proofs.Ytaakgoojcogbcaa
