/- bytes.Clone, the reference's copied, bytes.Equal, bytes.HasPrefix. -/
import Derived.Test.YthklmdnamkjgmaaBlk
namespace Go.Proofs.Ythklmdnamkjgmaa
open Go.RowKit

set_option maxRecDepth 8000
/-- a new list of bytes -/
def NewP (n : Nat) (l : List UInt8) (w : World) (e : Ending) (w' : World) : Prop := ∃ v, e = .returned v ∧ w'.ownsRow w.heap.size 5 1 v n (bv l) ∧ Below w.heap.size w w'
theorem own_tx {w : World} {base n : Nat} {v : Value} {l : List UInt8} (h : w.ownsRow base 5 1 v n (bv l)) (hb : n ≤ 150000000000000) : ∃ ao c, v = .slice ao n c ∧ Tx w ao n c l := by
  have hl : l.length = n := by have := h.1; rw [bv_length] at this; omega
  rcases h.2 with ⟨rfl, rfl⟩ | ⟨g, cap, cur, rfl, h1, h2, h3, h4, h5, h6⟩
  · have : l = [] := List.eq_nil_of_length_eq_zero hl
    subst this
    exact ⟨none, 0, rfl, tx_nil w⟩
  · refine ⟨_, cap, rfl, hl, h3, hb, (fun h => by cases h), fun a ha j hj => ?_⟩
    obtain rfl : (⟨g, 0, none⟩ : Addr) = a := by simpa using ha
    rw [add_none, Nat.zero_add, h.cellAt j (by omega)]
    exact bv_at l j (by omega)
set_option maxHeartbeats 1000000 in
theorem clone_any (ao : Option Addr) (n c : Nat) (l : List UInt8) (w : World) (hb : n ≤ 140737488355328) (h : Hid (Tx w ao n c l)) :
    Calls Try.prog 30 #[.slice ao n c] w fun e w' => NewP n l w e w' := by
  have hlen := Hid.mk' h.out.len
  have q22 : ∀ (w : World) (a : Option Addr) (n c n' c' : Nat), (binOp .eql 22 (.slice a n c) (.slice none n' c')).run Try.prog w = .ok (.bool a.isNone) w := fun w a n c n' c' => Lib.run_eql_slice_nil w _ _ a n c n' c' Try.underlying22
  cases ao with
  | none =>
    obtain ⟨rfl, rfl, rfl⟩ := h.out.none
    go_enter Try.func30, Try.ntmps30
    go_wp2
    go_ret
    exact ⟨_, rfl, ⟨rfl, .inl ⟨rfl, rfl⟩⟩, Below.refl _ _⟩
  | some a =>
    go_enter Try.func30, Try.ntmps30
    go_wp2_with (at_builtin; refine append_big rfl (.tmp 5) (.tmp 6) rfl w.heap.size (.slice (some ⟨w.heap.size, 0, none⟩) 0 0) 0 [] rfl (World.ownsRow_made w #[] 0 (Nat.le_refl _) (Nat.zero_le _) rfl) (.slice (some a) n c) n (bv l) rfl ((h.out.keep (bAlloc (Below.refl _ _) _)).srv) (by rw [bv_length]; exact hlen.out) (bv_one l) (by omega) (by omega) (by simp) ?_)
    intro v1 w1 hown hgrow _
    have HW1 : Hid (w1.ownsRow w.heap.size 5 1 v1 n (bv l)) := by unfold Hid; simpa using hown
    have L1 : Hid (Below w.heap.size w w1) := ((Below.refl _ w).alloc (Nat.le_refl _) _).grown hgrow (by simp) (by intro k hk; simp [Value.ownBlock] at hk; omega)
    clear hown hgrow
    go_wp2
    go_ret
    exact ⟨v1, rfl, HW1.out, L1.out⟩
set_option maxHeartbeats 1000000 in
theorem rcopied_any (ao : Option Addr) (n c : Nat) (l : List UInt8) (w : World) (hb : n ≤ 140737488355328) (h : Hid (Tx w ao n c l)) :
    Calls Try.prog 35 #[.slice ao n c] w fun e w' => NewP n l w e w' := by
  have hlen := Hid.mk' h.out.len
  go_enter Try.func35, Try.ntmps35
  go_wp2_with (at_builtin; refine append_big rfl (.tmp 3) (.tmp 4) rfl w.heap.size (.slice (some ⟨w.heap.size, 0, none⟩) 0 0) 0 [] rfl (World.ownsRow_made w #[] 0 (Nat.le_refl _) (Nat.zero_le _) rfl) (.slice ao n c) n (bv l) rfl ((h.out.keep (bAlloc (Below.refl _ _) _)).srv) (by rw [bv_length]; exact hlen.out) (bv_one l) (by omega) (by omega) (by simp) ?_)
  intro v1 w1 hown hgrow _
  have HW1 : Hid (w1.ownsRow w.heap.size 5 1 v1 n (bv l)) := by unfold Hid; simpa using hown
  have L1 : Hid (Below w.heap.size w w1) := ((Below.refl _ w).alloc (Nat.le_refl _) _).grown hgrow (by simp) (by intro k hk; simp [Value.ownBlock] at hk; omega)
  clear hown hgrow
  go_wp2
  go_ret
  exact ⟨v1, rfl, HW1.out, L1.out⟩
theorem equal_any (a1 : Option Addr) (n1 c1 : Nat) (l1 : List UInt8) (a2 : Option Addr) (n2 c2 : Nat) (l2 : List UInt8) (w : World) (h1 : Hid (Tx w a1 n1 c1 l1)) (h2 : Hid (Tx w a2 n2 c2 l2)) :
    Calls Try.prog 36 #[.slice a1 n1 c1, .slice a2 n2 c2] w fun e w' => e = .returned (.bool (l1 == l2)) ∧ w' = w := by
  have e1 := conv_tx h1.out
  have e2 := conv_tx h2.out
  generalize hq : (l1 == l2) = q
  go_enter Try.func36, Try.ntmps36
  go_wp2
  go_ret
  exact ⟨by simp [← hq], rfl⟩
end Go.Proofs.Ythklmdnamkjgmaa
