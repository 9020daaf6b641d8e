/- Apply and Check, where the edits fit and where they do not; ChangeApplies, walked. -/
import Derived.Test.YthklmdnamkjgmaaPlw
namespace Go.Proofs.Ythklmdnamkjgmaa
open Go.RowKit

set_option maxRecDepth 8000
/-- a text made by a call: its list is a row of its own -/
def TxP (U : List UInt8) (w : World) (e : Ending) (w' : World) : Prop := ∃ v, e = .returned (.tuple #[v, .int .i64 0]) ∧ w'.ownsRow w.heap.size 5 1 v U.length (bv U) ∧ Below w.heap.size w w'
theorem apply_some (ao : Option Addr) (n c : Nat) (T : List UInt8) (eo : Option Addr) (en ec : Nat) (E : List Er) (w : World) (hT : Hid (Tx w ao n c T)) (hb : n ≤ 140737488355328) (HE : Hid (Edz w eo E)) (hn : E.length = en) (heb : en ≤ 140737488355328) (HM : Hid (Mod T (E.map Er.d))) {U : List UInt8} (hz : app T (E.map Er.d) = some U) : Calls Try.prog 13 #[.slice ao n c, .slice eo en ec] w fun e w' => TxP U w e w' := by
  have := apply_any ao n c T eo en ec E w hT hb HE hn heb HM
  rw [hz] at this
  refine this.mono fun e w' h => ?_
  rcases h with ⟨U', v, e1, e2, e3, e4⟩ | ⟨e1, _⟩
  · injection e1 with e1; subst e1; exact ⟨v, e2, e3, e4⟩
  · cases e1
theorem apply_none (ao : Option Addr) (n c : Nat) (T : List UInt8) (eo : Option Addr) (en ec : Nat) (E : List Er) (w : World) (hT : Hid (Tx w ao n c T)) (hb : n ≤ 140737488355328) (HE : Hid (Edz w eo E)) (hn : E.length = en) (heb : en ≤ 140737488355328) (HM : Hid (Mod T (E.map Er.d))) (hz : app T (E.map Er.d) = none) : Calls Try.prog 13 #[.slice ao n c, .slice eo en ec] w fun e w' => e = .returned (.tuple #[.slice none 0 0, .int .i64 170]) ∧ Below w.heap.size w w' := by
  have := apply_any ao n c T eo en ec E w hT hb HE hn heb HM
  rw [hz] at this
  refine this.mono fun e w' h => ?_
  rcases h with ⟨U', v, e1, _⟩ | ⟨_, e2, e3⟩
  · cases e1
  · exact ⟨e2, e3⟩
theorem rapply_some (ao : Option Addr) (n c : Nat) (T : List UInt8) (eo : Option Addr) (en ec : Nat) (E : List Er) (w : World) (hT : Hid (Tx w ao n c T)) (hb : n ≤ 140737488355328) (HE : Hid (Edz w eo E)) (hn : E.length = en) (heb : en ≤ 140737488355328) (HM : Hid (Mod T (E.map Er.d))) {U : List UInt8} (hz : app T (E.map Er.d) = some U) : Calls Try.prog 12 #[.slice ao n c, .slice eo en ec] w fun e w' => TxP U w e w' := by
  have := rapply_any ao n c T eo en ec E w hT hb HE hn heb HM
  rw [hz] at this
  refine this.mono fun e w' h => ?_
  rcases h with ⟨U', v, e1, e2, e3, e4⟩ | ⟨e1, _⟩
  · injection e1 with e1; subst e1; exact ⟨v, e2, e3, e4⟩
  · cases e1
theorem rapply_none (ao : Option Addr) (n c : Nat) (T : List UInt8) (eo : Option Addr) (en ec : Nat) (E : List Er) (w : World) (hT : Hid (Tx w ao n c T)) (hb : n ≤ 140737488355328) (HE : Hid (Edz w eo E)) (hn : E.length = en) (heb : en ≤ 140737488355328) (HM : Hid (Mod T (E.map Er.d))) (hz : app T (E.map Er.d) = none) : Calls Try.prog 12 #[.slice ao n c, .slice eo en ec] w fun e w' => e = .returned (.tuple #[.slice none 0 0, .int .i64 170]) ∧ Below w.heap.size w w' := by
  have := rapply_any ao n c T eo en ec E w hT hb HE hn heb HM
  rw [hz] at this
  refine this.mono fun e w' h => ?_
  rcases h with ⟨U', v, e1, _⟩ | ⟨_, e2, e3⟩
  · cases e1
  · exact ⟨e2, e3⟩
theorem check_some (ao : Option Addr) (n c : Nat) (T : List UInt8) (eo : Option Addr) (en ec : Nat) (E : List Er) (w : World) (hT : Hid (Tx w ao n c T)) (hb : n ≤ 140737488355328) (HE : Hid (Edz w eo E)) (hn : E.length = en) (heb : en ≤ 140737488355328) (HM : Hid (Mod T (E.map Er.d))) {U : List UInt8} (hz : app T (E.map Er.d) = some U) : Calls Try.prog 14 #[.slice ao n c, .slice eo en ec] w fun e w' => e = .returned (.int .i64 0) ∧ Below w.heap.size w w' := by
  have := check_any ao n c T eo en ec E w hT hb HE hn heb HM
  rw [hz] at this
  exact this
theorem check_none (ao : Option Addr) (n c : Nat) (T : List UInt8) (eo : Option Addr) (en ec : Nat) (E : List Er) (w : World) (hT : Hid (Tx w ao n c T)) (hb : n ≤ 140737488355328) (HE : Hid (Edz w eo E)) (hn : E.length = en) (heb : en ≤ 140737488355328) (HM : Hid (Mod T (E.map Er.d))) (hz : app T (E.map Er.d) = none) : Calls Try.prog 14 #[.slice ao n c, .slice eo en ec] w fun e w' => e = .returned (.int .i64 170) ∧ Below w.heap.size w w' := by
  have := check_any ao n c T eo en ec E w hT hb HE hn heb HM
  rw [hz] at this
  exact this
theorem nsum_app (A B : List Ed) : nsum (A ++ B) = nsum A + nsum B := by simp [nsum]
theorem nsum_part (D : List Ed) (k : Nat) : nsum (D.take k) ≤ nsum D := by
  conv => rhs; rw [← List.take_append_drop k D, nsum_app]
  omega
theorem mod_of {T : List UInt8} {D : List Ed} (h : T.length + nsum D ≤ 140737488355328) : Mod T D := fun k U hU => by
  have h1 := app_len hU
  have h2 := nsum_part D k
  omega
set_option maxHeartbeats 16000000 in
theorem changeApplies_walk (ao : Option Addr) (n c : Nat) (T : List UInt8) (eo : Option Addr) (en ec : Nat) (E : List Er) (w : World) (hT : Hid (Tx w ao n c T)) (HE : Hid (Edz w eo E)) (hn : E.length = en) (hb : n + nsum (E.map Er.d) ≤ 1048576) (heb : en ≤ 1048576) :
    Calls Try.prog 3 #[.slice ao n c, .slice eo en ec] w fun e w' => e = .returned (.bool true) ∧ Below w.heap.size w w' := by
  have HN := Hid.mk' hn
  have HM : Hid (Mod T (E.map Er.d)) := mod_of (by rw [hT.out.len]; omega)
  have hnb : n ≤ 1048576 := by omega
  have HUB : Hid (∀ U, app T (E.map Er.d) = some U → U.length ≤ 1048576) := fun U hU => by
    have h1 := app_len hU
    rw [hT.out.len] at h1
    omega
  clear hn hb
  cases hz : app T (E.map Er.d) with
  | none =>
    have HZ := Hid.mk' hz
    clear hz
    go_enter Try.func3, Try.ntmps3
    go_wp2_with fail
    refine (alive_any w).mono ?_
    rintro e w1 ⟨rfl, hb⟩
    have L1 : Hid (Below w.heap.size w w1) := bT (Below.refl _ w) hb
    clear hb
    dsimp only
    go_wp2_with fail
    refine (great_any ao n c eo en ec E w1 (HE.out.keep L1.out) HN.out (by omega) (by omega)).mono ?_
    rintro e w2 ⟨gb, rfl, hb, -⟩
    have L2 : Hid (Below w.heap.size w w2) := bT L1.out hb
    clear hb
    dsimp only
    cases gb with
    | true =>
      go_wp2
      go_ret
      exact ⟨rfl, L2.out⟩
    | false =>
    go_wp2_with fail
    refine (rapply_none ao n c T eo en ec E w2 (hT.out.keep L2.out) (by omega) (HE.out.keep L2.out) HN.out (by omega) HM.out HZ.out).mono ?_
    rintro e w3 ⟨rfl, hb⟩
    have L3 : Hid (Below w.heap.size w w3) := bT L2.out hb
    clear hb
    dsimp only
    go_wp2_with fail
    refine (apply_none ao n c T eo en ec E w3 (hT.out.keep L3.out) (by omega) (HE.out.keep L3.out) HN.out (by omega) HM.out HZ.out).mono ?_
    rintro e w4 ⟨rfl, hb⟩
    have L4 : Hid (Below w.heap.size w w4) := bT L3.out hb
    clear hb
    dsimp only
    have v1 := conv_tx (tx_nil w4)
    go_wp2_with fail
    refine (check_none ao n c T eo en ec E w4 (hT.out.keep L4.out) (by omega) (HE.out.keep L4.out) HN.out (by omega) HM.out HZ.out).mono ?_
    rintro e w5 ⟨rfl, hb⟩
    have L5 : Hid (Below w.heap.size w w5) := bT L4.out hb
    clear hb v1
    dsimp only
    go_wp2
    go_ret
    exact ⟨rfl, L5.out⟩
  | some U =>
    have HZ := Hid.mk' hz
    have hUb := HUB.out U hz
    clear hz
    go_enter Try.func3, Try.ntmps3
    go_wp2_with fail
    refine (alive_any w).mono ?_
    rintro e w1 ⟨rfl, hb⟩
    have L1 : Hid (Below w.heap.size w w1) := bT (Below.refl _ w) hb
    clear hb
    dsimp only
    go_wp2_with fail
    refine (great_any ao n c eo en ec E w1 (HE.out.keep L1.out) HN.out (by omega) (by omega)).mono ?_
    rintro e w2 ⟨gb, rfl, hb, -⟩
    have L2 : Hid (Below w.heap.size w w2) := bT L1.out hb
    clear hb
    dsimp only
    cases gb with
    | true =>
      go_wp2
      go_ret
      exact ⟨rfl, L2.out⟩
    | false =>
    go_wp2_with fail
    refine (rapply_some ao n c T eo en ec E w2 (hT.out.keep L2.out) (by omega) (HE.out.keep L2.out) HN.out (by omega) HM.out HZ.out).mono ?_
    rintro e w3 ⟨v3, rfl, hO3, hb⟩
    have L3 : Hid (Below w.heap.size w w3) := bT L2.out hb
    obtain ⟨a3, c3, rfl, hX3⟩ := own_tx hO3 (by omega)
    have X3 := Hid.mk' hX3
    clear hb hO3 hX3
    dsimp only
    go_wp2_with fail
    refine (apply_some ao n c T eo en ec E w3 (hT.out.keep L3.out) (by omega) (HE.out.keep L3.out) HN.out (by omega) HM.out HZ.out).mono ?_
    rintro e w4 ⟨v4, rfl, hO4, hb⟩
    have L4 : Hid (Below w.heap.size w w4) := bT L3.out hb
    have N4 : Hid (Below w3.heap.size w3 w4) := hb
    obtain ⟨a4, c4, rfl, hX4⟩ := own_tx hO4 (by omega)
    have X4 := Hid.mk' hX4
    clear hb hO4 hX4
    dsimp only
    have v1 := conv_tx X4.out
    have v2 := conv_tx (X3.out.keep N4.out)
    go_wp2_with fail
    refine (check_some ao n c T eo en ec E w4 (hT.out.keep L4.out) (by omega) (HE.out.keep L4.out) HN.out (by omega) HM.out HZ.out).mono ?_
    rintro e w5 ⟨rfl, hb⟩
    have L5 : Hid (Below w.heap.size w w5) := bT L4.out hb
    clear hb v1 v2
    dsimp only
    go_wp2
    go_ret
    exact ⟨rfl, L5.out⟩
end Go.Proofs.Ythklmdnamkjgmaa
