/- isFree. -/
import Derived.Test.YtaakgoojcogbcaaSe
namespace Go.Proofs.Ytaakgoojcogbcaa
open Go.RowKit
set_option maxRecDepth 8000 in
set_option maxHeartbeats 4000000 in
theorem free0 (W : World) (Sb : Nat) (ao : Option Addr) (nl cl : Nat) (line : List UInt8) (p : Nat) (V : Value) (hp : p ≤ nl) (HT : Hid (Tx W ao nl cl line)) (_c1 : W.cell? ⟨Sb, 1, none⟩ = some (.slice ao nl cl)) :
    Calls Try.prog 84 #[.pointer (some ⟨Sb, 0, none⟩), .iface 96 V, .int .i64 (p : Int)] W fun e W' => e = .returned (.bool (false)) ∧ W' = W := by
  have hbig := HT.out.big
  have hp' : (p : Int) ≤ (nl : Int) := by omega
  have hnb : (nl : Int) ≤ 140737488355328 := by omega
  have q0 : ∀ w, (Instr.typeAssert (.iface 96 V) 120 122 true).run Try.prog w = .ok (.tuple #[.agg #[.int .u64 0, .int .u64 0, .int .u64 0, .int .u64 0], .bool false]) w := fun w => ta91 96 _ w
  have q1 : ∀ w, (Instr.typeAssert (.iface 96 V) 120 89 true).run Try.prog w = .ok (.tuple #[.agg #[], .bool false]) w := fun w => ta65 96 _ w
  have q2 : ∀ w, (Instr.typeAssert (.iface 96 V) 120 90 true).run Try.prog w = .ok (.tuple #[.agg #[], .bool false]) w := fun w => ta66 96 _ w
  have q3 : ∀ w, (Instr.typeAssert (.iface 96 V) 120 123 true).run Try.prog w = .ok (.tuple #[.agg #[], .bool false]) w := fun w => ta92 96 _ w
  have q4 : ∀ w, (Instr.typeAssert (.iface 96 V) 120 124 true).run Try.prog w = .ok (.tuple #[.agg #[], .bool false]) w := fun w => ta93 96 _ w
  go_enter Try.func84, Try.ntmps84
  go_wp2
  go_ret
  exact ⟨rfl, rfl⟩
set_option maxRecDepth 8000 in
set_option maxHeartbeats 4000000 in
theorem free1 (W : World) (Sb : Nat) (ao : Option Addr) (nl cl : Nat) (line : List UInt8) (p : Nat) (V : Value) (hp : p ≤ nl) (HT : Hid (Tx W ao nl cl line)) (_c1 : W.cell? ⟨Sb, 1, none⟩ = some (.slice ao nl cl)) :
    Calls Try.prog 84 #[.pointer (some ⟨Sb, 0, none⟩), .iface 122 V, .int .i64 (p : Int)] W fun e W' => e = .returned (.bool (true)) ∧ W' = W := by
  have hbig := HT.out.big
  have hp' : (p : Int) ≤ (nl : Int) := by omega
  have hnb : (nl : Int) ≤ 140737488355328 := by omega
  have q0 : ∀ w, (Instr.typeAssert (.iface 122 V) 120 122 true).run Try.prog w = .ok (.tuple #[V, .bool true]) w := fun w => ta91 122 _ w
  go_enter Try.func84, Try.ntmps84
  go_wp2
  go_ret
  exact ⟨rfl, rfl⟩
set_option maxRecDepth 8000 in
set_option maxHeartbeats 4000000 in
theorem free2 (W : World) (Sb : Nat) (ao : Option Addr) (nl cl : Nat) (line : List UInt8) (p : Nat) (V : Value) (hp : p ≤ nl) (HT : Hid (Tx W ao nl cl line)) (_c1 : W.cell? ⟨Sb, 1, none⟩ = some (.slice ao nl cl)) :
    Calls Try.prog 84 #[.pointer (some ⟨Sb, 0, none⟩), .iface 89 V, .int .i64 (p : Int)] W fun e W' => e = .returned (.bool (decide (p = 0))) ∧ W' = W := by
  have hbig := HT.out.big
  have hp' : (p : Int) ≤ (nl : Int) := by omega
  have hnb : (nl : Int) ≤ 140737488355328 := by omega
  have q0 : ∀ w, (Instr.typeAssert (.iface 89 V) 120 122 true).run Try.prog w = .ok (.tuple #[.agg #[.int .u64 0, .int .u64 0, .int .u64 0, .int .u64 0], .bool false]) w := fun w => ta91 89 _ w
  have q1 : ∀ w, (Instr.typeAssert (.iface 89 V) 120 89 true).run Try.prog w = .ok (.tuple #[V, .bool true]) w := fun w => ta65 89 _ w
  by_cases h : p = 0
  · have h' : ((p : Int) == 0) = true := by simp; omega
    rw [decide_eq_true h]
    clear h
    go_enter Try.func84, Try.ntmps84
    go_wp2
    go_ret
    exact ⟨rfl, rfl⟩
  · have h' : ((p : Int) == 0) = false := by simp; omega
    rw [decide_eq_false h]
    go_enter Try.func84, Try.ntmps84
    go_wp2
    go_ret
    exact ⟨rfl, rfl⟩
set_option maxRecDepth 8000 in
set_option maxHeartbeats 4000000 in
theorem free3 (W : World) (Sb : Nat) (ao : Option Addr) (nl cl : Nat) (line : List UInt8) (p : Nat) (V : Value) (hp : p ≤ nl) (HT : Hid (Tx W ao nl cl line)) (c1 : W.cell? ⟨Sb, 1, none⟩ = some (.slice ao nl cl)) :
    Calls Try.prog 84 #[.pointer (some ⟨Sb, 0, none⟩), .iface 90 V, .int .i64 (p : Int)] W fun e W' => e = .returned (.bool (decide (p = nl))) ∧ W' = W := by
  have hbig := HT.out.big
  have hp' : (p : Int) ≤ (nl : Int) := by omega
  have hnb : (nl : Int) ≤ 140737488355328 := by omega
  have q0 : ∀ w, (Instr.typeAssert (.iface 90 V) 120 122 true).run Try.prog w = .ok (.tuple #[.agg #[.int .u64 0, .int .u64 0, .int .u64 0, .int .u64 0], .bool false]) w := fun w => ta91 90 _ w
  have q1 : ∀ w, (Instr.typeAssert (.iface 90 V) 120 89 true).run Try.prog w = .ok (.tuple #[.agg #[], .bool false]) w := fun w => ta65 90 _ w
  have q2 : ∀ w, (Instr.typeAssert (.iface 90 V) 120 90 true).run Try.prog w = .ok (.tuple #[V, .bool true]) w := fun w => ta66 90 _ w
  by_cases h : p = nl
  · have h' : ((p : Int) == (nl : Int)) = true := by simp; omega
    rw [decide_eq_true h]
    clear h
    go_enter Try.func84, Try.ntmps84
    go_wp2
    go_ret
    exact ⟨rfl, rfl⟩
  · have h' : ((p : Int) == (nl : Int)) = false := by simp; omega
    rw [decide_eq_false h]
    go_enter Try.func84, Try.ntmps84
    go_wp2
    go_ret
    exact ⟨rfl, rfl⟩
set_option maxRecDepth 8000 in
set_option maxHeartbeats 4000000 in
theorem free4 (W : World) (Sb : Nat) (ao : Option Addr) (nl cl : Nat) (line : List UInt8) (p : Nat) (V : Value) (hp : p ≤ nl) (HT : Hid (Tx W ao nl cl line)) (c1 : W.cell? ⟨Sb, 1, none⟩ = some (.slice ao nl cl)) :
    Calls Try.prog 84 #[.pointer (some ⟨Sb, 0, none⟩), .iface 123 V, .int .i64 (p : Int)] W fun e W' => e = .returned (.bool (iw line p && !iw line ((p : Int) - 1))) ∧ W' = W := by
  have hbig := HT.out.big
  have hp' : (p : Int) ≤ (nl : Int) := by omega
  have hnb : (nl : Int) ≤ 140737488355328 := by omega
  have q0 : ∀ w, (Instr.typeAssert (.iface 123 V) 120 122 true).run Try.prog w = .ok (.tuple #[.agg #[.int .u64 0, .int .u64 0, .int .u64 0, .int .u64 0], .bool false]) w := fun w => ta91 123 _ w
  have q1 : ∀ w, (Instr.typeAssert (.iface 123 V) 120 89 true).run Try.prog w = .ok (.tuple #[.agg #[], .bool false]) w := fun w => ta65 123 _ w
  have q2 : ∀ w, (Instr.typeAssert (.iface 123 V) 120 90 true).run Try.prog w = .ok (.tuple #[.agg #[], .bool false]) w := fun w => ta66 123 _ w
  have q3 : ∀ w, (Instr.typeAssert (.iface 123 V) 120 123 true).run Try.prog w = .ok (.tuple #[V, .bool true]) w := fun w => ta92 123 _ w
  have C1 := Hid.mk' (isWordS_any W Sb ao nl cl line (p : Int) (by omega) hp' HT c1)
  have C2 := Hid.mk' (isWordS_any W Sb ao nl cl line ((p : Int) - 1) (by omega) (by omega) HT c1)
  generalize iw line (p : Int) = A at *
  generalize iw line ((p : Int) - 1) = B at *
  cases A <;> cases B
  all_goals go_enter Try.func84, Try.ntmps84
  all_goals go_wp2_with (first | (go_at_call 94; with_reducible (refine C1.out.mono ?_); rintro e w' ⟨rfl, hw⟩; subst hw) | (go_at_call 94; with_reducible (refine C2.out.mono ?_); rintro e w' ⟨rfl, hw⟩; subst hw))
  all_goals go_ret
  all_goals exact ⟨rfl, rfl⟩
set_option maxRecDepth 8000 in
set_option maxHeartbeats 4000000 in
theorem free5 (W : World) (Sb : Nat) (ao : Option Addr) (nl cl : Nat) (line : List UInt8) (p : Nat) (V : Value) (hp : p ≤ nl) (HT : Hid (Tx W ao nl cl line)) (c1 : W.cell? ⟨Sb, 1, none⟩ = some (.slice ao nl cl)) :
    Calls Try.prog 84 #[.pointer (some ⟨Sb, 0, none⟩), .iface 124 V, .int .i64 (p : Int)] W fun e W' => e = .returned (.bool (iw line ((p : Int) - 1) && !iw line p)) ∧ W' = W := by
  have hbig := HT.out.big
  have hp' : (p : Int) ≤ (nl : Int) := by omega
  have hnb : (nl : Int) ≤ 140737488355328 := by omega
  have q0 : ∀ w, (Instr.typeAssert (.iface 124 V) 120 122 true).run Try.prog w = .ok (.tuple #[.agg #[.int .u64 0, .int .u64 0, .int .u64 0, .int .u64 0], .bool false]) w := fun w => ta91 124 _ w
  have q1 : ∀ w, (Instr.typeAssert (.iface 124 V) 120 89 true).run Try.prog w = .ok (.tuple #[.agg #[], .bool false]) w := fun w => ta65 124 _ w
  have q2 : ∀ w, (Instr.typeAssert (.iface 124 V) 120 90 true).run Try.prog w = .ok (.tuple #[.agg #[], .bool false]) w := fun w => ta66 124 _ w
  have q3 : ∀ w, (Instr.typeAssert (.iface 124 V) 120 123 true).run Try.prog w = .ok (.tuple #[.agg #[], .bool false]) w := fun w => ta92 124 _ w
  have q4 : ∀ w, (Instr.typeAssert (.iface 124 V) 120 124 true).run Try.prog w = .ok (.tuple #[V, .bool true]) w := fun w => ta93 124 _ w
  have C1 := Hid.mk' (isWordS_any W Sb ao nl cl line (p : Int) (by omega) hp' HT c1)
  have C2 := Hid.mk' (isWordS_any W Sb ao nl cl line ((p : Int) - 1) (by omega) (by omega) HT c1)
  generalize iw line (p : Int) = A at *
  generalize iw line ((p : Int) - 1) = B at *
  cases A <;> cases B
  all_goals go_enter Try.func84, Try.ntmps84
  all_goals go_wp2_with (first | (go_at_call 94; with_reducible (refine C1.out.mono ?_); rintro e w' ⟨rfl, hw⟩; subst hw) | (go_at_call 94; with_reducible (refine C2.out.mono ?_); rintro e w' ⟨rfl, hw⟩; subst hw))
  all_goals go_ret
  all_goals exact ⟨rfl, rfl⟩
theorem free_any (W : World) (Sb : Nat) (ao : Option Addr) (nl cl : Nat) (line : List UInt8) (p : Nat) (t : Th) (hp : p ≤ nl) (HT : Hid (Tx W ao nl cl line)) (c1 : W.cell? ⟨Sb, 1, none⟩ = some (.slice ao nl cl)) :
    Calls Try.prog 84 #[.pointer (some ⟨Sb, 0, none⟩), env t, .int .i64 (p : Int)] W fun e W' => e = .returned (.bool (fr line t p)) ∧ W' = W := by
  unfold env fr
  rw [HT.out.len]
  split
  · exact free0 W Sb ao nl cl line p _ hp HT c1
  · split
    · exact free1 W Sb ao nl cl line p _ hp HT c1
    · split
      · exact free2 W Sb ao nl cl line p _ hp HT c1
      · split
        · exact free3 W Sb ao nl cl line p _ hp HT c1
        · split
          · exact free4 W Sb ao nl cl line p _ hp HT c1
          · exact free5 W Sb ao nl cl line p _ hp HT c1
end Go.Proofs.Ytaakgoojcogbcaa
