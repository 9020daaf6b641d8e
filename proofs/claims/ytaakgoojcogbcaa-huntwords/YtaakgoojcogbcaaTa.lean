/- Assertions of a thing's type. -/
import Derived.Test.YtaakgoojcogbcaaCmp
namespace Go.Proofs.Ytaakgoojcogbcaa
open Go.RowKit
/-- the answer of an assertion -/
def taR (t u : Nat) (v z : Value) : Value := if t = u then .tuple #[v, .bool true] else .tuple #[z, .bool false]
set_option maxRecDepth 20000 in
theorem ta_nil65 (w : World) : (Instr.typeAssert .nilIface 120 89 true).run Try.prog w = .ok (.tuple #[.agg #[], .bool false]) w := by kernel_rfl
set_option maxRecDepth 20000 in
theorem ta65 (t : Nat) (v : Value) (w : World) : (Instr.typeAssert (.iface t v) 120 89 true).run Try.prog w = .ok (taR t 89 v (.agg #[])) w := by
  unfold taR; by_cases h : t = 89
  · subst h; rfl
  · simp [Instr.typeAssert, h, go_sem]
set_option maxRecDepth 20000 in
theorem ta66 (t : Nat) (v : Value) (w : World) : (Instr.typeAssert (.iface t v) 120 90 true).run Try.prog w = .ok (taR t 90 v (.agg #[])) w := by
  unfold taR; by_cases h : t = 90
  · subst h; rfl
  · simp [Instr.typeAssert, h, go_sem]
set_option maxRecDepth 20000 in
theorem ta92 (t : Nat) (v : Value) (w : World) : (Instr.typeAssert (.iface t v) 120 123 true).run Try.prog w = .ok (taR t 123 v (.agg #[])) w := by
  unfold taR; by_cases h : t = 123
  · subst h; rfl
  · simp [Instr.typeAssert, h, go_sem]
set_option maxRecDepth 20000 in
theorem ta93 (t : Nat) (v : Value) (w : World) : (Instr.typeAssert (.iface t v) 120 124 true).run Try.prog w = .ok (taR t 124 v (.agg #[])) w := by
  unfold taR; by_cases h : t = 124
  · subst h; rfl
  · simp [Instr.typeAssert, h, go_sem]
set_option maxRecDepth 20000 in
theorem ta72 (t : Nat) (v : Value) (w : World) : (Instr.typeAssert (.iface t v) 120 96 true).run Try.prog w = .ok (taR t 96 v (.agg #[.int .u64 0, .int .u64 0, .int .u64 0, .int .u64 0])) w := by
  unfold taR; by_cases h : t = 96
  · subst h; rfl
  · simp [Instr.typeAssert, h, go_sem]
set_option maxRecDepth 20000 in
theorem ta91 (t : Nat) (v : Value) (w : World) : (Instr.typeAssert (.iface t v) 120 122 true).run Try.prog w = .ok (taR t 122 v (.agg #[.int .u64 0, .int .u64 0, .int .u64 0, .int .u64 0])) w := by
  unfold taR; by_cases h : t = 122
  · subst h; rfl
  · simp [Instr.typeAssert, h, go_sem]
end Go.Proofs.Ytaakgoojcogbcaa
