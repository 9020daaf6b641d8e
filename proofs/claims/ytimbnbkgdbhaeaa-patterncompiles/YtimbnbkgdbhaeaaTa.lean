/- Assertions of a thing's type. -/
import Derived.Test.YtimbnbkgdbhaeaaCmp
namespace Go.Proofs.Ytimbnbkgdbhaeaa
open Go.RowKit
/-- the answer of an assertion -/
def taR (t u : Nat) (v z : Value) : Value := if t = u then .tuple #[v, .bool true] else .tuple #[z, .bool false]
theorem ta_nil65 (w : World) : (Instr.typeAssert .nilIface 89 65 true).run Try.prog w = .ok (.tuple #[.agg #[], .bool false]) w := by kernel_rfl
theorem ta65 (t : Nat) (v : Value) (w : World) : (Instr.typeAssert (.iface t v) 89 65 true).run Try.prog w = .ok (taR t 65 v (.agg #[])) w := by
  unfold taR; by_cases h : t = 65
  · subst h; rfl
  · simp [Instr.typeAssert, h, go_sem]
theorem ta66 (t : Nat) (v : Value) (w : World) : (Instr.typeAssert (.iface t v) 89 66 true).run Try.prog w = .ok (taR t 66 v (.agg #[])) w := by
  unfold taR; by_cases h : t = 66
  · subst h; rfl
  · simp [Instr.typeAssert, h, go_sem]
theorem ta92 (t : Nat) (v : Value) (w : World) : (Instr.typeAssert (.iface t v) 89 92 true).run Try.prog w = .ok (taR t 92 v (.agg #[])) w := by
  unfold taR; by_cases h : t = 92
  · subst h; rfl
  · simp [Instr.typeAssert, h, go_sem]
theorem ta93 (t : Nat) (v : Value) (w : World) : (Instr.typeAssert (.iface t v) 89 93 true).run Try.prog w = .ok (taR t 93 v (.agg #[])) w := by
  unfold taR; by_cases h : t = 93
  · subst h; rfl
  · simp [Instr.typeAssert, h, go_sem]
theorem ta72 (t : Nat) (v : Value) (w : World) : (Instr.typeAssert (.iface t v) 89 72 true).run Try.prog w = .ok (taR t 72 v (.agg #[.int .u64 0, .int .u64 0, .int .u64 0, .int .u64 0])) w := by
  unfold taR; by_cases h : t = 72
  · subst h; rfl
  · simp [Instr.typeAssert, h, go_sem]
theorem ta91 (t : Nat) (v : Value) (w : World) : (Instr.typeAssert (.iface t v) 89 91 true).run Try.prog w = .ok (taR t 91 v (.agg #[.int .u64 0, .int .u64 0, .int .u64 0, .int .u64 0])) w := by
  unfold taR; by_cases h : t = 91
  · subst h; rfl
  · simp [Instr.typeAssert, h, go_sem]
end Go.Proofs.Ytimbnbkgdbhaeaa
