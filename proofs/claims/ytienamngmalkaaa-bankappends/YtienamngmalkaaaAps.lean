/- Strings as values that the walk leaves closed; parts of texts. -/
import Derived.Test.YtienamngmalkaaaAp0
import Derived.Test.YtienamngmalkaaaPus
import Derived.Test.YtienamngmalkaaaGtw
namespace Go.Proofs.Ytienamngmalkaaa
open Go.RowKit

set_option maxRecDepth 8000
/-- a string -/
def sv (x : List UInt8) : Value := .string ⟨x.toArray⟩
theorem conv_sv {W : World} {ao : Option Addr} {n c : Nat} {l : List UInt8} (h : Tx W ao n c l) : (convert 22 9 (.slice ao n c)).run Try.prog W = .ok (sv l) W := conv_tx h
theorem at8_drop (l : List UInt8) (s j : Nat) : at8 (l.drop s) j = at8 l (s + j) := by simp [at8, List.getD]
theorem add_add (a : Addr) (l j : Nat) (hl : 0 < l) : (a.add l).add j = a.add (l + j) := by
  unfold Addr.add
  by_cases hj : j = 0
  · subst hj; simp
  · rw [if_neg hj, if_neg (by omega), if_neg (by omega)]; simp; omega
theorem Tx.tail0 {w : World} {a : Addr} {n c s : Nat} {l : List UInt8} (h : Tx w (some a) n c l) (hs : s ≤ n) (hc : c = s) : Tx w (some a) (n - s) 0 (l.drop s) :=
  ⟨by rw [List.length_drop, h.len], by have := h.cap; omega, by have := h.big; omega, fun _ => rfl, fun _ _ j hj => by have := h.cap; omega⟩
theorem Tx.tail {w : World} {a : Addr} {n c s : Nat} {l : List UInt8} (h : Tx w (some a) n c l) (hs : s ≤ n) : Tx w (some (a.add s)) (n - s) (c - s) (l.drop s) := by
  refine ⟨by rw [List.length_drop, h.len], by have := h.cap; omega, by have := h.big; omega, fun h => by simp at h, fun a' ha j hj => ?_⟩
  have e : a.add s = a' := by simpa using ha
  subst e
  rw [at8_drop]
  rcases Nat.eq_zero_or_pos s with h0 | h0
  · subst h0
    have := h.cells a rfl j (by omega)
    simpa [Addr.add] using this
  · rw [add_add a s j h0]
    exact h.cells a rfl (s + j) (by omega)
theorem Tx.head {w : World} {ao : Option Addr} {n c i : Nat} {l : List UInt8} (h : Tx w ao n c l) (hi : i ≤ n) : Tx w ao i c (l.take i) := by
  refine ⟨by rw [List.length_take, h.len]; omega, by have := h.cap; omega, by have := h.big; omega, h.nil, fun a ha j hj => ?_⟩
  rw [h.cells a ha j (by omega)]
  have : at8 (l.take i) j = at8 l j := by simp [at8, List.getD, hj]
  rw [this]

theorem size5 (w : World) : (sizeOf 5).run Try.prog w = .ok 1 w := by kernel_rfl
theorem elem22 : Try.prog.elem 22 = 5 := by kernel_rfl
theorem und22 : Try.prog.underlying 22 = some (.slice (Try.prog.elem 22)) := by kernel_rfl
/-- u[lo:lo + m] -/
theorem sl_lh {w : World} {ua : Option Addr} {n c lo m : Nat} {u : List UInt8} (h : Tx w ua n c u) (hm : lo + m ≤ n) : ∃ a' c', (∀ W, (Instr.sliceAt 22 (.slice ua n c) (some (.int .i64 (lo : Int))) (some (.int .i64 ((lo : Int) + (m : Int)))) none).run Try.prog W = .ok (.slice a' m c') W) ∧ Tx w a' m c' ((u.drop lo).take m) := by
  have hc := h.cap
  have hr : ∀ W, (Instr.sliceAt 22 (.slice ua n c) (some (.int .i64 (lo : Int))) (some (.int .i64 ((lo : Int) + (m : Int)))) none).run Try.prog W = .ok (sliced ua lo (lo + m) c 1) W := fun W => by
    rw [run_sliceAt_slice W 22 _ _ _ _ und22, run_slice_lh W 22 ua n c und22 .i64 .i64 (lo : Int) ((lo : Int) + (m : Int)) (by omega) (by omega) (by omega), elem22, size5]
    show Result.ok (sliced ua (lo : Int).toNat ((lo : Int) + (m : Int)).toNat c 1) W = _
    rw [show (lo : Int).toNat = lo by omega, show ((lo : Int) + (m : Int)).toNat = lo + m by omega]
  cases ua with
  | none =>
    obtain ⟨rfl, rfl, rfl⟩ := h.none
    refine ⟨none, 0 - lo, fun W => ?_, ?_⟩
    · rw [hr W]; unfold sliced; rw [show lo + m - lo = m by omega]; split <;> rfl
    · obtain rfl : m = 0 := by omega
      obtain rfl : lo = 0 := by omega
      exact tx_nil w
  | some a =>
    by_cases hcl : c = lo
    · refine ⟨some a, 0, fun W => ?_, ?_⟩
      · rw [hr W]; unfold sliced; rw [if_pos hcl, show lo + m - lo = m by omega, show c - lo = 0 by omega]
      · have := (h.tail0 (s := lo) (by omega) hcl).head (i := m) (by omega)
        exact this
    · refine ⟨some (a.add lo), c - lo, fun W => ?_, ?_⟩
      · rw [hr W]; unfold sliced; rw [if_neg hcl, show lo + m - lo = m by omega, Nat.mul_one]; rfl
      · exact (h.tail (s := lo) (by omega)).head (i := m) (by omega)
/-- u[:m] -/
theorem sl_h {w : World} {ua : Option Addr} {n c m : Nat} {u : List UInt8} (h : Tx w ua n c u) (hm : m ≤ n) : ∃ a' c', (∀ W, (Instr.sliceAt 22 (.slice ua n c) none (some (.int .i64 (m : Int))) none).run Try.prog W = .ok (.slice a' m c') W) ∧ Tx w a' m c' (u.take m) := by
  have hc := h.cap
  have hr : ∀ W, (Instr.sliceAt 22 (.slice ua n c) none (some (.int .i64 (m : Int))) none).run Try.prog W = .ok (sliced ua 0 m c 1) W := fun W => by
    rw [run_sliceAt_slice W 22 _ _ _ _ und22, run_slice_h W 22 ua n c und22 .i64 (m : Int) (by omega) (by omega), elem22, size5]
    rfl
  refine ⟨ua, c, fun W => ?_, h.head hm⟩
  rw [hr W]
  unfold sliced
  cases ua with
  | none => simp
  | some a => simp [Addr.add]
/-- u[lo:] -/
theorem sl_l {w : World} {ua : Option Addr} {n c lo : Nat} {u : List UInt8} {z : Int} (h : Tx w ua n c u) (hm : lo ≤ n) (hz : z = (lo : Int)) : ∃ a' c', (∀ W, (Instr.sliceAt 22 (.slice ua n c) (some (.int .i64 z)) none none).run Try.prog W = .ok (.slice a' (n - lo) c') W) ∧ Tx w a' (n - lo) c' (u.drop lo) := by
  subst hz
  have hc := h.cap
  have hr : ∀ W, (Instr.sliceAt 22 (.slice ua n c) (some (.int .i64 (lo : Int))) none none).run Try.prog W = .ok (sliced ua lo n c 1) W := fun W => by
    rw [run_sliceAt_slice W 22 _ _ _ _ und22, run_slice_l W 22 ua n c und22 .i64 (lo : Int) (by omega) (by omega), elem22, size5]
    rfl
  cases ua with
  | none =>
    obtain ⟨rfl, rfl, rfl⟩ := h.none
    refine ⟨none, 0 - lo, fun W => ?_, ?_⟩
    · rw [hr W]; unfold sliced; split <;> rfl
    · obtain rfl : lo = 0 := by omega
      exact tx_nil w
  | some a =>
    by_cases hcl : c = lo
    · refine ⟨some a, 0, fun W => ?_, h.tail0 hm hcl⟩
      rw [hr W]; unfold sliced; rw [if_pos hcl, show c - lo = 0 by omega]
    · refine ⟨some (a.add lo), c - lo, fun W => ?_, h.tail hm⟩
      rw [hr W]; unfold sliced; rw [if_neg hcl, Nat.mul_one]; rfl
section
variable {ops : Array Oper} {rest : List Oper} {op : Oper} {a : Act} {w : World} {Q : Exit → Act → World → Prop}
theorem wl_run (v : Value) (hw : Region.wanted op (yielded ops a.tmps) = true) (hr : (execOp a.eval op).run Try.prog w = .ok (.value v) w) (h : wpList Try.prog ops Q rest (a.put op.dst v) w) : wpList Try.prog ops Q (op :: rest) a w := by
  simp only [wpList, hw, if_true]
  refine .inl ?_
  unfold Oper.wp
  rw [hr]
  exact h
theorem ex_eq9 {x y : List UInt8} {b : Bool} (p q : Operand) (t : TypeId) (ho : op.op = .binOp .eql 9 p q t) (hx : a.eval p = sv x) (hy : a.eval q = sv y) (hb : decide (x = y) = b) : (execOp a.eval op).run Try.prog w = .ok (.value (.bool b)) w := by
  subst hb
  have e : (x == y) = decide (x = y) := by rw [Bool.eq_iff_iff]; simp
  simp [execOp, ho, hx, hy, sv, eqGuard, binOp, Op.stringOp, e]
theorem ex_ne9 {x y : List UInt8} {b : Bool} (p q : Operand) (t : TypeId) (ho : op.op = .binOp .neq 9 p q t) (hx : a.eval p = sv x) (hy : a.eval q = sv y) (hb : (!decide (x = y)) = b) : (execOp a.eval op).run Try.prog w = .ok (.value (.bool b)) w := by
  subst hb
  have e : (x == y) = decide (x = y) := by rw [Bool.eq_iff_iff]; simp
  simp [execOp, ho, hx, hy, sv, eqGuard, binOp, Op.stringOp, e]
theorem ex_ix9 {x : List UInt8} {i : Nat} {v : UInt8} (p q : Operand) (ho : op.op = .index 9 p q) (hx : a.eval p = sv x) (hq : a.eval q = .int .i64 (i : Int)) (hv : x[i]? = some v) : (execOp a.eval op).run Try.prog w = .ok (.value (.int .u8 (v.toNat : Int))) w := by
  have h1 : (⟨x.toArray⟩ : ByteArray)[i]? = some v := by
    show (x.toArray)[i]? = some v
    simpa using hv
  simp [execOp, ho, hx, hq, sv, Instr.index, asIntOf, run_underlying Try.underlying9, h1]
theorem ex_sl9 {x : List UInt8} (p q : Operand) (ho : op.op = .slice 9 p (some q) none none) (hx : a.eval p = sv x) (hq : a.eval q = .int .i64 1) (h1 : 1 ≤ x.length) : (execOp a.eval op).run Try.prog w = .ok (.value (sv (x.drop 1))) w := by
  simp [execOp, ho, hx, hq, sv, Instr.sliceAt, Instr.slice, Instr.sliceBounds, Instr.sliceBound, asIntOf, run_underlying Try.underlying9]
  have hs : (⟨x.toArray⟩ : ByteArray).size = x.length := rfl
  have he : (⟨x.toArray⟩ : ByteArray).extract 1 x.length = ⟨x.tail.toArray⟩ := by
    apply ByteArray.ext
    apply Array.ext'
    simp [ByteArray.data_extract]
    exact List.take_of_length_le (by simp)
  rw [hs, if_pos (by omega), he]
theorem ex_add9 {x y : List UInt8} (p q : Operand) (t : TypeId) (ho : op.op = .binOp .add 9 p q t) (hx : a.eval p = sv x) (hy : a.eval q = sv y) (h : x.length + y.length ≤ 1000000) : (execOp a.eval op).run Try.prog w = .ok (.value (sv (x ++ y))) w := by
  have e : (⟨x.toArray⟩ : ByteArray) ++ ⟨y.toArray⟩ = ⟨(x ++ y).toArray⟩ := by
    apply ByteArray.ext
    simp
  simp [execOp, ho, hx, hy, sv, eqGuard, binOp, Op.stringOp, e, ByteArray.size]
  omega
theorem ex_len9 {x : List UInt8} (p : Operand) (ho : op.op = .call { callee := .builtin .len, args := #[p], argTypes := #[9] }) (hx : a.eval p = sv x) : (execOp a.eval op).run Try.prog w = .ok (.value (.int .i64 (x.length : Int))) w := by
  have hl : (Builtin.len_ #[9] op.type #[sv x]).run Try.prog w = .ok (.int .i64 (x.length : Int)) w := by
    unfold sv
    simp [Builtin.len_, run_underlying Try.underlying9, goInt]
    rfl
  simp only [execOp, ho, resolve, invoke, builtin, Sem.run_bind, Sem.run_pure, Result.andThen_ok, List.map_toArray, List.map_cons, List.map_nil, hx, hl]
theorem wl_eq9 {x y : List UInt8} {b : Bool} (p q : Operand) (t : TypeId) (ho : op.op = .binOp .eql 9 p q t) (hw : Region.wanted op (yielded ops a.tmps) = true) (hx : a.eval p = sv x) (hy : a.eval q = sv y) (hb : decide (x = y) = b) (h : wpList Try.prog ops Q rest (a.put op.dst (.bool b)) w) : wpList Try.prog ops Q (op :: rest) a w := wl_run _ hw (ex_eq9 p q t ho hx hy hb) h
theorem wl_ix9 {x : List UInt8} {i : Nat} {v : UInt8} {z : Int} (p q : Operand) (ho : op.op = .index 9 p q) (hw : Region.wanted op (yielded ops a.tmps) = true) (hx : a.eval p = sv x) (hq : a.eval q = .int .i64 (i : Int)) (hv : x[i]? = some v) (hz : (v.toNat : Int) = z) (h : wpList Try.prog ops Q rest (a.put op.dst (.int .u8 z)) w) : wpList Try.prog ops Q (op :: rest) a w := wl_run _ hw (hz ▸ ex_ix9 p q ho hx hq hv) h
theorem wl_sl9 {x y : List UInt8} (p q : Operand) (ho : op.op = .slice 9 p (some q) none none) (hw : Region.wanted op (yielded ops a.tmps) = true) (hx : a.eval p = sv x) (hq : a.eval q = .int .i64 1) (h1 : 1 ≤ x.length) (hd : x.drop 1 = y) (h : wpList Try.prog ops Q rest (a.put op.dst (sv y)) w) : wpList Try.prog ops Q (op :: rest) a w := wl_run _ hw (hd ▸ ex_sl9 p q ho hx hq h1) h
theorem wl_add9 {x y z : List UInt8} (p q : Operand) (t : TypeId) (ho : op.op = .binOp .add 9 p q t) (hw : Region.wanted op (yielded ops a.tmps) = true) (hx : a.eval p = sv x) (hy : a.eval q = sv y) (hl : x.length + y.length ≤ 1000000) (hz : x ++ y = z) (h : wpList Try.prog ops Q rest (a.put op.dst (sv z)) w) : wpList Try.prog ops Q (op :: rest) a w := wl_run _ hw (hz ▸ ex_add9 p q t ho hx hy hl) h
theorem wl_len9 {x : List UInt8} (p : Operand) (ho : op.op = .call { callee := .builtin .len, args := #[p], argTypes := #[9] }) (hw : Region.wanted op (yielded ops a.tmps) = true) (hx : a.eval p = sv x) (h : wpList Try.prog ops Q rest (a.put op.dst (.int .i64 (x.length : Int))) w) : wpList Try.prog ops Q (op :: rest) a w := wl_run _ hw (ex_len9 p ho hx) h
end
end Go.Proofs.Ytienamngmalkaaa
