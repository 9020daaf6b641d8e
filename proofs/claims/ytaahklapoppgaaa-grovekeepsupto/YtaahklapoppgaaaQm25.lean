/- Operations of big types in regions that are not drawn: build, buildSlice, append, a comparison. -/
import Derived.Test.YtaahklapoppgaaaQm11
import Derived.Test.YtaahklapoppgaaaQm00
namespace Go.Proofs.Ytaahklapoppgaaa
open Go.RowKit

theorem wl_bld {ops : Array Oper} {rest : List Oper} {op : Oper} {a : Act} {w : World} {Q : Exit → Act → World → Prop} {v : Value} (hgd : op.guard = none) (t : TypeId) (parts : Array (Nat × Operand)) (ho : op.op = .build t parts) (vs : Array (Nat × Value)) (he : (parts.map fun (i, x) => (i, a.eval x)) = vs) (hrun : (Instr.build t vs).run Try.prog w = .ok v w) (hr : wpList Try.prog ops Q rest (a.put op.dst v) w) : wpList Try.prog ops Q (op :: rest) a w := by
  have hw : Region.wanted op (yielded ops a.tmps) = true := by simp [Region.wanted, hgd]
  simp only [wpList, hw, if_true]
  refine .inl ?_
  unfold Oper.wp execOp
  simp only [ho]
  rw [he]
  simp only [Sem.run_bind, hrun, Result.andThen_ok, Sem.run_pure]
  exact hr
theorem wl_bsl {ops : Array Oper} {rest : List Oper} {op : Oper} {a : Act} {w w' : World} {Q : Exit → Act → World → Prop} {v : Value} (hgd : op.guard = none) (t : TypeId) (n : Nat) (parts : Array (Nat × Operand)) (ho : op.op = .buildSlice t n parts) (vs : Array (Nat × Value)) (he : (parts.map fun (i, x) => (i, a.eval x)) = vs) (hrun : (Instr.buildSlice t n vs).run Try.prog w = .ok v w') (hr : wpList Try.prog ops Q rest (a.put op.dst v) w') : wpList Try.prog ops Q (op :: rest) a w := by
  have hw : Region.wanted op (yielded ops a.tmps) = true := by simp [Region.wanted, hgd]
  simp only [wpList, hw, if_true]
  refine .inl ?_
  unfold Oper.wp execOp
  simp only [ho]
  rw [he]
  simp only [Sem.run_bind, hrun, Result.andThen_ok, Sem.run_pure]
  exact hr
theorem wl_app2 {ops : Array Oper} {rest : List Oper} {o : Oper} {a : Act} {w w' : World} {Q : Exit → Act → World → Prop} {v u v' : Value} (hgd : o.guard = none) (s x : Operand) (t : Nat) (ho : o.op = .call { callee := .builtin .append, args := #[s, x], argTypes := #[t, t] }) (hs : a.eval s = v) (hx : a.eval x = u) (hrun : ∀ ty, (Builtin.append_ #[t, t] ty #[v, u]).run Try.prog w = .ok v' w') (h : wpList Try.prog ops Q rest (a.put o.dst v') w') : wpList Try.prog ops Q (o :: rest) a w := by
  refine wpList_plain hgd fun K hK => ?_
  unfold Oper.wp
  simp [execOp, ho, resolve, invoke, builtin, hs, hx, hrun, Result.andThen]
  exact hK _ _ h
theorem wl_bin {ops : Array Oper} {rest : List Oper} {op : Oper} {a : Act} {w : World} {Q : Exit → Act → World → Prop} {v : Value} (hgd : op.guard = none) (b : BinOp) (t t2 : TypeId) (x y : Operand) (ho : op.op = .binOp b t x y t2) {u1 u2 : Array Value} (hx : a.eval x = .agg u1) (hy : a.eval y = .agg u2) (hgt : Try.prog.eqGuardType Try.prog.depth t = false) (hrun : (binOp b t (.agg u1) (.agg u2)).run Try.prog w = .ok v w) (hr : wpList Try.prog ops Q rest (a.put op.dst v) w) : wpList Try.prog ops Q (op :: rest) a w := by
  have hw : Region.wanted op (yielded ops a.tmps) = true := by simp [Region.wanted, hgd]
  simp only [wpList, hw, if_true]
  refine .inl ?_
  unfold Oper.wp execOp
  have hg : (eqGuard b t x y (.agg u1) (.agg u2)).run Try.prog w = .ok () w := run_eqGuard_agg _ _ _ _ _ _ _ hgt
  simp only [ho, hx, hy]
  simp only [Sem.run_bind, hg, hrun, Result.andThen_ok, Sem.run_pure]
  exact hr
end Go.Proofs.Ytaahklapoppgaaa

