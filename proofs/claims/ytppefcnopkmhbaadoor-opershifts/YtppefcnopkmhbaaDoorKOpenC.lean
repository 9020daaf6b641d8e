/- How a Cut lies in memory. -/
import Derived.Test.YtppefcnopkmhbaaDoorKOpenD
namespace Go.Proofs.YtppefcnopkmhbaaDoor
open Go.ChangeShapes Go.WideShapes Go.ChangeAt Go.RowKit Go.Joins

theorem cellsCut : Tryd.prog.cellsOf 24 = 3 := by kernel_rfl
section
variable {H : Type} {enc : TypeId × Value → H} {W : World}
set_option maxRecDepth 100000 in
theorem open_cut {r : Reach} {b0 : Nat} {v : Value} {d : DataW H} {p : List MemPlace} (hval : Value.okWide Tryd.prog W r b0 24 v) (h : DataW.Trod enc Tryd.prog W 0 (fun _ => true) true 24 v d p) :
    ∃ (F T : Int) (L : Bool), v = .agg #[.int .i64 F, .int .i64 T, .bool L] ∧ (Lit.int .i64 F).wf = true ∧ (Lit.int .i64 T).wf = true := by
  obtain ⟨cs, rfl, hcs⟩ := okWide_struct Tryd.underlying24 hval
  rw [cellsCut] at hcs
  obtain ⟨cs⟩ := cs
  obtain ⟨fuel, hf⟩ := h
  obtain ⟨xs, n, -, hx, hl, hxl, hfl⟩ := DataW.trod_struct Tryd.underlying24 hf
  match xs, hxl, cs, hcs with
  | [y0, y1, y2], _, [v0, v1, v2], _ =>
    have g0 : DataW.trod enc Tryd.prog W 0 (fun _ => true) true n 3 [v0] = some y0 := by simpa [Value.cells, cells3] using hfl 0 _ rfl
    have g1 : DataW.trod enc Tryd.prog W 0 (fun _ => true) true n 3 [v1] = some y1 := by simpa [Value.cells, cells3] using hfl 1 _ rfl
    have g2 : DataW.trod enc Tryd.prog W 0 (fun _ => true) true n 4 [v2] = some y2 := by simpa [Value.cells, cells4] using hfl 2 _ rfl
    obtain ⟨i, e0, -, w0⟩ := DataW.trod_int Tryd.underlying3 g0
    obtain ⟨j, e1, -, w1⟩ := DataW.trod_int Tryd.underlying3 g1
    obtain ⟨a, e2, -⟩ := DataW.trod_bool Tryd.underlying4 g2
    simp only [List.cons.injEq, and_true] at e0 e1 e2
    subst e0 e1 e2
    exact ⟨i, j, a, rfl, w0, w1⟩
end
end Go.Proofs.YtppefcnopkmhbaaDoor
