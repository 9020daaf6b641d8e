/- How a target, a range and an operator lie in memory. -/
import Derived.Test.YtbknnicpdkpmiaaOpenU
import Derived.ChangeMaps5
namespace Go.Proofs.Ytbknnicpdkpmiaa
open Go.ChangeShapes Go.WideShapes Go.ChangeAt Go.RowKit Go.Joins
section
variable {H : Type} {enc : TypeId × Value → H} {W : World}
theorem cells24 : Try.prog.cellsOf 24 = 3 := by kernel_rfl
theorem cells27 : Try.prog.cellsOf 27 = 4 := by kernel_rfl
set_option maxRecDepth 100000 in
/-- what a target is to the walk -/
theorem open_tgt {r : Reach} {b0 : Nat} {v : Value} {d : DataW H} {p : List MemPlace} (hval : Value.okWide Try.prog W r b0 24 v) (h : DataW.Trod enc Try.prog W 0 (fun _ => true) true 24 v d p) :
    ∃ i j k : Int, v = .agg #[.int .i64 i, .int .i64 j, .int .i64 k] := by
  obtain ⟨cs, rfl, hcs⟩ := okWide_struct Try.underlying24 hval
  rw [cells24] at hcs
  obtain ⟨cs⟩ := cs
  obtain ⟨fuel, hf⟩ := h
  obtain ⟨xs, n, -, hx, hl, hxl, hfl⟩ := DataW.trod_struct Try.underlying24 hf
  match xs, hxl, cs, hcs with
  | [y0, y1, y2], _, [v0, v1, v2], _ =>
    have g0 : DataW.trod enc Try.prog W 0 (fun _ => true) true n 3 [v0] = some y0 := by simpa [Value.cells, cells3] using hfl 0 _ rfl
    have g1 : DataW.trod enc Try.prog W 0 (fun _ => true) true n 3 [v1] = some y1 := by simpa [Value.cells, cells3] using hfl 1 _ rfl
    have g2 : DataW.trod enc Try.prog W 0 (fun _ => true) true n 3 [v2] = some y2 := by simpa [Value.cells, cells3] using hfl 2 _ rfl
    obtain ⟨i, e0, -, -⟩ := DataW.trod_int Try.underlying3 g0
    obtain ⟨j, e1, -, -⟩ := DataW.trod_int Try.underlying3 g1
    obtain ⟨k, e2, -, -⟩ := DataW.trod_int Try.underlying3 g2
    simp only [List.cons.injEq, and_true] at e0 e1 e2
    subst e0 e1 e2
    exact ⟨i, j, k, rfl⟩
set_option maxRecDepth 100000 in
/-- what a range is to the walk -/
theorem open_rg {r : Reach} {b0 : Nat} {v : Value} {d : DataW H} {p : List MemPlace} (hval : Value.okWide Try.prog W r b0 27 v) (h : DataW.Trod enc Try.prog W 0 (fun _ => true) true 27 v d p) :
    ∃ (F T : Int) (L D : Bool), v = .agg #[.int .i64 F, .int .i64 T, .bool L, .bool D] := by
  obtain ⟨cs, rfl, hcs⟩ := okWide_struct Try.underlying27 hval
  rw [cells27] at hcs
  obtain ⟨cs⟩ := cs
  obtain ⟨fuel, hf⟩ := h
  obtain ⟨xs, n, -, hx, hl, hxl, hfl⟩ := DataW.trod_struct Try.underlying27 hf
  match xs, hxl, cs, hcs with
  | [y0, y1, y2, y3], _, [v0, v1, v2, v3], _ =>
    have g0 : DataW.trod enc Try.prog W 0 (fun _ => true) true n 3 [v0] = some y0 := by simpa [Value.cells, cells3] using hfl 0 _ rfl
    have g1 : DataW.trod enc Try.prog W 0 (fun _ => true) true n 3 [v1] = some y1 := by simpa [Value.cells, cells3] using hfl 1 _ rfl
    have g2 : DataW.trod enc Try.prog W 0 (fun _ => true) true n 4 [v2] = some y2 := by simpa [Value.cells, cells4] using hfl 2 _ rfl
    have g3 : DataW.trod enc Try.prog W 0 (fun _ => true) true n 4 [v3] = some y3 := by simpa [Value.cells, cells4] using hfl 3 _ rfl
    obtain ⟨i, e0, -, -⟩ := DataW.trod_int Try.underlying3 g0
    obtain ⟨j, e1, -, -⟩ := DataW.trod_int Try.underlying3 g1
    obtain ⟨a, e2, -⟩ := DataW.trod_bool Try.underlying4 g2
    obtain ⟨b, e3, -⟩ := DataW.trod_bool Try.underlying4 g3
    simp only [List.cons.injEq, and_true] at e0 e1 e2 e3
    subst e0 e1 e2 e3
    exact ⟨i, j, a, b, rfl⟩
end
end Go.Proofs.Ytbknnicpdkpmiaa
