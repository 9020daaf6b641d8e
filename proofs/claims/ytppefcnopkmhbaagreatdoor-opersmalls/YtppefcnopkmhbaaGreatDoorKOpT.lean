/- How an Ask, a Laid, a Small and a Trio lie in memory. -/
import Derived.Test.YtppefcnopkmhbaaGreatDoorKOpenG
namespace Go.Proofs.YtppefcnopkmhbaaGreatDoor
open Go.ChangeShapes Go.WideShapes Go.ChangeAt Go.RowKit Go.Joins

theorem cells3' : Tryz.prog.cellsOf 3 = 1 := by kernel_rfl
theorem cells9' : Tryz.prog.cellsOf 9 = 1 := by kernel_rfl
theorem cells5' : Tryz.prog.cellsOf 5 = 1 := by kernel_rfl
theorem cellsSmall : Tryz.prog.cellsOf 54 = 5 := by kernel_rfl
section
variable {H : Type} {enc : TypeId × Value → H} {W : World}
theorem u8_of {z : Int} (h : (Lit.int .u8 z).wf = true) : ∃ b : UInt8, z = (b.toNat : Int) := by
  have hb := bounds_u8 h
  refine ⟨UInt8.ofNat z.toNat, ?_⟩
  rw [UInt8.toNat_ofNat']
  omega
set_option maxRecDepth 100000 in
theorem trod_smallO {fuel : Nat} {cs : List Value} {x : DataW H × List MemPlace} (hc : cs.length = 5) (hf : DataW.trod enc Tryz.prog W 0 (fun _ => true) true fuel 54 cs = some x) :
    ∃ (k m1 m2 : Int) (b : UInt8) (s : ByteArray), cs = [.int .i64 k, .int .i64 m1, .int .i64 m2, .int .u8 (b.toNat : Int), .string s] := by
  obtain ⟨xs, n, -, hx, hl, hxl, hfl⟩ := DataW.trod_struct Tryz.underlying54 hf
  match xs, hxl, cs, hc with
  | [y0, y1, y2, y3, y4], _, [v0, v1, v2, v3, v4], _ =>
    have g0 : DataW.trod enc Tryz.prog W 0 (fun _ => true) true n 3 [v0] = some y0 := by simpa [cells3'] using hfl 0 _ rfl
    have g1 : DataW.trod enc Tryz.prog W 0 (fun _ => true) true n 3 [v1] = some y1 := by simpa [cells3'] using hfl 1 _ rfl
    have g2 : DataW.trod enc Tryz.prog W 0 (fun _ => true) true n 3 [v2] = some y2 := by simpa [cells3'] using hfl 2 _ rfl
    have g3 : DataW.trod enc Tryz.prog W 0 (fun _ => true) true n 5 [v3] = some y3 := by simpa [cells5'] using hfl 3 _ rfl
    have g4 : DataW.trod enc Tryz.prog W 0 (fun _ => true) true n 9 [v4] = some y4 := by simpa [cells9'] using hfl 4 _ rfl
    obtain ⟨k, e0, -, -⟩ := DataW.trod_int Tryz.underlying3 g0
    obtain ⟨i, e1, -, -⟩ := DataW.trod_int Tryz.underlying3 g1
    obtain ⟨j, e2, -, -⟩ := DataW.trod_int Tryz.underlying3 g2
    obtain ⟨z, e3, -, wz⟩ := DataW.trod_int Tryz.underlying5 g3
    obtain ⟨s, e4, -, -⟩ := DataW.trod_string Tryz.underlying9 g4
    obtain ⟨b, rfl⟩ := u8_of wz
    simp only [List.cons.injEq, and_true] at e0 e1 e2 e3 e4
    subst e0 e1 e2 e3 e4
    exact ⟨k, i, j, b, s, rfl⟩
end
end Go.Proofs.YtppefcnopkmhbaaGreatDoor
