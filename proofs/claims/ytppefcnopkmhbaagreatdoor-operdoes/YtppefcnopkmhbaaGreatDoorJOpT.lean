/- How an Ask, a Laid, a Small and a Trio lie in memory. -/
import Derived.Test.YtppefcnopkmhbaaGreatDoorJOpenG
namespace Go.Proofs.YtppefcnopkmhbaaGreatDoor
open Go.ChangeShapes Go.WideShapes Go.ChangeAt Go.RowKit Go.Joins

theorem cells3' : Tryz.prog.cellsOf 3 = 1 := by kernel_rfl
theorem cells4' : Tryz.prog.cellsOf 4 = 1 := by kernel_rfl
theorem cells9' : Tryz.prog.cellsOf 9 = 1 := by kernel_rfl
theorem cells5' : Tryz.prog.cellsOf 5 = 1 := by kernel_rfl
theorem cellsTx : Tryz.prog.cellsOf 22 = 1 := by kernel_rfl
theorem cellsRange : Tryz.prog.cellsOf 28 = 4 := by kernel_rfl
theorem cellsReg : Tryz.prog.cellsOf 33 = 3 := by kernel_rfl
theorem cellsAsk : Tryz.prog.cellsOf 30 = 7 := by kernel_rfl
theorem cellsLaid : Tryz.prog.cellsOf 48 = 6 := by kernel_rfl
theorem cellsSmall : Tryz.prog.cellsOf 54 = 5 := by kernel_rfl
theorem cellsTrio : Tryz.prog.cellsOf 61 = 18 := by kernel_rfl
section
variable {H : Type} {enc : TypeId × Value → H} {W : World}
set_option maxRecDepth 100000 in
theorem trod_rng {fuel : Nat} {cs : List Value} {x : DataW H × List MemPlace} (hc : cs.length = 4) (hf : DataW.trod enc Tryz.prog W 0 (fun _ => true) true fuel 28 cs = some x) :
    ∃ (F T : Int) (L D : Bool), cs = [.int .i64 F, .int .i64 T, .bool L, .bool D] := by
  obtain ⟨xs, n, -, hx, hl, hxl, hfl⟩ := DataW.trod_struct Tryz.underlying28 hf
  match xs, hxl, cs, hc with
  | [y0, y1, y2, y3], _, [v0, v1, v2, v3], _ =>
    have g0 : DataW.trod enc Tryz.prog W 0 (fun _ => true) true n 3 [v0] = some y0 := by simpa [cells3'] using hfl 0 _ rfl
    have g1 : DataW.trod enc Tryz.prog W 0 (fun _ => true) true n 3 [v1] = some y1 := by simpa [cells3'] using hfl 1 _ rfl
    have g2 : DataW.trod enc Tryz.prog W 0 (fun _ => true) true n 4 [v2] = some y2 := by simpa [cells4'] using hfl 2 _ rfl
    have g3 : DataW.trod enc Tryz.prog W 0 (fun _ => true) true n 4 [v3] = some y3 := by simpa [cells4'] using hfl 3 _ rfl
    obtain ⟨i, e0, -, -⟩ := DataW.trod_int Tryz.underlying3 g0
    obtain ⟨j, e1, -, -⟩ := DataW.trod_int Tryz.underlying3 g1
    obtain ⟨a, e2, -⟩ := DataW.trod_bool Tryz.underlying4 g2
    obtain ⟨b, e3, -⟩ := DataW.trod_bool Tryz.underlying4 g3
    simp only [List.cons.injEq, and_true] at e0 e1 e2 e3
    subst e0 e1 e2 e3
    exact ⟨i, j, a, b, rfl⟩
set_option maxRecDepth 100000 in
theorem trod_askO {fuel : Nat} {cs : List Value} {x : DataW H × List MemPlace} (hc : cs.length = 7) (hf : DataW.trod enc Tryz.prog W 0 (fun _ => true) true fuel 30 cs = some x) :
    ∃ (a1 a2 : Int) (s : ByteArray) (F T : Int) (L D : Bool), cs = [.int .i64 a1, .int .i64 a2, .string s, .int .i64 F, .int .i64 T, .bool L, .bool D] := by
  obtain ⟨xs, n, -, hx, hl, hxl, hfl⟩ := DataW.trod_struct Tryz.underlying30 hf
  match xs, hxl, cs, hc with
  | [y0, y1, y2, y3], _, [v0, v1, v2, v3, v4, v5, v6], _ =>
    have g0 : DataW.trod enc Tryz.prog W 0 (fun _ => true) true n 3 [v0] = some y0 := by simpa [cells3'] using hfl 0 _ rfl
    have g1 : DataW.trod enc Tryz.prog W 0 (fun _ => true) true n 3 [v1] = some y1 := by simpa [cells3'] using hfl 1 _ rfl
    have g2 : DataW.trod enc Tryz.prog W 0 (fun _ => true) true n 9 [v2] = some y2 := by simpa [cells9'] using hfl 2 _ rfl
    have g3 : DataW.trod enc Tryz.prog W 0 (fun _ => true) true n 28 [v3, v4, v5, v6] = some y3 := by simpa [cellsRange] using hfl 3 _ rfl
    obtain ⟨i, e0, -, -⟩ := DataW.trod_int Tryz.underlying3 g0
    obtain ⟨j, e1, -, -⟩ := DataW.trod_int Tryz.underlying3 g1
    obtain ⟨s, e2, -, -⟩ := DataW.trod_string Tryz.underlying9 g2
    obtain ⟨F, T, L, D, e3⟩ := trod_rng rfl g3
    simp only [List.cons.injEq, and_true] at e0 e1 e2 e3
    obtain ⟨e3, e4, e5, e6⟩ := e3
    subst e0 e1 e2 e3 e4 e5 e6
    exact ⟨i, j, s, F, T, L, D, rfl⟩
set_option maxRecDepth 100000 in
theorem trod_regO {fuel : Nat} {cs : List Value} {x : DataW H × List MemPlace} (hc : cs.length = 3) (hf : DataW.trod enc Tryz.prog W 0 (fun _ => true) true fuel 33 cs = some x) (hsz : ∀ n ∈ x.1.weights Tryz.prog 33, n ≤ reachBytes) :
    ∃ (a b : Bool) (xo : Option Addr) (xn xc : Nat) (X : List UInt8), cs = [.bool a, .bool b, .slice xo xn xc] ∧ Tx W xo xn xc X ∧ xn ≤ 140737488351232 := by
  obtain ⟨xs, n, -, hx, hl, hxl, hfl⟩ := DataW.trod_struct Tryz.underlying33 hf
  match xs, hxl, cs, hc with
  | [y0, y1, y2], _, [v0, v1, v2], _ =>
    have g0 : DataW.trod enc Tryz.prog W 0 (fun _ => true) true n 4 [v0] = some y0 := by simpa [cells4'] using hfl 0 _ rfl
    have g1 : DataW.trod enc Tryz.prog W 0 (fun _ => true) true n 4 [v1] = some y1 := by simpa [cells4'] using hfl 1 _ rfl
    have g2 : DataW.trod enc Tryz.prog W 0 (fun _ => true) true n 22 [v2] = some y2 := by simpa [cellsTx] using hfl 2 _ rfl
    obtain ⟨a, e0, -⟩ := DataW.trod_bool Tryz.underlying4 g0
    obtain ⟨b, e1, -⟩ := DataW.trod_bool Tryz.underlying4 g1
    simp only [List.cons.injEq, and_true] at e0 e1
    subst e0 e1
    obtain ⟨ao, k, c, l, rfl, hT, hk⟩ := open_tx g2 (fun m hm => hsz m (by
      subst hx
      simp only [DataW.weights, Tryz.underlying33]
      exact DataW.weights_mem_each (j := 2) (t := 22) (d := y2.1) rfl rfl m hm))
    exact ⟨a, b, ao, k, c, l, rfl, hT, hk⟩
set_option maxRecDepth 100000 in
theorem trod_laidO {fuel : Nat} {cs : List Value} {x : DataW H × List MemPlace} (hc : cs.length = 6) (hf : DataW.trod enc Tryz.prog W 0 (fun _ => true) true fuel 48 cs = some x) (hsz : ∀ n ∈ x.1.weights Tryz.prog 48, n ≤ reachBytes) :
    ∃ (b1 b2 : Int) (a b : Bool) (xo : Option Addr) (xn xc : Nat) (X : List UInt8) (ah : Bool), cs = [.int .i64 b1, .int .i64 b2, .bool a, .bool b, .slice xo xn xc, .bool ah] ∧ Tx W xo xn xc X ∧ xn ≤ 140737488351232 := by
  obtain ⟨xs, n, -, hx, hl, hxl, hfl⟩ := DataW.trod_struct Tryz.underlying48 hf
  match xs, hxl, cs, hc with
  | [y0, y1, y2, y3], _, [v0, v1, v2, v3, v4, v5], _ =>
    have g0 : DataW.trod enc Tryz.prog W 0 (fun _ => true) true n 3 [v0] = some y0 := by simpa [cells3'] using hfl 0 _ rfl
    have g1 : DataW.trod enc Tryz.prog W 0 (fun _ => true) true n 3 [v1] = some y1 := by simpa [cells3'] using hfl 1 _ rfl
    have g2 : DataW.trod enc Tryz.prog W 0 (fun _ => true) true n 33 [v2, v3, v4] = some y2 := by simpa [cellsReg] using hfl 2 _ rfl
    have g3 : DataW.trod enc Tryz.prog W 0 (fun _ => true) true n 4 [v5] = some y3 := by simpa [cells4'] using hfl 3 _ rfl
    obtain ⟨i, e0, -, -⟩ := DataW.trod_int Tryz.underlying3 g0
    obtain ⟨j, e1, -, -⟩ := DataW.trod_int Tryz.underlying3 g1
    obtain ⟨ah, e5, -⟩ := DataW.trod_bool Tryz.underlying4 g3
    obtain ⟨a, b, ao, k, c, l, e2, hT, hk⟩ := trod_regO rfl g2 (fun m hm => hsz m (by
      subst hx
      simp only [DataW.weights, Tryz.underlying48]
      exact DataW.weights_mem_each (j := 2) (t := 33) (d := y2.1) rfl rfl m hm))
    simp only [List.cons.injEq, and_true] at e0 e1 e2 e5
    obtain ⟨e2, e3, e4⟩ := e2
    subst e0 e1 e2 e3 e4 e5
    exact ⟨i, j, a, b, ao, k, c, l, ah, rfl, hT, hk⟩
theorem u8_of {z : Int} (h : (Lit.int .u8 z).wf = true) : ∃ b : UInt8, z = (b.toNat : Int) := by
  have hb := bounds_u8 h
  refine ⟨UInt8.ofNat z.toNat, ?_⟩
  rw [UInt8.toNat_ofNat']
  omega
set_option maxRecDepth 100000 in
theorem trod_smallO {fuel : Nat} {cs : List Value} {x : DataW H × List MemPlace} (hc : cs.length = 5) (hf : DataW.trod enc Tryz.prog W 0 (fun _ => true) true fuel 54 cs = some x) :
    ∃ (k m1 m2 : Int) (b : UInt8) (s : ByteArray), cs = [.int .i64 k, .int .i64 m1, .int .i64 m2, .int .u8 (b.toNat : Int), .string s] := by
  obtain ⟨xs, n, -, hx, hl, hxl, hfl⟩ := DataW.trod_struct Tryz.underlying54 hf
  match xs, hxl, cs, hc with
  | [y0, y1, y2, y3, y4], _, [v0, v1, v2, v3, v4], _ =>
    have g0 : DataW.trod enc Tryz.prog W 0 (fun _ => true) true n 3 [v0] = some y0 := by simpa [cells3'] using hfl 0 _ rfl
    have g1 : DataW.trod enc Tryz.prog W 0 (fun _ => true) true n 3 [v1] = some y1 := by simpa [cells3'] using hfl 1 _ rfl
    have g2 : DataW.trod enc Tryz.prog W 0 (fun _ => true) true n 3 [v2] = some y2 := by simpa [cells3'] using hfl 2 _ rfl
    have g3 : DataW.trod enc Tryz.prog W 0 (fun _ => true) true n 5 [v3] = some y3 := by simpa [cells5'] using hfl 3 _ rfl
    have g4 : DataW.trod enc Tryz.prog W 0 (fun _ => true) true n 9 [v4] = some y4 := by simpa [cells9'] using hfl 4 _ rfl
    obtain ⟨k, e0, -, -⟩ := DataW.trod_int Tryz.underlying3 g0
    obtain ⟨i, e1, -, -⟩ := DataW.trod_int Tryz.underlying3 g1
    obtain ⟨j, e2, -, -⟩ := DataW.trod_int Tryz.underlying3 g2
    obtain ⟨z, e3, -, wz⟩ := DataW.trod_int Tryz.underlying5 g3
    obtain ⟨s, e4, -, -⟩ := DataW.trod_string Tryz.underlying9 g4
    obtain ⟨b, rfl⟩ := u8_of wz
    simp only [List.cons.injEq, and_true] at e0 e1 e2 e3 e4
    subst e0 e1 e2 e3 e4
    exact ⟨k, i, j, b, s, rfl⟩
set_option maxRecDepth 100000 in
theorem open_trio {r : Reach} {b0 : Nat} {v : Value} {d : DataW H} {p : List MemPlace} (hval : Value.okWide Tryz.prog W r b0 61 v) (h : DataW.Trod enc Tryz.prog W 0 (fun _ => true) true 61 v d p) (hsz : ∀ n ∈ d.weights Tryz.prog 61, n ≤ reachBytes) :
    ∃ (a1 a2 : Int) (s : ByteArray) (F T : Int) (L D : Bool) (b1 b2 : Int) (a b : Bool) (xo : Option Addr) (xn xc : Nat) (X : List UInt8) (ah : Bool) (k m1 m2 : Int) (bb : UInt8) (key : ByteArray),
      v = .agg #[.int .i64 a1, .int .i64 a2, .string s, .int .i64 F, .int .i64 T, .bool L, .bool D, .int .i64 b1, .int .i64 b2, .bool a, .bool b, .slice xo xn xc, .bool ah, .int .i64 k, .int .i64 m1, .int .i64 m2, .int .u8 (bb.toNat : Int), .string key] ∧ Tx W xo xn xc X ∧ xn ≤ 140737488351232 := by
  obtain ⟨cs, rfl, hcs⟩ := okWide_struct Tryz.underlying61 hval
  rw [cellsTrio] at hcs
  obtain ⟨cs⟩ := cs
  obtain ⟨fuel, hf⟩ := h
  obtain ⟨xs, n, -, hx, hl, hxl, hfl⟩ := DataW.trod_struct Tryz.underlying61 hf
  match xs, hxl, cs, hcs with
  | [y0, y1, y2], _, [v0, v1, v2, v3, v4, v5, v6, v7, v8, v9, w0, w1, w2, w3, w4, w5, w6, w7], _ =>
    have g0 : DataW.trod enc Tryz.prog W 0 (fun _ => true) true n 30 [v0, v1, v2, v3, v4, v5, v6] = some y0 := by simpa [Value.cells, cellsAsk] using hfl 0 _ rfl
    have g1 : DataW.trod enc Tryz.prog W 0 (fun _ => true) true n 48 [v7, v8, v9, w0, w1, w2] = some y1 := by simpa [Value.cells, cellsLaid] using hfl 1 _ rfl
    have g2 : DataW.trod enc Tryz.prog W 0 (fun _ => true) true n 54 [w3, w4, w5, w6, w7] = some y2 := by simpa [Value.cells, cellsSmall] using hfl 2 _ rfl
    obtain ⟨a1, a2, s, F, T, L, D, e0⟩ := trod_askO rfl g0
    obtain ⟨b1, b2, a, b, xo, xn, xc, X, ah, e1, hT, hk⟩ := trod_laidO rfl g1 (fun m hm => hsz m (by
      have hd := congrArg Prod.fst hx
      dsimp only at hd
      rw [hd]
      simp only [DataW.weights, Tryz.underlying61]
      exact DataW.weights_mem_each (j := 1) (t := 48) (d := y1.1) rfl rfl m hm))
    obtain ⟨k, m1, m2, bb, key, e2⟩ := trod_smallO rfl g2
    simp only [List.cons.injEq, and_true] at e0 e1 e2
    obtain ⟨e00, e01, e02, e03, e04, e05, e06⟩ := e0
    obtain ⟨e10, e11, e12, e13, e14, e15⟩ := e1
    obtain ⟨e20, e21, e22, e23, e24⟩ := e2
    subst e00 e01 e02 e03 e04 e05 e06 e10 e11 e12 e13 e14 e15 e20 e21 e22 e23 e24
    exact ⟨a1, a2, s, F, T, L, D, b1, b2, a, b, xo, xn, xc, X, ah, k, m1, m2, bb, key, rfl, hT, hk⟩
end
end Go.Proofs.YtppefcnopkmhbaaGreatDoor
