/- How lists of texts, names, contents and calls lie in memory. -/
import Derived.Test.YtienamngmalkaaaOpen
import Derived.Test.YtienamngmalkaaaPus
namespace Go.Proofs.Ytienamngmalkaaa
open Go.ChangeShapes Go.WideShapes Go.ChangeAt Go.RowKit Go.Joins Go.Deep
theorem bytes22 : Try.prog.bytesOf 22 = 24 := by kernel_rfl
/-- what an argument of type [][]byte is to the walk -/
theorem open_rows {H : Type} {enc : TypeId × Value → H} {W : World} {v : Value} {d : DataW H} {p : List MemPlace} (h : DataW.Trod enc Try.prog W 0 (fun _ => true) true 50 v d p) (hv : ∃ a len cap, v = .slice a len cap)
    (hsz : ∀ n ∈ d.weights Try.prog 50, n ≤ reachBytes) : ∃ ao n c A L C l, v = .slice ao n c ∧ Prow W ao n A L C l ∧ n ≤ 140737488351232 := by
  obtain ⟨a, len, cap, rfl⟩ := hv
  obtain ⟨fuel, hf⟩ := h
  rcases open_int_rows Try.underlying50 Try.underlying22 Try.underlying5 cells22 cells5 hf with ⟨hcs, _⟩ | ⟨x, l, c, A, L, C, Z, hcs, _, hl, hm, hx, hrow⟩
  · simp [Value.cells] at hcs
    obtain ⟨rfl, rfl, rfl⟩ := hcs
    exact ⟨none, 0, 0, fun _ => none, fun _ => 0, fun _ => 0, fun _ => [], rfl, fun r hr => by omega, by omega⟩
  · simp [Value.cells] at hcs
    obtain ⟨rfl, rfl, rfl⟩ := hcs
    simp only [Prod.mk.injEq] at hx
    obtain ⟨rfl, -⟩ := hx
    have hLb : ∀ i, i < len → L i ≤ 140737488351232 ∧ C i ≤ 140737488351232 := by
      intro i hi'
      obtain ⟨h1, h2, h3, h4, h5, h6, h7⟩ := hrow i (by omega)
      cases hA : A i with
      | none => have := h6 hA; omega
      | some a' =>
        have h8 := hsz ((lits (H := H) .u8 ((Z i).take (L i))).length + (lits (H := H) .u8 ((Z i).drop (L i))).length) (by
          have hmem : intRow (H := H) .u8 (A i) (L i) (Z i) ∈ ((List.range len).map fun r => intRow (H := H) .u8 (A r) (L r) (Z r)) := List.mem_map.2 ⟨i, List.mem_range.2 hi', rfl⟩
          have hn : ((lits (H := H) .u8 ((Z i).take (L i))).length + (lits (H := H) .u8 ((Z i).drop (L i))).length) ∈ (intRow (H := H) .u8 (A i) (L i) (Z i)).weights Try.prog 22 := by
            rw [hA]; simp [intRow, DataW.weights, Try.underlying22, bytes5]
          have h9 := weightsAll_mem (P := Try.prog) hmem hn
          simp only [DataW.weights, Try.underlying50, List.mem_cons, List.mem_append]
          exact .inr (.inl h9))
        simp only [lits, List.length_map, List.length_take, List.length_drop, reachBytes] at h8
        omega
    refine ⟨some x, len, cap, A, L, C, fun i => by8 ((Z i).take (L i)), rfl, fun r hr => ?_, ?_⟩
    · obtain ⟨h1, h2, h3, h4, h5, h6, h7⟩ := hrow r (by omega)
      have hb := hLb r hr
      obtain ⟨g, o, sp⟩ := x
      have hs : sp = none := by
        have := World.cell?_spot (hrow 0 (by omega)).1
        simpa [Addr.add] using this
      subst hs
      rw [add_none] at h1
      refine ⟨g, o, rfl, h1, ?_, hb.1⟩
      cases hA : A r with
      | none =>
        have hC := h6 hA
        have hL : L r = 0 := by omega
        have e : by8 ((Z r).take (L r)) = [] := List.eq_nil_of_length_eq_zero (by rw [by8_length, List.length_take]; omega)
        show Tx W none (L r) (C r) (by8 ((Z r).take (L r)))
        rw [e, hC, hL]
        exact tx_nil W
      | some a' => exact tx_ints h2 h4 (by omega) (fun k hk => (h7 a' hA).2 k (by omega)) h5
    · have h2 := hsz ((((List.range len).map fun r => intRow (H := H) .u8 (A r) (L r) (Z r)).length + ((List.range (cap - len)).map fun j => intRow (H := H) .u8 (A (len + j)) (L (len + j)) (Z (len + j))).length) * 24) (by simp [DataW.weights, Try.underlying50, bytes22])
      simp only [List.length_map, List.length_range, reachBytes] at h2
      omega

section
variable {H : Type} {enc : TypeId × Value → H} {W : World}
theorem u8_nat {z : Int} (h : (Lit.int .u8 z).wf = true) : ∃ x : Nat, z = (x : Int) ∧ x < 256 := by
  have := bounds_u8 h
  exact ⟨z.toNat, by omega, by omega⟩
theorem open_u8 {r : Reach} {b0 : Nat} {v : Value} {d : DataW H} {p : List MemPlace} (hval : Value.okWide Try.prog W r b0 5 v) (h : DataW.Trod enc Try.prog W 0 (fun _ => true) true 5 v d p) : ∃ x : Nat, v = .int .u8 (x : Int) ∧ x < 256 := by
  obtain ⟨z, e, -, -, hw⟩ := open_int Try.underlying5 hval h
  obtain ⟨x, rfl, hx⟩ := u8_nat hw
  exact ⟨x, e, hx⟩
theorem open_reg1 {r : Reach} {b0 : Nat} {v : Value} {d : DataW H} {p : List MemPlace} (hval : Value.okWide Try.prog W r b0 24 v) (h : DataW.Trod enc Try.prog W 0 (fun _ => true) true 24 v d p) (hsz : ∀ n ∈ d.weights Try.prog 24, n ≤ reachBytes) :
    ∃ (rr : Rg) (cc : Ct), v = .agg #[.bool rr.s, .bool rr.l, .slice rr.a rr.n rr.c] ∧ Rd W rr cc := by
  obtain ⟨cs, rfl, -⟩ := okWide_struct Try.underlying24 hval
  obtain ⟨cs⟩ := cs
  obtain ⟨fuel, hf⟩ := h
  obtain ⟨rr, cc, e, hR⟩ := open_reg hf hsz
  have e2 : cs = rr.cs := e
  subst e2
  exact ⟨rr, cc, rfl, hR⟩
set_option maxRecDepth 100000 in
/-- a call's five cells -/
theorem open_fill5 {fuel : Nat} {cs : List Value} {x : DataW H × List MemPlace} (hf : DataW.trod enc Try.prog W 0 (fun _ => true) true fuel 40 cs = some x) (hsz : ∀ n ∈ x.1.weights Try.prog 40, n ≤ reachBytes) :
    ∃ (k : Nat) (how : Int) (rr : Rg) (cc : Ct), cs = [.int .u8 (k : Int), .int .i64 how, .bool rr.s, .bool rr.l, .slice rr.a rr.n rr.c] ∧ k < 256 ∧ Rd W rr cc := by
  obtain ⟨xs, n, -, hx, hl, hxl, hfl⟩ := DataW.trod_struct Try.underlying40 hf
  rw [cells40] at hl
  match xs, hxl, cs, hl with
  | [y0, y1, y2], _, [v0, v1, v2, v3, v4], _ =>
    have g0 : DataW.trod enc Try.prog W 0 (fun _ => true) true n 5 [v0] = some y0 := by simpa [cells5] using hfl 0 _ rfl
    have g1 : DataW.trod enc Try.prog W 0 (fun _ => true) true n 3 [v1] = some y1 := by simpa [cells3] using hfl 1 _ rfl
    have g2 : DataW.trod enc Try.prog W 0 (fun _ => true) true n 24 [v2, v3, v4] = some y2 := by simpa [cells24] using hfl 2 _ rfl
    obtain ⟨z, e0, -, hw0⟩ := DataW.trod_int Try.underlying5 g0
    obtain ⟨i, e1, -, -⟩ := DataW.trod_int Try.underlying3 g1
    simp only [List.cons.injEq, and_true] at e0 e1
    subst e0 e1
    obtain ⟨k, rfl, hk⟩ := u8_nat hw0
    obtain ⟨rr, cc, e2, hR⟩ := open_reg g2 (fun m hm => hsz m (by
      subst hx
      simp only [DataW.weights, Try.underlying40]
      exact DataW.weights_mem_each (j := 2) (t := 24) (d := y2.1) rfl rfl m hm))
    simp only [Rg.cs, List.cons.injEq, and_true] at e2
    obtain ⟨rfl, rfl, rfl⟩ := e2
    exact ⟨k, i, rr, cc, rfl, hk, hR⟩
theorem open_fill {r : Reach} {b0 : Nat} {v : Value} {d : DataW H} {p : List MemPlace} (hval : Value.okWide Try.prog W r b0 40 v) (h : DataW.Trod enc Try.prog W 0 (fun _ => true) true 40 v d p) (hsz : ∀ n ∈ d.weights Try.prog 40, n ≤ reachBytes) :
    ∃ (k : Nat) (how : Int) (rr : Rg) (cc : Ct), v = .agg #[.int .u8 (k : Int), .int .i64 how, .bool rr.s, .bool rr.l, .slice rr.a rr.n rr.c] ∧ k < 256 ∧ Rd W rr cc := by
  obtain ⟨cs, rfl, -⟩ := okWide_struct Try.underlying40 hval
  obtain ⟨cs⟩ := cs
  obtain ⟨fuel, hf⟩ := h
  obtain ⟨k, how, rr, cc, e, hk, hR⟩ := open_fill5 hf hsz
  have e2 : cs = _ := e
  subst e2
  exact ⟨k, how, rr, cc, rfl, hk, hR⟩
end
end Go.Proofs.Ytienamngmalkaaa
