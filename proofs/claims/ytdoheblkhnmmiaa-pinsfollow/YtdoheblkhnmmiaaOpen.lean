/- How the arguments of the laws lie in memory. -/
import Derived.Test.YtdoheblkhnmmiaaMov
import Derived.ProofKit
import Derived.OpenShut
import Derived.SizedLaws
import Derived.Lib.SmallJoins
import Derived.Deep.Matrix
namespace Go.Proofs.Ytdoheblkhnmmiaa
open Go.ChangeShapes Go.WideShapes Go.ChangeAt Go.RowKit Go.Joins Go.Deep

theorem own : ownKnob Try.prog.godebug = none := by kernel_rfl
theorem laidOut : laidOutB Try.prog = true := by kernel_rfl
theorem cells5 : Try.prog.cellsOf 5 = 1 := by kernel_rfl
theorem bytes5 : Try.prog.bytesOf 5 = 1 := by kernel_rfl

/-- numbers that are bytes -/
def by8 (zs : List Int) : List UInt8 := zs.map fun z => UInt8.ofNat z.toNat
theorem by8_length (zs : List Int) : (by8 zs).length = zs.length := by simp [by8]
theorem tx_ints {W : World} {a : Addr} {len cap : Nat} {zs : List Int} (hl : len ≤ cap) (hz : zs.length = cap) (hb : cap ≤ 150000000000000) (hc : ∀ i, i < zs.length → W.cell? (a.add i) = some (.int .u8 (zs.getD i 0))) (hw : ∀ n ∈ zs, (Lit.int .u8 n).wf = true) :
    Tx W (some a) len cap (by8 (zs.take len)) := by
  refine ⟨by rw [by8_length, List.length_take]; omega, hl, by omega, (fun h => by cases h), fun a' ha j hj => ?_⟩
  obtain rfl : a = a' := by simpa using ha
  have hjz : j < zs.length := by omega
  have hb := bounds_u8 (hw zs[j] (List.getElem_mem hjz))
  rw [hc j hjz]
  have e : (UInt8.ofNat zs[j].toNat).toNat = zs[j].toNat := by
    rw [UInt8.toNat_ofNat']; omega
  have e2 : at8 (by8 (zs.take len)) j = UInt8.ofNat zs[j].toNat := by simp [at8, by8, List.getD, hj, hjz]
  rw [e2, e]
  simp [List.getD, hjz]
  omega

section
variable {H : Type} {enc : TypeId × Value → H} {W : World}
/-- what a []byte is to the walk -/
theorem open_tx {fuel : Nat} {v : Value} {x : DataW H × List MemPlace} (hf : DataW.trod enc Try.prog W 0 (fun _ => true) true fuel 40 [v] = some x) (hsz : ∀ n ∈ x.1.weights Try.prog 40, n ≤ reachBytes) :
    ∃ ao n c l, v = .slice ao n c ∧ Tx W ao n c l ∧ n ≤ 140737488351232 := by
  rcases open_ints Try.underlying40 Try.underlying5 cells5 hf with ⟨hcs, _⟩ | ⟨a, len, cap, zs, hcs, _, hl, hm, hz, hx, hcell, hwz⟩
  · simp only [List.cons.injEq, and_true] at hcs
    subst hcs
    exact ⟨none, 0, 0, [], rfl, tx_nil W, by omega⟩
  · simp only [List.cons.injEq, and_true] at hcs
    subst hcs
    simp only [if_true] at hz
    subst hx
    have h2 := hsz ((lits (H := H) .u8 (zs.take len)).length + (lits (H := H) .u8 (zs.drop len)).length) (by simp [DataW.weights, Try.underlying40, bytes5])
    simp only [lits, List.length_map, List.length_take, List.length_drop, reachBytes] at h2
    exact ⟨some a, len, cap, _, rfl, tx_ints (by omega) (by omega) (by omega) hcell hwz, by omega⟩
theorem open0 {v : Value} {d : DataW H} {p : List MemPlace} (h : DataW.Trod enc Try.prog W 0 (fun _ => true) true 40 v d p) (hv : ∃ a len cap, v = .slice a len cap)
    (hsz : ∀ n ∈ d.weights Try.prog 40, n ≤ reachBytes) : ∃ ao n c l, v = .slice ao n c ∧ Tx W ao n c l ∧ n ≤ 140737488351232 := by
  obtain ⟨a, len, cap, rfl⟩ := hv
  obtain ⟨fuel, hf⟩ := h
  exact open_tx hf hsz
theorem cells3 : Try.prog.cellsOf 3 = 1 := by kernel_rfl
theorem cells22 : Try.prog.cellsOf 22 = 26 := by kernel_rfl
theorem cells24 : Try.prog.cellsOf 24 = 27 := by kernel_rfl
theorem cells40 : Try.prog.cellsOf 40 = 1 := by kernel_rfl
theorem cells42 : Try.prog.cellsOf 42 = 3 := by kernel_rfl
theorem cells48 : Try.prog.cellsOf 48 = 81 := by kernel_rfl
theorem bytes42 : Try.prog.bytesOf 42 = 56 := by kernel_rfl
theorem weightsAll_mem {H : Type} {P : Program} {e : TypeId} : ∀ {l : List (DataW H)} {d : DataW H} {n : Nat}, d ∈ l → n ∈ d.weights P e → n ∈ DataW.weightsAll P e l
  | d0 :: l, d, n, hd, hn => by
    simp only [DataW.weightsAll, List.mem_append]
    rcases List.mem_cons.1 hd with rfl | h
    · exact .inl hn
    · exact .inr (weightsAll_mem h hn)
/-- cells, one by one -/
theorem cells_one : ∀ (n : Nat) (cs : List Value) (r : Nat → Int), cs.length = n → (∀ i, i < n → (cs.drop i).take 1 = [.int .i64 (r i)]) → cs = ml ((List.range n).map r)
  | 0, cs, r, h, _ => by rw [List.eq_nil_of_length_eq_zero h]; rfl
  | n + 1, cs, r, h, hr => by
    have h0 := hr 0 (by omega)
    rw [List.drop_zero] at h0
    have ih := cells_one n (cs.drop 1) (fun i => r (i + 1)) (by simp; omega) (fun i hi => by
      rw [List.drop_drop, ← hr (i + 1) (by omega)]
      congr 2; omega)
    rw [List.range_succ_eq_map, List.map_cons, List.map_map]
    have e : ml (List.map (r ∘ Nat.succ) (List.range n)) = cs.drop 1 := ih.symm
    show cs = .int .i64 (r 0) :: ml (List.map (r ∘ Nat.succ) (List.range n))
    rw [e, ← List.take_append_drop 1 cs, h0]
    rfl
/-- an array of marks -/
theorem open_names {fuel : Nat} {cs : List Value} {x : DataW H × List MemPlace} (hf : DataW.trod enc Try.prog W 0 (fun _ => true) true fuel 22 cs = some x) : ∃ L : List Int, L.length = 26 ∧ cs = ml L := by
  obtain ⟨xs, m, -, hx, hl, hxl, hfl⟩ := DataW.trod_array Try.underlying22 hf
  rw [cells22] at hl
  have each : ∀ i, ∃ r : Int, i < 26 → (cs.drop i).take 1 = [.int .i64 r] := fun i => by
    by_cases hi : i < 26
    · have h1 := hfl i hi
      rw [cells3, Nat.mul_one, List.getElem?_eq_getElem (by omega)] at h1
      obtain ⟨z, e, -, -⟩ := DataW.trod_int Try.underlying3 h1
      exact ⟨z, fun _ => e⟩
    · exact ⟨0, fun h => absurd h hi⟩
  obtain ⟨r, hr⟩ := Classical.axiomOfChoice each
  exact ⟨(List.range 26).map r, by simp, cells_one 26 cs r hl (fun i hi => hr i hi)⟩
set_option maxRecDepth 100000 in
/-- marks' cells -/
theorem open_marks0 {fuel : Nat} {cs : List Value} {x : DataW H × List MemPlace} (hf : DataW.trod enc Try.prog W 0 (fun _ => true) true fuel 24 cs = some x) : ∃ L : List Int, L.length = 27 ∧ cs = ml L := by
  obtain ⟨xs, n, -, hx, hl, hxl, hfl⟩ := DataW.trod_struct Try.underlying24 hf
  rw [cells24] at hl
  match xs, hxl with
  | [y0, y1], _ =>
    have g0 : DataW.trod enc Try.prog W 0 (fun _ => true) true n 22 (cs.take 26) = some y0 := by simpa [cells22] using hfl 0 _ rfl
    have g1 : DataW.trod enc Try.prog W 0 (fun _ => true) true n 3 ((cs.drop 26).take 1) = some y1 := by simpa [cells3] using hfl 1 _ rfl
    obtain ⟨L, hL, e0⟩ := open_names g0
    obtain ⟨z, e1, -, -⟩ := DataW.trod_int Try.underlying3 g1
    refine ⟨L ++ [z], by simp [hL], ?_⟩
    rw [ml_append, ← e0, show ml [z] = [.int .i64 z] from rfl, ← e1, List.take_of_length_le (l := cs.drop 26) (by simp; omega), List.take_append_drop]
theorem open_marks {r : Reach} {b0 : Nat} {v : Value} {d : DataW H} {p : List MemPlace} (hval : Value.okWide Try.prog W r b0 24 v) (h : DataW.Trod enc Try.prog W 0 (fun _ => true) true 24 v d p) : ∃ L : List Int, v = .agg (mk L) ∧ L.length = 27 := by
  obtain ⟨cs, rfl, -⟩ := okWide_struct Try.underlying24 hval
  obtain ⟨cs⟩ := cs
  obtain ⟨fuel, hf⟩ := h
  obtain ⟨L, hL, e⟩ := open_marks0 hf
  have e2 : cs = ml L := e
  subst e2
  exact ⟨L, rfl, hL⟩
set_option maxRecDepth 100000 in
theorem open_crossed {r : Reach} {b0 : Nat} {v : Value} {d : DataW H} {p : List MemPlace} (hval : Value.okWide Try.prog W r b0 48 v) (h : DataW.Trod enc Try.prog W 0 (fun _ => true) true 48 v d p) : ∃ A C M : List Int, v = .agg (mk (A ++ C ++ M)) ∧ A.length = 27 ∧ C.length = 27 ∧ M.length = 27 := by
  obtain ⟨cs, rfl, -⟩ := okWide_struct Try.underlying48 hval
  obtain ⟨cs⟩ := cs
  obtain ⟨fuel, hf⟩ := h
  obtain ⟨xs, n, -, hx, hl, hxl, hfl⟩ := DataW.trod_struct Try.underlying48 hf
  rw [cells48] at hl
  have hl' : cs.length = 81 := hl
  match xs, hxl with
  | [y0, y1, y2], _ =>
    have g0 : DataW.trod enc Try.prog W 0 (fun _ => true) true n 24 (cs.take 27) = some y0 := by simpa [Value.cells, cells24] using hfl 0 _ rfl
    have g1 : DataW.trod enc Try.prog W 0 (fun _ => true) true n 24 ((cs.drop 27).take 27) = some y1 := by simpa [Value.cells, cells24] using hfl 1 _ rfl
    have g2 : DataW.trod enc Try.prog W 0 (fun _ => true) true n 24 ((cs.drop 54).take 27) = some y2 := by simpa [Value.cells, cells24] using hfl 2 _ rfl
    obtain ⟨A, hA, e0⟩ := open_marks0 g0
    obtain ⟨C, hC, e1⟩ := open_marks0 g1
    obtain ⟨M, hM, e2⟩ := open_marks0 g2
    refine ⟨A, C, M, ?_, hA, hC, hM⟩
    have e : cs = ml (A ++ C ++ M) := by
      rw [ml_append, ml_append, ← e0, ← e1, ← e2, List.take_of_length_le (l := cs.drop 54) (by simp; omega), List.append_assoc]
      conv => lhs; rw [← List.take_append_drop 27 cs, ← List.take_append_drop 27 (cs.drop 27), List.drop_drop]
    subst e
    rfl
theorem u8_nat {z : Int} (h : (Lit.int .u8 z).wf = true) : ∃ x : Nat, z = (x : Int) ∧ x < 256 := by
  have := bounds_u8 h
  exact ⟨z.toNat, by omega, by omega⟩
theorem open_u8 {r : Reach} {b0 : Nat} {v : Value} {d : DataW H} {p : List MemPlace} (hval : Value.okWide Try.prog W r b0 5 v) (h : DataW.Trod enc Try.prog W 0 (fun _ => true) true 5 v d p) : ∃ x : Nat, v = .int .u8 (x : Int) ∧ x < 256 := by
  obtain ⟨z, e, -, -, hw⟩ := open_int Try.underlying5 hval h
  obtain ⟨x, rfl, hx⟩ := u8_nat hw
  exact ⟨x, e, hx⟩
theorem open_i64 {r : Reach} {b0 : Nat} {v : Value} {d : DataW H} {p : List MemPlace} (hval : Value.okWide Try.prog W r b0 3 v) (h : DataW.Trod enc Try.prog W 0 (fun _ => true) true 3 v d p) : ∃ x : Int, v = .int .i64 x := by
  obtain ⟨z, e, -, -, -⟩ := open_int Try.underlying3 hval h
  exact ⟨z, e⟩
set_option maxRecDepth 100000 in
/-- one edit -/
theorem open_edit {fuel : Nat} {cs : List Value} {x : DataW H × List MemPlace} (h : DataW.trod enc Try.prog W 0 (fun _ => true) true fuel 42 cs = some x) (hsz : ∀ n ∈ x.1.weights Try.prog 42, n ≤ reachBytes) :
    ∃ (e : Er) (old new : List UInt8), cs = [.int .i64 e.a, .slice e.p1 e.o e.c1, .slice e.p2 e.n e.c2] ∧ Tx W e.p1 e.o e.c1 old ∧ Tx W e.p2 e.n e.c2 new ∧ e.o ≤ 140737488351232 ∧ e.n ≤ 140737488351232 := by
  obtain ⟨xs, n, -, hx, hl, hxl, hf⟩ := DataW.trod_struct Try.underlying42 h
  rw [cells42] at hl
  match xs, hxl, cs, hl with
  | [y0, y1, y2], _, [v0, v1, v2], _ =>
    have g0 : DataW.trod enc Try.prog W 0 (fun _ => true) true n 3 [v0] = some y0 := by simpa [cells3] using hf 0 _ rfl
    have g1 : DataW.trod enc Try.prog W 0 (fun _ => true) true n 40 [v1] = some y1 := by simpa [cells40] using hf 1 _ rfl
    have g2 : DataW.trod enc Try.prog W 0 (fun _ => true) true n 40 [v2] = some y2 := by simpa [cells40] using hf 2 _ rfl
    have hw : ∀ (j t : Nat) (y : DataW H × List MemPlace), [3, 40, 40][j]? = some t → [y0, y1, y2][j]? = some y → ∀ m ∈ y.1.weights Try.prog t, m ≤ reachBytes := fun j t y h1 h2 m hm => hsz m (by
      have e9 : x.1 = .agg ([y0, y1, y2].map (·.1)) := by have := congrArg Prod.fst hx; simpa using this
      rw [e9]
      simp only [DataW.weights, Try.underlying42]
      exact DataW.weights_mem_each (j := j) (t := t) (d := y.1) h1 (by rw [List.getElem?_map, h2]; rfl) m hm)
    obtain ⟨z, e0, -, -⟩ := DataW.trod_int Try.underlying3 g0
    obtain ⟨a1, k1, c1, l1, rfl, hT1, hk1⟩ := open_tx g1 (hw 1 40 y1 rfl rfl)
    obtain ⟨a2, k2, c2, l2, rfl, hT2, hk2⟩ := open_tx g2 (hw 2 40 y2 rfl rfl)
    simp only [List.cons.injEq, and_true] at e0
    subst e0
    exact ⟨⟨z, a1, k1, c1, a2, k2, c2⟩, l1, l2, rfl, hT1, hT2, hk1, hk2⟩
/-- edits in memory, with their texts -/
structure Edz (W : World) (ao : Option Addr) (E : List Er) : Prop where
  row : Edr W ao E
  txs : ∀ (k : Nat) (r : Er), E[k]? = some r → ∃ old new, Tx W r.p1 r.o r.c1 old ∧ Tx W r.p2 r.n r.c2 new ∧ r.o ≤ 140737488351232 ∧ r.n ≤ 140737488351232
theorem Edz.keep {W W' : World} {ao : Option Addr} {E : List Er} (h : Edz W ao E) (hb : Below W.heap.size W W') : Edz W' ao E := ⟨h.row.keep hb, fun k r hk => by
  obtain ⟨o, n, h1, h2, h3⟩ := h.txs k r hk
  exact ⟨o, n, h1.keep hb, h2.keep hb, h3⟩⟩
/-- a list of edits -/
theorem open_edits {v : Value} {d : DataW H} {p : List MemPlace} (h : DataW.Trod enc Try.prog W 0 (fun _ => true) true 37 v d p) (hv : ∃ a len cap, v = .slice a len cap)
    (hsz : ∀ n ∈ d.weights Try.prog 37, n ≤ reachBytes) : ∃ ao n c E, v = .slice ao n c ∧ Edz W ao E ∧ E.length = n ∧ n ≤ 140737488351232 := by
  obtain ⟨a, len, cap, rfl⟩ := hv
  obtain ⟨fuel, hf⟩ := h
  rcases open_slice Try.underlying37 hf with ⟨hcs, _⟩ | ⟨x, l, c, m, n, D, Pl, hcs, _, hl, hm, hm2, hx, hrow⟩
  · simp [Value.cells] at hcs
    obtain ⟨rfl, rfl, rfl⟩ := hcs
    exact ⟨none, 0, 0, [], rfl, ⟨fun k r hr => by simp at hr, fun k r hr => by simp at hr⟩, rfl, by omega⟩
  · simp [Value.cells] at hcs
    obtain ⟨rfl, rfl, rfl⟩ := hcs
    simp only [Prod.mk.injEq] at hx
    obtain ⟨rfl, -⟩ := hx
    simp only [if_true] at hm2
    subst hm2
    have each : ∀ r, ∃ e : Er, r < len → (∃ g o, x = ⟨g, o, none⟩ ∧ W.cell? ⟨g, o + r * 3, none⟩ = some (.int .i64 e.a) ∧ W.cell? ⟨g, o + r * 3 + 1, none⟩ = some (.slice e.p1 e.o e.c1) ∧ W.cell? ⟨g, o + r * 3 + 2, none⟩ = some (.slice e.p2 e.n e.c2)) ∧ ∃ old new, Tx W e.p1 e.o e.c1 old ∧ Tx W e.p2 e.n e.c2 new ∧ e.o ≤ 140737488351232 ∧ e.n ≤ 140737488351232 := fun r => by
      by_cases hr : r < len
      · obtain ⟨cs', h1, h2⟩ := hrow r (by omega)
        rw [cells42] at h1
        obtain ⟨e, old, new, ee, t1, t2, b1, b2⟩ := open_edit h2 (fun q hq => hsz q (by
          have hmem : D r ∈ (List.range len).map D := List.mem_map.2 ⟨r, List.mem_range.2 hr, rfl⟩
          have h9 := weightsAll_mem (P := Try.prog) hmem hq
          simp only [DataW.weights, Try.underlying37, List.mem_cons, List.mem_append]
          exact .inr (.inl h9)))
        subst ee
        obtain ⟨_, hlen, hcell⟩ := World.cells?_some h1
        have c0 := hcell 0 (by omega)
        have c1 := hcell 1 (by omega)
        have c2 := hcell 2 (by omega)
        obtain ⟨g, o, sp⟩ := x
        have hs : sp = none := by
          obtain ⟨_, h01, _⟩ := hrow 0 (by omega)
          rw [cells42] at h01
          obtain ⟨_, hl0, hc0⟩ := World.cells?_some h01
          have := World.cell?_spot ((hc0 0 (by omega)).trans (List.getElem?_eq_getElem (by omega)))
          simpa [Addr.add] using this
        subst hs
        rw [add_none, add_none] at c0 c1 c2
        exact ⟨e, fun _ => ⟨⟨g, o, rfl, by simpa using c0, by simpa using c1, by simpa using c2⟩, old, new, t1, t2, b1, b2⟩⟩
      · exact ⟨⟨0, none, 0, 0, none, 0, 0⟩, fun h => absurd h hr⟩
    obtain ⟨f, hff⟩ := Classical.axiomOfChoice each
    have hat : ∀ (k : Nat) (r : Er), ((List.range len).map f)[k]? = some r → k < len ∧ r = f k := fun k r hk => by
      have hk' : k < len := by have := (List.getElem?_eq_some_iff.1 hk).1; simpa using this
      rw [List.getElem?_map, List.getElem?_range hk'] at hk
      simp at hk
      exact ⟨hk', hk.symm⟩
    refine ⟨some x, len, _, (List.range len).map f, rfl, ⟨fun k r hk => ?_, fun k r hk => ?_⟩, by simp, ?_⟩
    · obtain ⟨hk', rfl⟩ := hat k r hk
      obtain ⟨⟨g, o, e0, e1, e2, e3⟩, -⟩ := hff k hk'
      exact ⟨g, o, by rw [e0], e1, e2, e3⟩
    · obtain ⟨hk', rfl⟩ := hat k r hk
      exact (hff k hk').2
    · have h2 := hsz ((((List.range len).map D).length + ((List.range (m - len)).map fun j => D (len + j)).length) * 56) (by simp [DataW.weights, Try.underlying37, bytes42])
      simp only [List.length_map, List.length_range, reachBytes] at h2
      omega
end
end Go.Proofs.Ytdoheblkhnmmiaa
