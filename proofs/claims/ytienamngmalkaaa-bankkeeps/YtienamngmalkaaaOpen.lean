/- How the arguments of the laws lie in memory. -/
import Derived.Test.YtienamngmalkaaaGet
import Derived.ProofKit
import Derived.OpenShut
import Derived.SizedLaws
import Derived.Lib.SmallJoins
import Derived.Deep.Matrix
namespace Go.Proofs.Ytienamngmalkaaa
open Go.ChangeShapes Go.WideShapes Go.ChangeAt Go.RowKit Go.Joins

theorem own : ownKnob Try.prog.godebug = none := by kernel_rfl
theorem laidOut : laidOutB Try.prog = true := by kernel_rfl
theorem cells5 : Try.prog.cellsOf 5 = 1 := by kernel_rfl
theorem bytes5 : Try.prog.bytesOf 5 = 1 := by kernel_rfl

/-- numbers that are bytes -/
def by8 (zs : List Int) : List UInt8 := zs.map fun z => UInt8.ofNat z.toNat
theorem by8_length (zs : List Int) : (by8 zs).length = zs.length := by simp [by8]
theorem tx_ints {W : World} {a : Addr} {len cap : Nat} {zs : List Int} (hl : len ≤ cap) (hz : zs.length = cap) (hb : cap ≤ 150000000000000) (hc : ∀ i, i < zs.length → W.cell? (a.add i) = some (.int .u8 (zs.getD i 0))) (hw : ∀ n ∈ zs, (Lit.int .u8 n).wf = true) :
    Tx W (some a) len cap (by8 (zs.take len)) := by
  refine ⟨by rw [by8_length, List.length_take]; omega, hl, by omega, (fun h => by cases h), fun a' ha j hj => ?_⟩
  obtain rfl : a = a' := by simpa using ha
  have hjz : j < zs.length := by omega
  have hb := bounds_u8 (hw zs[j] (List.getElem_mem hjz))
  rw [hc j hjz]
  have e : (UInt8.ofNat zs[j].toNat).toNat = zs[j].toNat := by
    rw [UInt8.toNat_ofNat']; omega
  have e2 : at8 (by8 (zs.take len)) j = UInt8.ofNat zs[j].toNat := by simp [at8, by8, List.getD, hj, hjz]
  rw [e2, e]
  simp [List.getD, hjz]
  omega

section
variable {H : Type} {enc : TypeId × Value → H} {W : World}
/-- what a []byte is to the walk -/
theorem open_tx {fuel : Nat} {v : Value} {x : DataW H × List MemPlace} (hf : DataW.trod enc Try.prog W 0 (fun _ => true) true fuel 22 [v] = some x) (hsz : ∀ n ∈ x.1.weights Try.prog 22, n ≤ reachBytes) :
    ∃ ao n c l, v = .slice ao n c ∧ Tx W ao n c l ∧ n ≤ 140737488351232 := by
  rcases open_ints Try.underlying22 Try.underlying5 cells5 hf with ⟨hcs, _⟩ | ⟨a, len, cap, zs, hcs, _, hl, hm, hz, hx, hcell, hwz⟩
  · simp only [List.cons.injEq, and_true] at hcs
    subst hcs
    exact ⟨none, 0, 0, [], rfl, tx_nil W, by omega⟩
  · simp only [List.cons.injEq, and_true] at hcs
    subst hcs
    simp only [if_true] at hz
    subst hx
    have h2 := hsz ((lits (H := H) .u8 (zs.take len)).length + (lits (H := H) .u8 (zs.drop len)).length) (by simp [DataW.weights, Try.underlying22, bytes5])
    simp only [lits, List.length_map, List.length_take, List.length_drop, reachBytes] at h2
    exact ⟨some a, len, cap, _, rfl, tx_ints (by omega) (by omega) (by omega) hcell hwz, by omega⟩
theorem open0 {v : Value} {d : DataW H} {p : List MemPlace} (h : DataW.Trod enc Try.prog W 0 (fun _ => true) true 22 v d p) (hv : ∃ a len cap, v = .slice a len cap)
    (hsz : ∀ n ∈ d.weights Try.prog 22, n ≤ reachBytes) : ∃ ao n c l, v = .slice ao n c ∧ Tx W ao n c l ∧ n ≤ 140737488351232 := by
  obtain ⟨a, len, cap, rfl⟩ := hv
  obtain ⟨fuel, hf⟩ := h
  exact open_tx hf hsz
theorem cells3 : Try.prog.cellsOf 3 = 1 := by kernel_rfl
theorem cells4 : Try.prog.cellsOf 4 = 1 := by kernel_rfl
theorem cells22 : Try.prog.cellsOf 22 = 1 := by kernel_rfl
theorem cells24 : Try.prog.cellsOf 24 = 3 := by kernel_rfl
theorem cells25 : Try.prog.cellsOf 25 = 27 := by kernel_rfl
theorem cells26 : Try.prog.cellsOf 26 = 78 := by kernel_rfl
theorem cells28 : Try.prog.cellsOf 28 = 111 := by kernel_rfl
theorem cells40 : Try.prog.cellsOf 40 = 5 := by kernel_rfl
theorem weightsAll_mem {H : Type} {P : Program} {e : TypeId} : ∀ {l : List (DataW H)} {d : DataW H} {n : Nat}, d ∈ l → n ∈ d.weights P e → n ∈ DataW.weightsAll P e l
  | d0 :: l, d, n, hd, hn => by
    simp only [DataW.weightsAll, List.mem_append]
    rcases List.mem_cons.1 hd with rfl | h
    · exact .inl hn
    · exact .inr (weightsAll_mem h hn)
set_option maxRecDepth 100000 in
/-- a register's three cells -/
theorem open_reg {fuel : Nat} {cs : List Value} {x : DataW H × List MemPlace} (hf : DataW.trod enc Try.prog W 0 (fun _ => true) true fuel 24 cs = some x) (hsz : ∀ n ∈ x.1.weights Try.prog 24, n ≤ reachBytes) :
    ∃ (r : Rg) (c : Ct), cs = r.cs ∧ Rd W r c := by
  obtain ⟨xs, n, -, hx, hl, hxl, hfl⟩ := DataW.trod_struct Try.underlying24 hf
  rw [cells24] at hl
  match xs, hxl, cs, hl with
  | [y0, y1, y2], _, [v0, v1, v2], _ =>
    have g0 : DataW.trod enc Try.prog W 0 (fun _ => true) true n 4 [v0] = some y0 := by simpa [cells4] using hfl 0 _ rfl
    have g1 : DataW.trod enc Try.prog W 0 (fun _ => true) true n 4 [v1] = some y1 := by simpa [cells4] using hfl 1 _ rfl
    have g2 : DataW.trod enc Try.prog W 0 (fun _ => true) true n 22 [v2] = some y2 := by simpa [cells22] using hfl 2 _ rfl
    obtain ⟨a, e0, -⟩ := DataW.trod_bool Try.underlying4 g0
    obtain ⟨b, e1, -⟩ := DataW.trod_bool Try.underlying4 g1
    simp only [List.cons.injEq, and_true] at e0 e1
    subst e0 e1
    obtain ⟨ao, k, c, l, rfl, hT, hk⟩ := open_tx g2 (fun m hm => hsz m (by
      subst hx
      simp only [DataW.weights, Try.underlying24]
      exact DataW.weights_mem_each (j := 2) (t := 22) (d := y2.1) rfl rfl m hm))
    exact ⟨⟨a, b, ao, k, c⟩, ⟨a, b, l⟩, rfl, rfl, rfl, hT, hk⟩
/-- cells, three by three -/
theorem cells_three : ∀ (n : Nat) (cs : List Value) (r : Nat → Rg), cs.length = 3 * n → (∀ i, i < n → (cs.drop (i * 3)).take 3 = (r i).cs) → cs = rl ((List.range n).map r)
  | 0, cs, r, h, _ => by rw [List.eq_nil_of_length_eq_zero h]; rfl
  | n + 1, cs, r, h, hr => by
    have h0 := hr 0 (by omega)
    rw [Nat.zero_mul, List.drop_zero] at h0
    have ih := cells_three n (cs.drop 3) (fun i => r (i + 1)) (by simp; omega) (fun i hi => by
      rw [List.drop_drop, ← hr (i + 1) (by omega)]
      congr 2; omega)
    rw [List.range_succ_eq_map, List.map_cons, rl_cons, List.map_map, ← h0]
    have e : rl (List.map (r ∘ Nat.succ) (List.range n)) = cs.drop 3 := ih.symm
    rw [e, List.take_append_drop]
/-- an array of registers -/
theorem open_regs {fuel n t : Nat} {cs : List Value} {x : DataW H × List MemPlace} (ht : Try.prog.underlying t = some (.array n 24)) (hc : Try.prog.cellsOf t = 3 * n) (hf : DataW.trod enc Try.prog W 0 (fun _ => true) true fuel t cs = some x)
    (hsz : ∀ m ∈ x.1.weights Try.prog t, m ≤ reachBytes) : ∃ (L : List Rg) (P : List Ct), L.length = n ∧ P.length = n ∧ cs = rl L ∧ ∀ (k : Nat) (r : Rg) (c : Ct), L[k]? = some r → P[k]? = some c → Rd W r c := by
  obtain ⟨xs, m, -, hx, hl, hxl, hfl⟩ := DataW.trod_array ht hf
  rw [hc] at hl
  have each : ∀ i, ∃ (r : Rg) (c : Ct), i < n → (cs.drop (i * 3)).take 3 = r.cs ∧ Rd W r c := fun i => by
    by_cases hi : i < n
    · have h1 := hfl i hi
      rw [cells24, List.getElem?_eq_getElem (by omega)] at h1
      obtain ⟨r, c, e1, e2⟩ := open_reg h1 (fun k hk => hsz k (by
        subst hx
        simp only [DataW.weights, ht]
        exact weightsAll_mem (List.mem_map.2 ⟨_, List.getElem_mem _, rfl⟩) hk))
      exact ⟨r, c, fun _ => ⟨e1, e2⟩⟩
    · exact ⟨zr, zc, fun h => absurd h hi⟩
  obtain ⟨f, hf1⟩ := Classical.axiomOfChoice each
  obtain ⟨g, hg⟩ := Classical.axiomOfChoice hf1
  refine ⟨(List.range n).map f, (List.range n).map g, by simp, by simp, cells_three n cs f hl (fun i hi => (hg i hi).1), fun k r c h1 h2 => ?_⟩
  have hk : k < n := by have := (List.getElem?_eq_some_iff.1 h1).1; simpa using this
  rw [List.getElem?_map, List.getElem?_range hk] at h1 h2
  simp only [Option.map_some, Option.some.injEq] at h1 h2
  subst h1 h2
  exact (hg k hk).2
set_option maxRecDepth 100000 in
/-- what a bank is to the walk -/
theorem open_bank {r : Reach} {b0 : Nat} {v : Value} {d : DataW H} {p : List MemPlace} (hval : Value.okWide Try.prog W r b0 28 v) (h : DataW.Trod enc Try.prog W 0 (fun _ => true) true 28 v d p) (hsz : ∀ n ∈ d.weights Try.prog 28, n ≤ reachBytes) :
    ∃ (L : List Rg) (P : List Ct), v = .agg (bk L) ∧ Rdb W L P := by
  obtain ⟨cs, rfl, hcs⟩ := okWide_struct Try.underlying28 hval
  rw [cells28] at hcs
  obtain ⟨cs⟩ := cs
  obtain ⟨fuel, hf⟩ := h
  obtain ⟨xs, n, -, hx, hl, hxl, hfl⟩ := DataW.trod_struct Try.underlying28 hf
  have hcs' : cs.length = 111 := by simpa using hcs
  match xs, hxl with
  | [y0, y1, y2, y3], _ =>
    have g0 : DataW.trod enc Try.prog W 0 (fun _ => true) true n 24 (cs.take 3) = some y0 := by simpa [Value.cells, cells24] using hfl 0 _ rfl
    have g1 : DataW.trod enc Try.prog W 0 (fun _ => true) true n 24 ((cs.drop 3).take 3) = some y1 := by simpa [Value.cells, cells24] using hfl 1 _ rfl
    have g2 : DataW.trod enc Try.prog W 0 (fun _ => true) true n 25 ((cs.drop 6).take 27) = some y2 := by simpa [Value.cells, cells25] using hfl 2 _ rfl
    have g3 : DataW.trod enc Try.prog W 0 (fun _ => true) true n 26 ((cs.drop 33).take 78) = some y3 := by simpa [Value.cells, cells26] using hfl 3 _ rfl
    have hw : ∀ (j t : Nat) (y : DataW H × List MemPlace), [24, 24, 25, 26][j]? = some t → [y0, y1, y2, y3][j]? = some y → ∀ m ∈ y.1.weights Try.prog t, m ≤ reachBytes := fun j t y h1 h2 m hm => hsz m (by
      have e9 : d = .agg ([y0, y1, y2, y3].map (·.1)) := by have := congrArg Prod.fst hx; simpa using this
      subst e9
      simp only [DataW.weights, Try.underlying28]
      exact DataW.weights_mem_each (j := j) (t := t) (d := y.1) h1 (by rw [List.getElem?_map, h2]; rfl) m hm)
    obtain ⟨r0, c0, e0, d0⟩ := open_reg g0 (hw 0 24 y0 rfl rfl)
    obtain ⟨r1, c1, e1, d1⟩ := open_reg g1 (hw 1 24 y1 rfl rfl)
    obtain ⟨L2, P2, a2, b2, e2, d2⟩ := open_regs Try.underlying25 (by rw [cells25]) g2 (hw 2 25 y2 rfl rfl)
    obtain ⟨L3, P3, a3, b3, e3, d3⟩ := open_regs Try.underlying26 (by rw [cells26]) g3 (hw 3 26 y3 rfl rfl)
    refine ⟨r0 :: r1 :: (L2 ++ L3), c0 :: c1 :: (P2 ++ P3), ?_, by simp [a2, a3], by simp [b2, b3], fun k r c h1 h2 => ?_⟩
    · show Value.agg cs.toArray = .agg (rl (r0 :: r1 :: (L2 ++ L3))).toArray
      rw [rl_cons, rl_cons, rl_append, ← e0, ← e1, ← e2, ← e3]
      congr 2
      have h1 := List.take_append_drop 3 cs
      have h2 := List.take_append_drop 3 (cs.drop 3)
      have h3 := List.take_append_drop 27 (cs.drop 6)
      have h4 : (cs.drop 33).take 78 = cs.drop 33 := List.take_of_length_le (by simp; omega)
      rw [List.drop_drop] at h2 h3
      rw [h4, h3, h2, h1]
    · match k, h1, h2 with
      | 0, h1, h2 => simp at h1 h2; subst h1 h2; exact d0
      | 1, h1, h2 => simp at h1 h2; subst h1 h2; exact d1
      | k + 2, h1, h2 =>
        simp only [List.getElem?_cons_succ] at h1 h2
        by_cases hk : k < 9
        · rw [List.getElem?_append_left (by omega)] at h1 h2
          exact d2 k r c h1 h2
        · rw [List.getElem?_append_right (by omega), a2] at h1
          rw [List.getElem?_append_right (by omega), b2] at h2
          exact d3 (k - 9) r c h1 h2
end
end Go.Proofs.Ytienamngmalkaaa
