/- How the arguments of the laws lie in memory. -/
import Derived.Test.YtaahklapoppgaaaQm05
import Derived.Test.YtaahklapoppgaaaQm11
import Derived.ProofKit
import Derived.OpenShut
import Derived.SizedLaws
import Derived.Lib.SmallJoins
import Derived.Deep.Matrix
namespace Go.Proofs.Ytaahklapoppgaaa
open Go.ChangeShapes Go.WideShapes Go.ChangeAt Go.RowKit Go.Joins Go.Deep

theorem own : ownKnob Try.prog.godebug = none := by kernel_rfl
theorem laidOut : laidOutB Try.prog = true := by kernel_rfl
theorem cells5 : Try.prog.cellsOf 5 = 1 := by kernel_rfl
theorem bytes5 : Try.prog.bytesOf 5 = 1 := by kernel_rfl

/-- numbers that are bytes -/
def by8 (zs : List Int) : List UInt8 := zs.map fun z => UInt8.ofNat z.toNat
theorem by8_length (zs : List Int) : (by8 zs).length = zs.length := by simp [by8]
theorem tx_ints {W : World} {a : Addr} {len cap : Nat} {zs : List Int} (hl : len ≤ cap) (hz : zs.length = cap) (hb : cap ≤ 150000000000000) (hc : ∀ i, i < zs.length → W.cell? (a.add i) = some (.int .u8 (zs.getD i 0))) (hw : ∀ n ∈ zs, (Lit.int .u8 n).wf = true) :
    Tx W (some a) len cap (by8 (zs.take len)) := by
  refine ⟨by rw [by8_length, List.length_take]; omega, hl, by omega, (fun h => by cases h), fun a' ha j hj => ?_⟩
  obtain rfl : a = a' := by simpa using ha
  have hjz : j < zs.length := by omega
  have hb := bounds_u8 (hw zs[j] (List.getElem_mem hjz))
  rw [hc j hjz]
  have e : (UInt8.ofNat zs[j].toNat).toNat = zs[j].toNat := by
    rw [UInt8.toNat_ofNat']; omega
  have e2 : at8 (by8 (zs.take len)) j = UInt8.ofNat zs[j].toNat := by simp [at8, by8, List.getD, hj, hjz]
  rw [e2, e]
  simp [List.getD, hjz]
  omega

section
variable {H : Type} {enc : TypeId × Value → H} {W : World}
/-- what a []byte is to the walk -/
theorem open_tx {fuel : Nat} {v : Value} {x : DataW H × List MemPlace} (hf : DataW.trod enc Try.prog W 0 (fun _ => true) true fuel 70 [v] = some x) (hsz : ∀ n ∈ x.1.weights Try.prog 70, n ≤ reachBytes) :
    ∃ ao n c l, v = .slice ao n c ∧ Tx W ao n c l ∧ n ≤ 140737488351232 := by
  rcases open_ints Try.underlying70 Try.underlying5 cells5 hf with ⟨hcs, _⟩ | ⟨a, len, cap, zs, hcs, _, hl, hm, hz, hx, hcell, hwz⟩
  · simp only [List.cons.injEq, and_true] at hcs
    subst hcs
    exact ⟨none, 0, 0, [], rfl, tx_nil W, by omega⟩
  · simp only [List.cons.injEq, and_true] at hcs
    subst hcs
    simp only [if_true] at hz
    subst hx
    have h2 := hsz ((lits (H := H) .u8 (zs.take len)).length + (lits (H := H) .u8 (zs.drop len)).length) (by simp [DataW.weights, Try.underlying70, bytes5])
    simp only [lits, List.length_map, List.length_take, List.length_drop, reachBytes] at h2
    exact ⟨some a, len, cap, _, rfl, tx_ints (by omega) (by omega) (by omega) hcell hwz, by omega⟩
theorem open0 {v : Value} {d : DataW H} {p : List MemPlace} (h : DataW.Trod enc Try.prog W 0 (fun _ => true) true 70 v d p) (hv : ∃ a len cap, v = .slice a len cap)
    (hsz : ∀ n ∈ d.weights Try.prog 70, n ≤ reachBytes) : ∃ ao n c l, v = .slice ao n c ∧ Tx W ao n c l ∧ n ≤ 140737488351232 := by
  obtain ⟨a, len, cap, rfl⟩ := hv
  obtain ⟨fuel, hf⟩ := h
  exact open_tx hf hsz
theorem cells3 : Try.prog.cellsOf 3 = 1 := by kernel_rfl
theorem cells70 : Try.prog.cellsOf 70 = 1 := by kernel_rfl
theorem cellsS38 : Try.prog.cellsOf 38 = 1 := by kernel_rfl
theorem cellsE : Try.prog.cellsOf 77 = 3 := by kernel_rfl
theorem bytesE : Try.prog.bytesOf 77 = 56 := by kernel_rfl
theorem weightsAll_mem {H : Type} {P : Program} {e : TypeId} : ∀ {l : List (DataW H)} {d : DataW H} {n : Nat}, d ∈ l → n ∈ d.weights P e → n ∈ DataW.weightsAll P e l
  | d0 :: l, d, n, hd, hn => by
    simp only [DataW.weightsAll, List.mem_append]
    rcases List.mem_cons.1 hd with rfl | h
    · exact .inl hn
    · exact .inr (weightsAll_mem h hn)
theorem bulk_one {H : Type} (d : DataW H) : 1 ≤ Rows.uptoBulk d := by
  cases d with
  | lit l => cases l <;> simp [Rows.uptoBulk]
  | _ => simp [Rows.uptoBulk]
theorem bulk_len {H : Type} : ∀ l : List (DataW H), l.length ≤ Rows.uptoBulkAll l
  | [] => Nat.zero_le _
  | x :: r => by have h1 := bulk_one x; have h2 := bulk_len r; simp only [Rows.uptoBulkAll, List.length_cons]; omega
theorem bulk_snoc {H : Type} : ∀ (l : List (DataW H)) (d : DataW H), Rows.uptoBulkAll (l ++ [d]) = Rows.uptoBulkAll l + Rows.uptoBulk d
  | [], d => by simp [Rows.uptoBulkAll]
  | x :: r, d => by have h := bulk_snoc r d; simp only [List.cons_append, Rows.uptoBulkAll, h]; omega
/-- what the bulk bounds -/
theorem open_txU {fuel : Nat} {v : Value} {x : DataW H × List MemPlace} (hf : DataW.trod enc Try.prog W 0 (fun _ => true) true fuel 70 [v] = some x) (hk : Rows.uptoBulk x.1 ≤ 1048576) :
    ∃ ao n c l, v = .slice ao n c ∧ Tx W ao n c l ∧ n + 1 ≤ Rows.uptoBulk x.1 := by
  rcases open_ints Try.underlying70 Try.underlying5 cells5 hf with ⟨hcs, _⟩ | ⟨a, len, cap, zs, hcs, _, hl, hm, hz, hx, hcell, hwz⟩
  · simp only [List.cons.injEq, and_true] at hcs
    subst hcs
    exact ⟨none, 0, 0, [], rfl, tx_nil W, bulk_one _⟩
  · simp only [List.cons.injEq, and_true] at hcs
    subst hcs
    simp only [if_true] at hz
    subst hx
    have h2 := bulk_len (lits (H := H) .u8 (zs.take len))
    have h3 := bulk_len (lits (H := H) .u8 (zs.drop len))
    simp only [lits, List.length_map, List.length_take, List.length_drop] at h2 h3
    simp only [Rows.uptoBulk, lits] at hk ⊢
    exact ⟨some a, len, cap, _, rfl, tx_ints (by omega) (by omega) (by omega) hcell hwz, by omega⟩
theorem open0U {v : Value} {d : DataW H} {p : List MemPlace} (h : DataW.Trod enc Try.prog W 0 (fun _ => true) true 70 v d p) (hv : ∃ a len cap, v = .slice a len cap) (hk : Rows.uptoBulk d ≤ 1048576) : ∃ ao n c l, v = .slice ao n c ∧ Tx W ao n c l ∧ n + 1 ≤ Rows.uptoBulk d := by
  obtain ⟨a, len, cap, rfl⟩ := hv
  obtain ⟨fuel, hf⟩ := h
  exact open_txU hf hk
theorem bulk_mem {H : Type} (D : Nat → DataW H) : ∀ n t, t < n → Rows.uptoBulk (D t) ≤ Rows.uptoBulkAll ((List.range n).map D)
  | 0, t, h => by omega
  | n + 1, t, h => by
    rw [List.range_succ, List.map_append, List.map_cons, List.map_nil, bulk_snoc]
    by_cases e : t < n
    · have := bulk_mem D n t e; omega
    · obtain rfl : t = n := by omega
      omega
set_option maxRecDepth 100000 in
/-- one edit -/
theorem open_edit {fuel : Nat} {cs : List Value} {x : DataW H × List MemPlace} (h : DataW.trod enc Try.prog W 0 (fun _ => true) true fuel 77 cs = some x) (hsz : ∀ n ∈ x.1.weights Try.prog 77, n ≤ reachBytes) :
    ∃ e : Er, cs = [.int .i64 e.a, .slice e.p1 e.o e.c1, .slice e.p2 e.n e.c2] ∧ Et W e := by
  obtain ⟨xs, n, -, hx, hl, hxl, hf⟩ := DataW.trod_struct Try.underlying77 h
  rw [cellsE] at hl
  match xs, hxl, cs, hl with
  | [y0, y1, y2], _, [v0, v1, v2], _ =>
    have g0 : DataW.trod enc Try.prog W 0 (fun _ => true) true n 3 [v0] = some y0 := by simpa [cells3] using hf 0 _ rfl
    have g1 : DataW.trod enc Try.prog W 0 (fun _ => true) true n 70 [v1] = some y1 := by simpa [cells70] using hf 1 _ rfl
    have g2 : DataW.trod enc Try.prog W 0 (fun _ => true) true n 70 [v2] = some y2 := by simpa [cells70] using hf 2 _ rfl
    have e9 : x.1 = .agg ([y0, y1, y2].map (·.1)) := by have := congrArg Prod.fst hx; simpa using this
    have hw : ∀ (j t : Nat) (y : DataW H × List MemPlace), [3, 70, 70][j]? = some t → [y0, y1, y2][j]? = some y → ∀ m ∈ y.1.weights Try.prog t, m ≤ reachBytes := fun j t y h1 h2 m hm => hsz m (by
      rw [e9]
      simp only [DataW.weights, Try.underlying77]
      exact DataW.weights_mem_each (j := j) (t := t) (d := y.1) h1 (by rw [List.getElem?_map, h2]; rfl) m hm)
    obtain ⟨z, e0, -, -⟩ := DataW.trod_int Try.underlying3 g0
    obtain ⟨a1, k1, c1, l1, rfl, hT1, hk1⟩ := open_tx g1 (hw 1 70 y1 rfl rfl)
    obtain ⟨a2, k2, c2, l2, rfl, hT2, hk2⟩ := open_tx g2 (hw 2 70 y2 rfl rfl)
    simp only [List.cons.injEq, and_true] at e0
    subst e0
    exact ⟨⟨z, a1, k1, c1, l1, a2, k2, c2, l2⟩, rfl, ⟨hT1, hT2, by show k1 ≤ _; omega, by show k2 ≤ _; omega⟩⟩
set_option maxRecDepth 100000 in
/-- a list of edits -/
theorem open_edits0 {fuel : Nat} {v : Value} {x : DataW H × List MemPlace} (hf : DataW.trod enc Try.prog W 0 (fun _ => true) true fuel 38 [v] = some x) (hsz : ∀ n ∈ x.1.weights Try.prog 38, n ≤ reachBytes) :
    ∃ ao n c E, v = .slice ao n c ∧ Edz W ao E ∧ E.length = n ∧ n ≤ c ∧ (ao = none → c = 0) ∧ n * 56 ≤ 140737488351232 := by
  rcases open_slice Try.underlying38 hf with ⟨hcs, hx⟩ | ⟨a, l, c, m, n, D, Pl, hcs, _, hl, hm, hm2, hx, hrow⟩
  · simp only [List.cons.injEq, and_true] at hcs
    subst hcs
    exact ⟨none, 0, 0, [], rfl, ⟨fun k r hr => by simp at hr, fun k r hr => by simp at hr⟩, rfl, Nat.le_refl _, fun _ => rfl, by omega⟩
  · simp only [List.cons.injEq, and_true] at hcs
    subst hcs
    simp only [if_true] at hm2
    subst hm2
    subst hx
    have each : ∀ r, ∃ e : Er, r < l → (∃ g o, a = ⟨g, o, none⟩ ∧ W.cell? ⟨g, o + r * 3, none⟩ = some (.int .i64 e.a) ∧ W.cell? ⟨g, o + r * 3 + 1, none⟩ = some (.slice e.p1 e.o e.c1) ∧ W.cell? ⟨g, o + r * 3 + 2, none⟩ = some (.slice e.p2 e.n e.c2)) ∧ Et W e := fun r => by
      by_cases hr : r < l
      · obtain ⟨cs', h1, h2⟩ := hrow r (by omega)
        rw [cellsE] at h1
        obtain ⟨e, ee, t1⟩ := open_edit h2 (fun q hq => hsz q (by
          have hmem : D r ∈ (List.range l).map D := List.mem_map.2 ⟨r, List.mem_range.2 hr, rfl⟩
          have h9 := weightsAll_mem (P := Try.prog) hmem hq
          simp only [DataW.weights, Try.underlying38, List.mem_cons, List.mem_append]
          exact .inr (.inl h9)))
        subst ee
        obtain ⟨_, hlen, hcell⟩ := World.cells?_some h1
        have c0 := hcell 0 (by omega)
        have c1 := hcell 1 (by omega)
        have c2 := hcell 2 (by omega)
        obtain ⟨g, o, sp⟩ := a
        have hs : sp = none := by
          obtain ⟨_, h01, _⟩ := hrow 0 (by omega)
          rw [cellsE] at h01
          obtain ⟨_, hl0, hc0⟩ := World.cells?_some h01
          have := World.cell?_spot ((hc0 0 (by omega)).trans (List.getElem?_eq_getElem (by omega)))
          simpa [Addr.add] using this
        subst hs
        rw [add_none, add_none] at c0 c1 c2
        exact ⟨e, fun _ => ⟨⟨g, o, rfl, by simpa using c0, by simpa using c1, by simpa using c2⟩, t1⟩⟩
      · exact ⟨⟨0, none, 0, 0, [], none, 0, 0, []⟩, fun h => absurd h hr⟩
    obtain ⟨f, hff⟩ := Classical.axiomOfChoice each
    have hat : ∀ (k : Nat) (r : Er), ((List.range l).map f)[k]? = some r → k < l ∧ r = f k := fun k r hk => by
      have hk' : k < l := by have := (List.getElem?_eq_some_iff.1 hk).1; simpa using this
      rw [List.getElem?_map, List.getElem?_range hk'] at hk
      simp at hk
      exact ⟨hk', hk.symm⟩
    refine ⟨some a, l, _, (List.range l).map f, rfl, ⟨fun k r hk => ?_, fun k r hk => ?_⟩, by simp, by omega, fun h => (by cases h), ?_⟩
    · obtain ⟨hk', rfl⟩ := hat k r hk
      obtain ⟨⟨g, o, e0, e1, e2, e3⟩, -⟩ := hff k hk'
      exact ⟨g, o, by rw [e0], e1, e2, e3⟩
    · obtain ⟨hk', rfl⟩ := hat k r hk
      exact (hff k hk').2
    · have h2 := hsz ((((List.range l).map D).length + ((List.range (m - l)).map fun j => D (l + j)).length) * 56) (by simp [DataW.weights, Try.underlying38, bytesE])
      simp only [List.length_map, List.length_range, reachBytes] at h2
      omega
theorem open_edits {v : Value} {d : DataW H} {p : List MemPlace} (h : DataW.Trod enc Try.prog W 0 (fun _ => true) true 38 v d p) (hv : ∃ a len cap, v = .slice a len cap) (hsz : ∀ n ∈ d.weights Try.prog 38, n ≤ reachBytes) :
    ∃ ao n c E, v = .slice ao n c ∧ Edz W ao E ∧ E.length = n ∧ n ≤ c ∧ (ao = none → c = 0) ∧ n * 56 ≤ 140737488351232 := by
  obtain ⟨a, len, cap, rfl⟩ := hv
  obtain ⟨fuel, hf⟩ := h
  exact open_edits0 hf hsz
set_option maxRecDepth 100000 in
/-- one edit -/
theorem open_editU {fuel : Nat} {cs : List Value} {x : DataW H × List MemPlace} (h : DataW.trod enc Try.prog W 0 (fun _ => true) true fuel 77 cs = some x) (hk : Rows.uptoBulk x.1 ≤ 1048576) :
    ∃ e : Er, cs = [.int .i64 e.a, .slice e.p1 e.o e.c1, .slice e.p2 e.n e.c2] ∧ Et W e ∧ e.o + e.n + 3 ≤ Rows.uptoBulk x.1 := by
  obtain ⟨xs, n, -, hx, hl, hxl, hf⟩ := DataW.trod_struct Try.underlying77 h
  rw [cellsE] at hl
  match xs, hxl, cs, hl with
  | [y0, y1, y2], _, [v0, v1, v2], _ =>
    have g0 : DataW.trod enc Try.prog W 0 (fun _ => true) true n 3 [v0] = some y0 := by simpa [cells3] using hf 0 _ rfl
    have g1 : DataW.trod enc Try.prog W 0 (fun _ => true) true n 70 [v1] = some y1 := by simpa [cells70] using hf 1 _ rfl
    have g2 : DataW.trod enc Try.prog W 0 (fun _ => true) true n 70 [v2] = some y2 := by simpa [cells70] using hf 2 _ rfl
    have e9 : x.1 = .agg ([y0, y1, y2].map (·.1)) := by have := congrArg Prod.fst hx; simpa using this
    have hbk : Rows.uptoBulk x.1 = Rows.uptoBulk y0.1 + (Rows.uptoBulk y1.1 + (Rows.uptoBulk y2.1 + 0)) + 1 := by rw [e9]; rfl
    have hb0 := bulk_one y0.1
    obtain ⟨z, e0, -, -⟩ := DataW.trod_int Try.underlying3 g0
    obtain ⟨a1, k1, c1, l1, rfl, hT1, hk1⟩ := open_txU g1 (by omega)
    obtain ⟨a2, k2, c2, l2, rfl, hT2, hk2⟩ := open_txU g2 (by omega)
    simp only [List.cons.injEq, and_true] at e0
    subst e0
    exact ⟨⟨z, a1, k1, c1, l1, a2, k2, c2, l2⟩, rfl, ⟨hT1, hT2, by show k1 ≤ _; omega, by show k2 ≤ _; omega⟩, by show k1 + k2 + 3 ≤ _; omega⟩
set_option maxRecDepth 100000 in
/-- a list of edits -/
theorem open_edits0U {fuel : Nat} {v : Value} {x : DataW H × List MemPlace} (hf : DataW.trod enc Try.prog W 0 (fun _ => true) true fuel 38 [v] = some x) (hk : Rows.uptoBulk x.1 ≤ 1048576) :
    ∃ ao n c E, v = .slice ao n c ∧ Edz W ao E ∧ E.length = n ∧ n ≤ c ∧ (ao = none → c = 0) ∧ nsum (E.map Er.d) + osum (E.map Er.d) + n + 1 ≤ Rows.uptoBulk x.1 := by
  rcases open_slice Try.underlying38 hf with ⟨hcs, hx⟩ | ⟨a, l, c, m, n, D, Pl, hcs, _, hl, hm, hm2, hx, hrow⟩
  · simp only [List.cons.injEq, and_true] at hcs
    subst hcs
    exact ⟨none, 0, 0, [], rfl, ⟨fun k r hr => by simp at hr, fun k r hr => by simp at hr⟩, rfl, Nat.le_refl _, fun _ => rfl, by simpa [nsum, osum] using bulk_one _⟩
  · simp only [List.cons.injEq, and_true] at hcs
    subst hcs
    simp only [if_true] at hm2
    subst hm2
    subst hx
    have each : ∀ r, ∃ e : Er, r < l → (∃ g o, a = ⟨g, o, none⟩ ∧ W.cell? ⟨g, o + r * 3, none⟩ = some (.int .i64 e.a) ∧ W.cell? ⟨g, o + r * 3 + 1, none⟩ = some (.slice e.p1 e.o e.c1) ∧ W.cell? ⟨g, o + r * 3 + 2, none⟩ = some (.slice e.p2 e.n e.c2)) ∧ Et W e ∧ e.o + e.n + 3 ≤ Rows.uptoBulk (D r) := fun r => by
      by_cases hr : r < l
      · obtain ⟨cs', h1, h2⟩ := hrow r (by omega)
        rw [cellsE] at h1
        have hkr : Rows.uptoBulk (D r) ≤ 1048576 := by
          have := bulk_mem D l r hr
          simp only [Rows.uptoBulk] at hk
          omega
        obtain ⟨e, ee, t1, t2⟩ := open_editU h2 hkr
        subst ee
        obtain ⟨_, hlen, hcell⟩ := World.cells?_some h1
        have c0 := hcell 0 (by omega)
        have c1 := hcell 1 (by omega)
        have c2 := hcell 2 (by omega)
        obtain ⟨g, o, sp⟩ := a
        have hs : sp = none := by
          obtain ⟨_, h01, _⟩ := hrow 0 (by omega)
          rw [cellsE] at h01
          obtain ⟨_, hl0, hc0⟩ := World.cells?_some h01
          have := World.cell?_spot ((hc0 0 (by omega)).trans (List.getElem?_eq_getElem (by omega)))
          simpa [Addr.add] using this
        subst hs
        rw [add_none, add_none] at c0 c1 c2
        exact ⟨e, fun _ => ⟨⟨g, o, rfl, by simpa using c0, by simpa using c1, by simpa using c2⟩, t1, t2⟩⟩
      · exact ⟨⟨0, none, 0, 0, [], none, 0, 0, []⟩, fun h => absurd h hr⟩
    obtain ⟨f, hff⟩ := Classical.axiomOfChoice each
    have hat : ∀ (k : Nat) (r : Er), ((List.range l).map f)[k]? = some r → k < l ∧ r = f k := fun k r hk => by
      have hk' : k < l := by have := (List.getElem?_eq_some_iff.1 hk).1; simpa using this
      rw [List.getElem?_map, List.getElem?_range hk'] at hk
      simp at hk
      exact ⟨hk', hk.symm⟩
    refine ⟨some a, l, _, (List.range l).map f, rfl, ⟨fun k r hk => ?_, fun k r hk => ?_⟩, by simp, by omega, fun h => (by cases h), ?_⟩
    · obtain ⟨hk', rfl⟩ := hat k r hk
      obtain ⟨⟨g, o, e0, e1, e2, e3⟩, -⟩ := hff k hk'
      exact ⟨g, o, by rw [e0], e1, e2, e3⟩
    · obtain ⟨hk', rfl⟩ := hat k r hk
      exact (hff k hk').2.1
    · have hs : ∀ q, q ≤ l → nsum (((List.range q).map f).map Er.d) + osum (((List.range q).map f).map Er.d) + q ≤ Rows.uptoBulkAll ((List.range q).map D) := fun q => by
        induction q with
        | zero => intro _; simp [nsum, osum]
        | succ q ih =>
          intro hq
          have h1 := ih (by omega)
          have h2 := (hff q (by omega)).2
          have h3 := h2.1.t1.len
          have h4 := h2.1.t2.len
          have h5 := h2.2
          rw [List.range_succ, List.map_append, List.map_append, List.map_append, List.map_cons, List.map_nil, List.map_cons, List.map_nil, List.map_cons, List.map_nil, bulk_snoc]
          have e1 : ∀ (A : List Ed) (d : Ed), nsum (A ++ [d]) = nsum A + d.N.length := fun A d => by simp [nsum]
          have e2 : ∀ (A : List Ed) (d : Ed), osum (A ++ [d]) = osum A + d.O.length := fun A d => by simp [osum]
          rw [e1, e2]
          show _ + (f q).N.length + (_ + (f q).O.length) + (q + 1) ≤ _
          omega
      have := hs l (Nat.le_refl _)
      simp only [Rows.uptoBulk]
      omega
theorem open_editsU {v : Value} {d : DataW H} {p : List MemPlace} (h : DataW.Trod enc Try.prog W 0 (fun _ => true) true 38 v d p) (hv : ∃ a len cap, v = .slice a len cap) (hk : Rows.uptoBulk d ≤ 1048576) :
    ∃ ao n c E, v = .slice ao n c ∧ Edz W ao E ∧ E.length = n ∧ n ≤ c ∧ (ao = none → c = 0) ∧ nsum (E.map Er.d) + osum (E.map Er.d) + n + 1 ≤ Rows.uptoBulk d := by
  obtain ⟨a, len, cap, rfl⟩ := hv
  obtain ⟨fuel, hf⟩ := h
  exact open_edits0U hf hk
/-- cells, one by one -/
theorem cells_one : ∀ (n : Nat) (cs : List Value) (r : Nat → Int), cs.length = n → (∀ i, i < n → (cs.drop i).take 1 = [.int .i64 (r i)]) → cs = ml ((List.range n).map r)
  | 0, cs, r, h, _ => by rw [List.eq_nil_of_length_eq_zero h]; rfl
  | n + 1, cs, r, h, hr => by
    have h0 := hr 0 (by omega)
    rw [List.drop_zero] at h0
    have ih := cells_one n (cs.drop 1) (fun i => r (i + 1)) (by simp; omega) (fun i hi => by
      rw [List.drop_drop, ← hr (i + 1) (by omega)]
      congr 2; omega)
    rw [List.range_succ_eq_map, List.map_cons, List.map_map]
    have e : ml (List.map (r ∘ Nat.succ) (List.range n)) = cs.drop 1 := ih.symm
    show cs = .int .i64 (r 0) :: ml (List.map (r ∘ Nat.succ) (List.range n))
    rw [e, ← List.take_append_drop 1 cs, h0]
    rfl
theorem cells39 : Try.prog.cellsOf 39 = 26 := by kernel_rfl
theorem cells41 : Try.prog.cellsOf 41 = 27 := by kernel_rfl
theorem cells63 : Try.prog.cellsOf 63 = 58 := by kernel_rfl
theorem cells22' : Try.prog.cellsOf 22 = 1 := by kernel_rfl
theorem cells24 : Try.prog.cellsOf 24 = 2 := by kernel_rfl
/-- an array of marks -/
theorem open_names {fuel : Nat} {cs : List Value} {x : DataW H × List MemPlace} (hf : DataW.trod enc Try.prog W 0 (fun _ => true) true fuel 39 cs = some x) : ∃ L : List Int, L.length = 26 ∧ (∀ x ∈ L, x ≤ 9223372036854775807) ∧ cs = ml L := by
  obtain ⟨xs, m, -, hx, hl, hxl, hfl⟩ := DataW.trod_array Try.underlying39 hf
  rw [cells39] at hl
  have each : ∀ i, ∃ r : Int, i < 26 → (cs.drop i).take 1 = [.int .i64 r] ∧ r ≤ 9223372036854775807 := fun i => by
    by_cases hi : i < 26
    · have h1 := hfl i hi
      rw [cells3, Nat.mul_one, List.getElem?_eq_getElem (by omega)] at h1
      obtain ⟨z, e, -, hw⟩ := DataW.trod_int Try.underlying3 h1
      exact ⟨z, fun _ => ⟨e, (bounds_i64 hw).2⟩⟩
    · exact ⟨0, fun h => absurd h hi⟩
  obtain ⟨r, hr⟩ := Classical.axiomOfChoice each
  refine ⟨(List.range 26).map r, by simp, fun x hx => ?_, cells_one 26 cs r hl (fun i hi => (hr i hi).1)⟩
  obtain ⟨i, hi, rfl⟩ := List.mem_map.1 hx
  exact (hr i (List.mem_range.1 hi)).2
set_option maxRecDepth 100000 in
/-- marks' cells -/
theorem open_marks0 {fuel : Nat} {cs : List Value} {x : DataW H × List MemPlace} (hf : DataW.trod enc Try.prog W 0 (fun _ => true) true fuel 41 cs = some x) : ∃ L : List Int, Mw L ∧ cs = ml L := by
  obtain ⟨xs, n, -, hx, hl, hxl, hfl⟩ := DataW.trod_struct Try.underlying41 hf
  rw [cells41] at hl
  match xs, hxl with
  | [y0, y1], _ =>
    have g0 : DataW.trod enc Try.prog W 0 (fun _ => true) true n 39 (cs.take 26) = some y0 := by simpa [cells39] using hfl 0 _ rfl
    have g1 : DataW.trod enc Try.prog W 0 (fun _ => true) true n 3 ((cs.drop 26).take 1) = some y1 := by simpa [cells3] using hfl 1 _ rfl
    obtain ⟨L, hL, hb, e0⟩ := open_names g0
    obtain ⟨z, e1, -, hw⟩ := DataW.trod_int Try.underlying3 g1
    refine ⟨L ++ [z], ⟨by simp [hL], fun x hx => ?_⟩, ?_⟩
    · rcases List.mem_append.1 hx with h | h
      · exact hb x h
      · simp at h; subst h; exact (bounds_i64 hw).2
    · rw [ml_append, ← e0, show ml [z] = [.int .i64 z] from rfl, ← e1, List.take_of_length_le (l := cs.drop 26) (by simp; omega), List.take_append_drop]
set_option maxRecDepth 100000 in
set_option maxHeartbeats 2000000 in
/-- one change -/
theorem open_node {fuel : Nat} {cs : List Value} {x : DataW H × List MemPlace} (h : DataW.trod enc Try.prog W 0 (fun _ => true) true fuel 63 cs = some x) (hsz : ∀ n ∈ x.1.weights Try.prog 63, n ≤ reachBytes) :
    ∃ r : Nr, cs = r.cs ∧ Nz W r := by
  obtain ⟨xs, n, -, hx, hl, hxl, hf⟩ := DataW.trod_struct Try.underlying63 h
  rw [cells63] at hl
  match xs, hxl with
  | [y0, y1, y2, y3, y4, y5], _ =>
    have g0 : DataW.trod enc Try.prog W 0 (fun _ => true) true n 3 (cs.take 1) = some y0 := by simpa [cells3] using hf 0 _ rfl
    have g1 : DataW.trod enc Try.prog W 0 (fun _ => true) true n 3 ((cs.drop 1).take 1) = some y1 := by simpa [cells3] using hf 1 _ rfl
    have g2 : DataW.trod enc Try.prog W 0 (fun _ => true) true n 38 ((cs.drop 2).take 1) = some y2 := by simpa [cellsS38] using hf 2 _ rfl
    have g3 : DataW.trod enc Try.prog W 0 (fun _ => true) true n 3 ((cs.drop 3).take 1) = some y3 := by simpa [cells3] using hf 3 _ rfl
    have g4 : DataW.trod enc Try.prog W 0 (fun _ => true) true n 41 ((cs.drop 4).take 27) = some y4 := by simpa [cells41] using hf 4 _ rfl
    have g5 : DataW.trod enc Try.prog W 0 (fun _ => true) true n 41 ((cs.drop 31).take 27) = some y5 := by simpa [cells41] using hf 5 _ rfl
    have e9 : x.1 = .agg ([y0, y1, y2, y3, y4, y5].map (·.1)) := by have := congrArg Prod.fst hx; simpa using this
    have hw : ∀ m ∈ y2.1.weights Try.prog 38, m ≤ reachBytes := fun m hm => hsz m (by
      rw [e9]
      simp only [DataW.weights, Try.underlying63]
      exact DataW.weights_mem_each (j := 2) (t := 38) (d := y2.1) rfl (by rfl) m hm)
    obtain ⟨par, e0, -, -⟩ := DataW.trod_int Try.underlying3 g0
    obtain ⟨nxt, e1, -, -⟩ := DataW.trod_int Try.underlying3 g1
    obtain ⟨cur, e3, -, -⟩ := DataW.trod_int Try.underlying3 g3
    obtain ⟨was, hw1, e4⟩ := open_marks0 g4
    obtain ⟨made, hm1, e5⟩ := open_marks0 g5
    obtain ⟨v2, e2⟩ : ∃ v, (cs.drop 2).take 1 = [v] := by
      have : ((cs.drop 2).take 1).length = 1 := by simp; omega
      exact List.length_eq_one_iff.1 this
    rw [e2] at g2
    obtain ⟨ea, en, ec, E, rfl, hE, hE1, hE2, hE3, hE4⟩ := open_edits0 g2 hw
    refine ⟨⟨par, nxt, ea, en, ec, E, cur, was, made⟩, ?_, ⟨hE, hE1, hE2, hE3, by dsimp only; omega, hw1, hm1⟩⟩
    have s : cs = cs.take 1 ++ ((cs.drop 1).take 1 ++ ((cs.drop 2).take 1 ++ ((cs.drop 3).take 1 ++ ((cs.drop 4).take 27 ++ (cs.drop 31).take 27)))) := by
      rw [List.take_of_length_le (l := cs.drop 31) (by simp; omega)]
      conv => lhs; rw [← List.take_append_drop 1 cs, ← List.take_append_drop 1 (cs.drop 1), List.drop_drop, ← List.take_append_drop 1 (cs.drop 2), List.drop_drop, ← List.take_append_drop 1 (cs.drop 3), List.drop_drop, ← List.take_append_drop 27 (cs.drop 4), List.drop_drop]
    rw [e0, e1, e2, e3, e4, e5] at s
    rw [s]
    simp [Nr.cs, Nr.hd]
set_option maxRecDepth 100000 in
/-- changes in a row -/
theorem open_nodes0 {fuel : Nat} {v : Value} {x : DataW H × List MemPlace} (hf : DataW.trod enc Try.prog W 0 (fun _ => true) true fuel 22 [v] = some x) (hsz : ∀ n ∈ x.1.weights Try.prog 22, n ≤ reachBytes) :
    ∃ ao n c G, v = .slice ao n c ∧ Grz W ao G ∧ G.length = n ∧ n ≤ c := by
  rcases open_slice Try.underlying22 hf with ⟨hcs, hx⟩ | ⟨a, l, c, m, n, D, Pl, hcs, _, hl, hm, hm2, hx, hrow⟩
  · simp only [List.cons.injEq, and_true] at hcs
    subst hcs
    exact ⟨none, 0, 0, [], rfl, ⟨fun k r hr => by simp at hr, fun k r hr => by simp at hr⟩, rfl, Nat.le_refl _⟩
  · simp only [List.cons.injEq, and_true] at hcs
    subst hcs
    simp only [if_true] at hm2
    subst hm2
    subst hx
    have each : ∀ r, ∃ e : Nr, r < l → (∃ g o, a = ⟨g, o, none⟩ ∧ W.rangeAt g (o + r * 58) e.cs) ∧ Nz W e := fun r => by
      by_cases hr : r < l
      · obtain ⟨cs', h1, h2⟩ := hrow r (by omega)
        rw [cells63] at h1
        obtain ⟨e, ee, t1⟩ := open_node h2 (fun q hq => hsz q (by
          have hmem : D r ∈ (List.range l).map D := List.mem_map.2 ⟨r, List.mem_range.2 hr, rfl⟩
          have h9 := weightsAll_mem (P := Try.prog) hmem hq
          simp only [DataW.weights, Try.underlying22, List.mem_cons, List.mem_append]
          exact .inr (.inl h9)))
        subst ee
        obtain ⟨_, hlen, hcell⟩ := World.cells?_some h1
        obtain ⟨g, o, sp⟩ := a
        have hs : sp = none := by
          obtain ⟨_, h01, _⟩ := hrow 0 (by omega)
          rw [cells63] at h01
          obtain ⟨_, hl0, hc0⟩ := World.cells?_some h01
          have := World.cell?_spot ((hc0 0 (by omega)).trans (List.getElem?_eq_getElem (by omega)))
          simpa [Addr.add] using this
        subst hs
        refine ⟨e, fun _ => ⟨⟨g, o, rfl, fun j u hj => ?_⟩, t1⟩⟩
        have hjl := (List.getElem?_eq_some_iff.1 hj).1
        have c0 := hcell j (by omega)
        rw [add_none, add_none] at c0
        rw [c0]
        exact hj
      · exact ⟨zr, fun h => absurd h hr⟩
    obtain ⟨f, hff⟩ := Classical.axiomOfChoice each
    have hat : ∀ (k : Nat) (r : Nr), ((List.range l).map f)[k]? = some r → k < l ∧ r = f k := fun k r hk => by
      have hk' : k < l := by have := (List.getElem?_eq_some_iff.1 hk).1; simpa using this
      rw [List.getElem?_map, List.getElem?_range hk'] at hk
      simp at hk
      exact ⟨hk', hk.symm⟩
    refine ⟨some a, l, _, (List.range l).map f, rfl, ⟨fun k r hk => ?_, fun k r hk => ?_⟩, by simp, by omega⟩
    · obtain ⟨hk', rfl⟩ := hat k r hk
      obtain ⟨⟨g, o, e0, e1⟩, -⟩ := hff k hk'
      exact ⟨g, o, by rw [e0], e1⟩
    · obtain ⟨hk', rfl⟩ := hat k r hk
      exact (hff k hk').2
set_option maxRecDepth 100000 in
/-- a history -/
theorem open_grove {r : Reach} {b0 : Nat} {v : Value} {d : DataW H} {p : List MemPlace} (hval : Value.okWide Try.prog W r b0 24 v) (h : DataW.Trod enc Try.prog W 0 (fun _ => true) true 24 v d p) (hsz : ∀ n ∈ d.weights Try.prog 24, n ≤ reachBytes) :
    ∃ ao n c now G, v = .agg #[.slice ao n c, .int .i64 now] ∧ Grz W ao G ∧ G.length = n ∧ n ≤ c := by
  obtain ⟨cs, rfl, -⟩ := okWide_struct Try.underlying24 hval
  obtain ⟨cs⟩ := cs
  obtain ⟨fuel, hf⟩ := h
  obtain ⟨xs, n, -, hx, hl, hxl, hfl⟩ := DataW.trod_struct Try.underlying24 hf
  rw [cells24] at hl
  have hl' : cs.length = 2 := hl
  match xs, hxl, cs, hl' with
  | [y0, y1], _, [v0, v1], _ =>
    have g0 : DataW.trod enc Try.prog W 0 (fun _ => true) true n 22 [v0] = some y0 := by simpa [Value.cells, cells22'] using hfl 0 _ rfl
    have g1 : DataW.trod enc Try.prog W 0 (fun _ => true) true n 3 [v1] = some y1 := by simpa [Value.cells, cells3] using hfl 1 _ rfl
    have e9 : d = .agg ([y0, y1].map (·.1)) := by have := congrArg Prod.fst hx; simpa using this
    have hw : ∀ m ∈ y0.1.weights Try.prog 22, m ≤ reachBytes := fun m hm => hsz m (by
      rw [e9]
      simp only [DataW.weights, Try.underlying24]
      exact DataW.weights_mem_each (j := 0) (t := 22) (d := y0.1) rfl rfl m hm)
    obtain ⟨ao, k, c, G, rfl, hG, hG1, hG2⟩ := open_nodes0 g0 hw
    obtain ⟨z, e1, -, -⟩ := DataW.trod_int Try.underlying3 g1
    simp only [List.cons.injEq, and_true] at e1
    subst e1
    exact ⟨ao, k, c, z, G, rfl, hG, hG1, hG2⟩
set_option maxRecDepth 100000 in
theorem open_i64 {r : Reach} {b0 : Nat} {v : Value} {d : DataW H} {p : List MemPlace} (hval : Value.okWide Try.prog W r b0 3 v) (h : DataW.Trod enc Try.prog W 0 (fun _ => true) true 3 v d p) : ∃ x : Int, v = .int .i64 x := by
  obtain ⟨z, e, -, -, -⟩ := open_int Try.underlying3 hval h
  exact ⟨z, e⟩
end
end Go.Proofs.Ytaahklapoppgaaa

