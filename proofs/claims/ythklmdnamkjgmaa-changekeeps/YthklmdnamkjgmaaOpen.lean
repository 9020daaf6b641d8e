/- How the arguments of the laws lie in memory. -/
import Derived.Test.YthklmdnamkjgmaaEdt
import Derived.ProofKit
import Derived.OpenShut
import Derived.SizedLaws
import Derived.Lib.SmallJoins
import Derived.Deep.Matrix
namespace Go.Proofs.Ythklmdnamkjgmaa
open Go.ChangeShapes Go.WideShapes Go.ChangeAt Go.RowKit Go.Joins Go.Deep

theorem own : ownKnob Try.prog.godebug = none := by kernel_rfl
theorem laidOut : laidOutB Try.prog = true := by kernel_rfl
theorem cells5 : Try.prog.cellsOf 5 = 1 := by kernel_rfl
theorem bytes5 : Try.prog.bytesOf 5 = 1 := by kernel_rfl

/-- numbers that are bytes -/
def by8 (zs : List Int) : List UInt8 := zs.map fun z => UInt8.ofNat z.toNat
theorem by8_length (zs : List Int) : (by8 zs).length = zs.length := by simp [by8]
theorem tx_ints {W : World} {a : Addr} {len cap : Nat} {zs : List Int} (hl : len ≤ cap) (hz : zs.length = cap) (hb : cap ≤ 150000000000000) (hc : ∀ i, i < zs.length → W.cell? (a.add i) = some (.int .u8 (zs.getD i 0))) (hw : ∀ n ∈ zs, (Lit.int .u8 n).wf = true) :
    Tx W (some a) len cap (by8 (zs.take len)) := by
  refine ⟨by rw [by8_length, List.length_take]; omega, hl, by omega, (fun h => by cases h), fun a' ha j hj => ?_⟩
  obtain rfl : a = a' := by simpa using ha
  have hjz : j < zs.length := by omega
  have hb := bounds_u8 (hw zs[j] (List.getElem_mem hjz))
  rw [hc j hjz]
  have e : (UInt8.ofNat zs[j].toNat).toNat = zs[j].toNat := by
    rw [UInt8.toNat_ofNat']; omega
  have e2 : at8 (by8 (zs.take len)) j = UInt8.ofNat zs[j].toNat := by simp [at8, by8, List.getD, hj, hjz]
  rw [e2, e]
  simp [List.getD, hjz]
  omega

section
variable {H : Type} {enc : TypeId × Value → H} {W : World}
/-- what a []byte is to the walk -/
theorem open_tx {fuel : Nat} {v : Value} {x : DataW H × List MemPlace} (hf : DataW.trod enc Try.prog W 0 (fun _ => true) true fuel 22 [v] = some x) (hsz : ∀ n ∈ x.1.weights Try.prog 22, n ≤ reachBytes) :
    ∃ ao n c l, v = .slice ao n c ∧ Tx W ao n c l ∧ n ≤ 140737488351232 := by
  rcases open_ints Try.underlying22 Try.underlying5 cells5 hf with ⟨hcs, _⟩ | ⟨a, len, cap, zs, hcs, _, hl, hm, hz, hx, hcell, hwz⟩
  · simp only [List.cons.injEq, and_true] at hcs
    subst hcs
    exact ⟨none, 0, 0, [], rfl, tx_nil W, by omega⟩
  · simp only [List.cons.injEq, and_true] at hcs
    subst hcs
    simp only [if_true] at hz
    subst hx
    have h2 := hsz ((lits (H := H) .u8 (zs.take len)).length + (lits (H := H) .u8 (zs.drop len)).length) (by simp [DataW.weights, Try.underlying22, bytes5])
    simp only [lits, List.length_map, List.length_take, List.length_drop, reachBytes] at h2
    exact ⟨some a, len, cap, _, rfl, tx_ints (by omega) (by omega) (by omega) hcell hwz, by omega⟩
theorem open0 {v : Value} {d : DataW H} {p : List MemPlace} (h : DataW.Trod enc Try.prog W 0 (fun _ => true) true 22 v d p) (hv : ∃ a len cap, v = .slice a len cap)
    (hsz : ∀ n ∈ d.weights Try.prog 22, n ≤ reachBytes) : ∃ ao n c l, v = .slice ao n c ∧ Tx W ao n c l ∧ n ≤ 140737488351232 := by
  obtain ⟨a, len, cap, rfl⟩ := hv
  obtain ⟨fuel, hf⟩ := h
  exact open_tx hf hsz
theorem cells3 : Try.prog.cellsOf 3 = 1 := by kernel_rfl
theorem cells22 : Try.prog.cellsOf 22 = 1 := by kernel_rfl
theorem cells23 : Try.prog.cellsOf 23 = 1 := by kernel_rfl
theorem cellsE : Try.prog.cellsOf 38 = 3 := by kernel_rfl
theorem bytesE : Try.prog.bytesOf 38 = 56 := by kernel_rfl
theorem weightsAll_mem {H : Type} {P : Program} {e : TypeId} : ∀ {l : List (DataW H)} {d : DataW H} {n : Nat}, d ∈ l → n ∈ d.weights P e → n ∈ DataW.weightsAll P e l
  | d0 :: l, d, n, hd, hn => by
    simp only [DataW.weightsAll, List.mem_append]
    rcases List.mem_cons.1 hd with rfl | h
    · exact .inl hn
    · exact .inr (weightsAll_mem h hn)
theorem bulk_one {H : Type} (d : DataW H) : 1 ≤ Rows.uptoBulk d := by
  cases d with
  | lit l => cases l <;> simp [Rows.uptoBulk]
  | _ => simp [Rows.uptoBulk]
theorem bulk_len {H : Type} : ∀ l : List (DataW H), l.length ≤ Rows.uptoBulkAll l
  | [] => Nat.zero_le _
  | x :: r => by have h1 := bulk_one x; have h2 := bulk_len r; simp only [Rows.uptoBulkAll, List.length_cons]; omega
theorem bulk_snoc {H : Type} : ∀ (l : List (DataW H)) (d : DataW H), Rows.uptoBulkAll (l ++ [d]) = Rows.uptoBulkAll l + Rows.uptoBulk d
  | [], d => by simp [Rows.uptoBulkAll]
  | x :: r, d => by have h := bulk_snoc r d; simp only [List.cons_append, Rows.uptoBulkAll, h]; omega
/-- what the bulk bounds -/
theorem open_txU {fuel : Nat} {v : Value} {x : DataW H × List MemPlace} (hf : DataW.trod enc Try.prog W 0 (fun _ => true) true fuel 22 [v] = some x) (hk : Rows.uptoBulk x.1 ≤ 1048576) :
    ∃ ao n c l, v = .slice ao n c ∧ Tx W ao n c l ∧ n + 1 ≤ Rows.uptoBulk x.1 := by
  rcases open_ints Try.underlying22 Try.underlying5 cells5 hf with ⟨hcs, _⟩ | ⟨a, len, cap, zs, hcs, _, hl, hm, hz, hx, hcell, hwz⟩
  · simp only [List.cons.injEq, and_true] at hcs
    subst hcs
    exact ⟨none, 0, 0, [], rfl, tx_nil W, bulk_one _⟩
  · simp only [List.cons.injEq, and_true] at hcs
    subst hcs
    simp only [if_true] at hz
    subst hx
    have h2 := bulk_len (lits (H := H) .u8 (zs.take len))
    have h3 := bulk_len (lits (H := H) .u8 (zs.drop len))
    simp only [lits, List.length_map, List.length_take, List.length_drop] at h2 h3
    simp only [Rows.uptoBulk, lits] at hk ⊢
    exact ⟨some a, len, cap, _, rfl, tx_ints (by omega) (by omega) (by omega) hcell hwz, by omega⟩
theorem open0U {v : Value} {d : DataW H} {p : List MemPlace} (h : DataW.Trod enc Try.prog W 0 (fun _ => true) true 22 v d p) (hv : ∃ a len cap, v = .slice a len cap) (hk : Rows.uptoBulk d ≤ 1048576) : ∃ ao n c l, v = .slice ao n c ∧ Tx W ao n c l ∧ n + 1 ≤ Rows.uptoBulk d := by
  obtain ⟨a, len, cap, rfl⟩ := hv
  obtain ⟨fuel, hf⟩ := h
  exact open_txU hf hk
theorem bulk_mem {H : Type} (D : Nat → DataW H) : ∀ n t, t < n → Rows.uptoBulk (D t) ≤ Rows.uptoBulkAll ((List.range n).map D)
  | 0, t, h => by omega
  | n + 1, t, h => by
    rw [List.range_succ, List.map_append, List.map_cons, List.map_nil, bulk_snoc]
    by_cases e : t < n
    · have := bulk_mem D n t e; omega
    · obtain rfl : t = n := by omega
      omega
set_option maxRecDepth 100000 in
/-- one edit -/
theorem open_edit {fuel : Nat} {cs : List Value} {x : DataW H × List MemPlace} (h : DataW.trod enc Try.prog W 0 (fun _ => true) true fuel 38 cs = some x) (hsz : ∀ n ∈ x.1.weights Try.prog 38, n ≤ reachBytes) :
    ∃ e : Er, cs = [.int .i64 e.a, .slice e.p1 e.o e.c1, .slice e.p2 e.n e.c2] ∧ Et W e := by
  obtain ⟨xs, n, -, hx, hl, hxl, hf⟩ := DataW.trod_struct Try.underlying38 h
  rw [cellsE] at hl
  match xs, hxl, cs, hl with
  | [y0, y1, y2], _, [v0, v1, v2], _ =>
    have g0 : DataW.trod enc Try.prog W 0 (fun _ => true) true n 3 [v0] = some y0 := by simpa [cells3] using hf 0 _ rfl
    have g1 : DataW.trod enc Try.prog W 0 (fun _ => true) true n 22 [v1] = some y1 := by simpa [cells22] using hf 1 _ rfl
    have g2 : DataW.trod enc Try.prog W 0 (fun _ => true) true n 22 [v2] = some y2 := by simpa [cells22] using hf 2 _ rfl
    have e9 : x.1 = .agg ([y0, y1, y2].map (·.1)) := by have := congrArg Prod.fst hx; simpa using this
    have hw : ∀ (j t : Nat) (y : DataW H × List MemPlace), [3, 22, 22][j]? = some t → [y0, y1, y2][j]? = some y → ∀ m ∈ y.1.weights Try.prog t, m ≤ reachBytes := fun j t y h1 h2 m hm => hsz m (by
      rw [e9]
      simp only [DataW.weights, Try.underlying38]
      exact DataW.weights_mem_each (j := j) (t := t) (d := y.1) h1 (by rw [List.getElem?_map, h2]; rfl) m hm)
    obtain ⟨z, e0, -, -⟩ := DataW.trod_int Try.underlying3 g0
    obtain ⟨a1, k1, c1, l1, rfl, hT1, hk1⟩ := open_tx g1 (hw 1 22 y1 rfl rfl)
    obtain ⟨a2, k2, c2, l2, rfl, hT2, hk2⟩ := open_tx g2 (hw 2 22 y2 rfl rfl)
    simp only [List.cons.injEq, and_true] at e0
    subst e0
    exact ⟨⟨z, a1, k1, c1, l1, a2, k2, c2, l2⟩, rfl, ⟨hT1, hT2, by show k1 ≤ _; omega, by show k2 ≤ _; omega⟩⟩
/-- a list of edits -/
theorem open_edits0 {fuel : Nat} {v : Value} {x : DataW H × List MemPlace} (hf : DataW.trod enc Try.prog W 0 (fun _ => true) true fuel 23 [v] = some x) (hsz : ∀ n ∈ x.1.weights Try.prog 23, n ≤ reachBytes) :
    ∃ ao n c E, v = .slice ao n c ∧ Edz W ao E ∧ E.length = n ∧ n ≤ c ∧ (ao = none → c = 0) ∧ n * 56 ≤ 140737488351232 := by
  rcases open_slice Try.underlying23 hf with ⟨hcs, hx⟩ | ⟨a, l, c, m, n, D, Pl, hcs, _, hl, hm, hm2, hx, hrow⟩
  · simp only [List.cons.injEq, and_true] at hcs
    subst hcs
    exact ⟨none, 0, 0, [], rfl, ⟨fun k r hr => by simp at hr, fun k r hr => by simp at hr⟩, rfl, Nat.le_refl _, fun _ => rfl, by omega⟩
  · simp only [List.cons.injEq, and_true] at hcs
    subst hcs
    simp only [if_true] at hm2
    subst hm2
    subst hx
    have each : ∀ r, ∃ e : Er, r < l → (∃ g o, a = ⟨g, o, none⟩ ∧ W.cell? ⟨g, o + r * 3, none⟩ = some (.int .i64 e.a) ∧ W.cell? ⟨g, o + r * 3 + 1, none⟩ = some (.slice e.p1 e.o e.c1) ∧ W.cell? ⟨g, o + r * 3 + 2, none⟩ = some (.slice e.p2 e.n e.c2)) ∧ Et W e := fun r => by
      by_cases hr : r < l
      · obtain ⟨cs', h1, h2⟩ := hrow r (by omega)
        rw [cellsE] at h1
        obtain ⟨e, ee, t1⟩ := open_edit h2 (fun q hq => hsz q (by
          have hmem : D r ∈ (List.range l).map D := List.mem_map.2 ⟨r, List.mem_range.2 hr, rfl⟩
          have h9 := weightsAll_mem (P := Try.prog) hmem hq
          simp only [DataW.weights, Try.underlying23, List.mem_cons, List.mem_append]
          exact .inr (.inl h9)))
        subst ee
        obtain ⟨_, hlen, hcell⟩ := World.cells?_some h1
        have c0 := hcell 0 (by omega)
        have c1 := hcell 1 (by omega)
        have c2 := hcell 2 (by omega)
        obtain ⟨g, o, sp⟩ := a
        have hs : sp = none := by
          obtain ⟨_, h01, _⟩ := hrow 0 (by omega)
          rw [cellsE] at h01
          obtain ⟨_, hl0, hc0⟩ := World.cells?_some h01
          have := World.cell?_spot ((hc0 0 (by omega)).trans (List.getElem?_eq_getElem (by omega)))
          simpa [Addr.add] using this
        subst hs
        rw [add_none, add_none] at c0 c1 c2
        exact ⟨e, fun _ => ⟨⟨g, o, rfl, by simpa using c0, by simpa using c1, by simpa using c2⟩, t1⟩⟩
      · exact ⟨⟨0, none, 0, 0, [], none, 0, 0, []⟩, fun h => absurd h hr⟩
    obtain ⟨f, hff⟩ := Classical.axiomOfChoice each
    have hat : ∀ (k : Nat) (r : Er), ((List.range l).map f)[k]? = some r → k < l ∧ r = f k := fun k r hk => by
      have hk' : k < l := by have := (List.getElem?_eq_some_iff.1 hk).1; simpa using this
      rw [List.getElem?_map, List.getElem?_range hk'] at hk
      simp at hk
      exact ⟨hk', hk.symm⟩
    refine ⟨some a, l, _, (List.range l).map f, rfl, ⟨fun k r hk => ?_, fun k r hk => ?_⟩, by simp, by omega, fun h => (by cases h), ?_⟩
    · obtain ⟨hk', rfl⟩ := hat k r hk
      obtain ⟨⟨g, o, e0, e1, e2, e3⟩, -⟩ := hff k hk'
      exact ⟨g, o, by rw [e0], e1, e2, e3⟩
    · obtain ⟨hk', rfl⟩ := hat k r hk
      exact (hff k hk').2
    · have h2 := hsz ((((List.range l).map D).length + ((List.range (m - l)).map fun j => D (l + j)).length) * 56) (by simp [DataW.weights, Try.underlying23, bytesE])
      simp only [List.length_map, List.length_range, reachBytes] at h2
      omega
theorem open_edits {v : Value} {d : DataW H} {p : List MemPlace} (h : DataW.Trod enc Try.prog W 0 (fun _ => true) true 23 v d p) (hv : ∃ a len cap, v = .slice a len cap) (hsz : ∀ n ∈ d.weights Try.prog 23, n ≤ reachBytes) :
    ∃ ao n c E, v = .slice ao n c ∧ Edz W ao E ∧ E.length = n ∧ n ≤ c ∧ (ao = none → c = 0) ∧ n * 56 ≤ 140737488351232 := by
  obtain ⟨a, len, cap, rfl⟩ := hv
  obtain ⟨fuel, hf⟩ := h
  exact open_edits0 hf hsz
set_option maxRecDepth 100000 in
/-- one edit -/
theorem open_editU {fuel : Nat} {cs : List Value} {x : DataW H × List MemPlace} (h : DataW.trod enc Try.prog W 0 (fun _ => true) true fuel 38 cs = some x) (hk : Rows.uptoBulk x.1 ≤ 1048576) :
    ∃ e : Er, cs = [.int .i64 e.a, .slice e.p1 e.o e.c1, .slice e.p2 e.n e.c2] ∧ Et W e ∧ e.o + e.n + 3 ≤ Rows.uptoBulk x.1 := by
  obtain ⟨xs, n, -, hx, hl, hxl, hf⟩ := DataW.trod_struct Try.underlying38 h
  rw [cellsE] at hl
  match xs, hxl, cs, hl with
  | [y0, y1, y2], _, [v0, v1, v2], _ =>
    have g0 : DataW.trod enc Try.prog W 0 (fun _ => true) true n 3 [v0] = some y0 := by simpa [cells3] using hf 0 _ rfl
    have g1 : DataW.trod enc Try.prog W 0 (fun _ => true) true n 22 [v1] = some y1 := by simpa [cells22] using hf 1 _ rfl
    have g2 : DataW.trod enc Try.prog W 0 (fun _ => true) true n 22 [v2] = some y2 := by simpa [cells22] using hf 2 _ rfl
    have e9 : x.1 = .agg ([y0, y1, y2].map (·.1)) := by have := congrArg Prod.fst hx; simpa using this
    have hbk : Rows.uptoBulk x.1 = Rows.uptoBulk y0.1 + (Rows.uptoBulk y1.1 + (Rows.uptoBulk y2.1 + 0)) + 1 := by rw [e9]; rfl
    have hb0 := bulk_one y0.1
    obtain ⟨z, e0, -, -⟩ := DataW.trod_int Try.underlying3 g0
    obtain ⟨a1, k1, c1, l1, rfl, hT1, hk1⟩ := open_txU g1 (by omega)
    obtain ⟨a2, k2, c2, l2, rfl, hT2, hk2⟩ := open_txU g2 (by omega)
    simp only [List.cons.injEq, and_true] at e0
    subst e0
    exact ⟨⟨z, a1, k1, c1, l1, a2, k2, c2, l2⟩, rfl, ⟨hT1, hT2, by show k1 ≤ _; omega, by show k2 ≤ _; omega⟩, by show k1 + k2 + 3 ≤ _; omega⟩
/-- a list of edits -/
theorem open_edits0U {fuel : Nat} {v : Value} {x : DataW H × List MemPlace} (hf : DataW.trod enc Try.prog W 0 (fun _ => true) true fuel 23 [v] = some x) (hk : Rows.uptoBulk x.1 ≤ 1048576) :
    ∃ ao n c E, v = .slice ao n c ∧ Edz W ao E ∧ E.length = n ∧ n ≤ c ∧ (ao = none → c = 0) ∧ nsum (E.map Er.d) + osum (E.map Er.d) + n + 1 ≤ Rows.uptoBulk x.1 := by
  rcases open_slice Try.underlying23 hf with ⟨hcs, hx⟩ | ⟨a, l, c, m, n, D, Pl, hcs, _, hl, hm, hm2, hx, hrow⟩
  · simp only [List.cons.injEq, and_true] at hcs
    subst hcs
    exact ⟨none, 0, 0, [], rfl, ⟨fun k r hr => by simp at hr, fun k r hr => by simp at hr⟩, rfl, Nat.le_refl _, fun _ => rfl, by simpa [nsum, osum] using bulk_one _⟩
  · simp only [List.cons.injEq, and_true] at hcs
    subst hcs
    simp only [if_true] at hm2
    subst hm2
    subst hx
    have each : ∀ r, ∃ e : Er, r < l → (∃ g o, a = ⟨g, o, none⟩ ∧ W.cell? ⟨g, o + r * 3, none⟩ = some (.int .i64 e.a) ∧ W.cell? ⟨g, o + r * 3 + 1, none⟩ = some (.slice e.p1 e.o e.c1) ∧ W.cell? ⟨g, o + r * 3 + 2, none⟩ = some (.slice e.p2 e.n e.c2)) ∧ Et W e ∧ e.o + e.n + 3 ≤ Rows.uptoBulk (D r) := fun r => by
      by_cases hr : r < l
      · obtain ⟨cs', h1, h2⟩ := hrow r (by omega)
        rw [cellsE] at h1
        have hkr : Rows.uptoBulk (D r) ≤ 1048576 := by
          have := bulk_mem D l r hr
          simp only [Rows.uptoBulk] at hk
          omega
        obtain ⟨e, ee, t1, t2⟩ := open_editU h2 hkr
        subst ee
        obtain ⟨_, hlen, hcell⟩ := World.cells?_some h1
        have c0 := hcell 0 (by omega)
        have c1 := hcell 1 (by omega)
        have c2 := hcell 2 (by omega)
        obtain ⟨g, o, sp⟩ := a
        have hs : sp = none := by
          obtain ⟨_, h01, _⟩ := hrow 0 (by omega)
          rw [cellsE] at h01
          obtain ⟨_, hl0, hc0⟩ := World.cells?_some h01
          have := World.cell?_spot ((hc0 0 (by omega)).trans (List.getElem?_eq_getElem (by omega)))
          simpa [Addr.add] using this
        subst hs
        rw [add_none, add_none] at c0 c1 c2
        exact ⟨e, fun _ => ⟨⟨g, o, rfl, by simpa using c0, by simpa using c1, by simpa using c2⟩, t1, t2⟩⟩
      · exact ⟨⟨0, none, 0, 0, [], none, 0, 0, []⟩, fun h => absurd h hr⟩
    obtain ⟨f, hff⟩ := Classical.axiomOfChoice each
    have hat : ∀ (k : Nat) (r : Er), ((List.range l).map f)[k]? = some r → k < l ∧ r = f k := fun k r hk => by
      have hk' : k < l := by have := (List.getElem?_eq_some_iff.1 hk).1; simpa using this
      rw [List.getElem?_map, List.getElem?_range hk'] at hk
      simp at hk
      exact ⟨hk', hk.symm⟩
    refine ⟨some a, l, _, (List.range l).map f, rfl, ⟨fun k r hk => ?_, fun k r hk => ?_⟩, by simp, by omega, fun h => (by cases h), ?_⟩
    · obtain ⟨hk', rfl⟩ := hat k r hk
      obtain ⟨⟨g, o, e0, e1, e2, e3⟩, -⟩ := hff k hk'
      exact ⟨g, o, by rw [e0], e1, e2, e3⟩
    · obtain ⟨hk', rfl⟩ := hat k r hk
      exact (hff k hk').2.1
    · have hs : ∀ q, q ≤ l → nsum (((List.range q).map f).map Er.d) + osum (((List.range q).map f).map Er.d) + q ≤ Rows.uptoBulkAll ((List.range q).map D) := fun q => by
        induction q with
        | zero => intro _; simp [nsum, osum]
        | succ q ih =>
          intro hq
          have h1 := ih (by omega)
          have h2 := (hff q (by omega)).2
          have h3 := h2.1.t1.len
          have h4 := h2.1.t2.len
          have h5 := h2.2
          rw [List.range_succ, List.map_append, List.map_append, List.map_append, List.map_cons, List.map_nil, List.map_cons, List.map_nil, List.map_cons, List.map_nil, bulk_snoc]
          have e1 : ∀ (A : List Ed) (d : Ed), nsum (A ++ [d]) = nsum A + d.N.length := fun A d => by simp [nsum]
          have e2 : ∀ (A : List Ed) (d : Ed), osum (A ++ [d]) = osum A + d.O.length := fun A d => by simp [osum]
          rw [e1, e2]
          show _ + (f q).N.length + (_ + (f q).O.length) + (q + 1) ≤ _
          omega
      have := hs l (Nat.le_refl _)
      simp only [Rows.uptoBulk]
      omega
theorem open_editsU {v : Value} {d : DataW H} {p : List MemPlace} (h : DataW.Trod enc Try.prog W 0 (fun _ => true) true 23 v d p) (hv : ∃ a len cap, v = .slice a len cap) (hk : Rows.uptoBulk d ≤ 1048576) :
    ∃ ao n c E, v = .slice ao n c ∧ Edz W ao E ∧ E.length = n ∧ n ≤ c ∧ (ao = none → c = 0) ∧ nsum (E.map Er.d) + osum (E.map Er.d) + n + 1 ≤ Rows.uptoBulk d := by
  obtain ⟨a, len, cap, rfl⟩ := hv
  obtain ⟨fuel, hf⟩ := h
  exact open_edits0U hf hk
theorem cells41 : Try.prog.cellsOf 41 = 3 := by kernel_rfl
set_option maxRecDepth 100000 in
/-- a text and two lists of edits -/
theorem open_twoU {r : Reach} {b0 : Nat} {v : Value} {d : DataW H} {p : List MemPlace} (hval : Value.okWide Try.prog W r b0 41 v) (h : DataW.Trod enc Try.prog W 0 (fun _ => true) true 41 v d p) (hk : Rows.uptoBulk d ≤ 1048576) :
    ∃ ao n c T eo en ec E fo fn fc F, v = .agg #[.slice ao n c, .slice eo en ec, .slice fo fn fc] ∧ Tx W ao n c T ∧ Edz W eo E ∧ Edz W fo F ∧ E.length = en ∧ F.length = fn ∧ (eo = none → ec = 0) ∧ (fo = none → fc = 0) ∧ n + nsum (E.map Er.d) + osum (E.map Er.d) + nsum (F.map Er.d) + osum (F.map Er.d) + en + fn ≤ 1048576 := by
  obtain ⟨cs, rfl, -⟩ := okWide_struct Try.underlying41 hval
  obtain ⟨cs⟩ := cs
  obtain ⟨fuel, hf⟩ := h
  obtain ⟨xs, n, -, hx, hl, hxl, hfl⟩ := DataW.trod_struct Try.underlying41 hf
  rw [cells41] at hl
  have hl' : cs.length = 3 := hl
  match xs, hxl, cs, hl' with
  | [y0, y1, y2], _, [v0, v1, v2], _ =>
    have g0 : DataW.trod enc Try.prog W 0 (fun _ => true) true n 22 [v0] = some y0 := by simpa [Value.cells, cells22] using hfl 0 _ rfl
    have g1 : DataW.trod enc Try.prog W 0 (fun _ => true) true n 23 [v1] = some y1 := by simpa [Value.cells, cells23] using hfl 1 _ rfl
    have g2 : DataW.trod enc Try.prog W 0 (fun _ => true) true n 23 [v2] = some y2 := by simpa [Value.cells, cells23] using hfl 2 _ rfl
    have e9 : d = .agg ([y0, y1, y2].map (·.1)) := by have := congrArg Prod.fst hx; simpa using this
    have hbk : Rows.uptoBulk d = Rows.uptoBulk y0.1 + (Rows.uptoBulk y1.1 + (Rows.uptoBulk y2.1 + 0)) + 1 := by rw [e9]; rfl
    obtain ⟨a1, k1, c1, l1, rfl, hT1, hk1⟩ := open_txU g0 (by omega)
    obtain ⟨a2, k2, c2, E, rfl, hE, hE1, hE2, hE3, hE4⟩ := open_edits0U g1 (by omega)
    obtain ⟨a3, k3, c3, F, rfl, hF, hF1, hF2, hF3, hF4⟩ := open_edits0U g2 (by omega)
    exact ⟨a1, k1, c1, l1, a2, k2, c2, E, a3, k3, c3, F, rfl, hT1, hE, hF, hE1, hF1, hE3, hF3, by omega⟩
end
end Go.Proofs.Ythklmdnamkjgmaa
