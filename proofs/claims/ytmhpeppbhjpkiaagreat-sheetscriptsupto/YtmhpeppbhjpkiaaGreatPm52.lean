/- How a text and a script lie in memory. -/
import Derived.Test.YtmhpeppbhjpkiaaGreatPm47
import Derived.ProofKit
import Derived.OpenShut
import Derived.JoinedCond
import Derived.Deep.Matrix
import Derived.Lib.SmallJoins
namespace Go.Proofs.YtmhpeppbhjpkiaaGreat.opn
open Go.ChangeShapes Go.WideShapes Go.ChangeAt Go.RowKit Go.Deep Go.Joins

theorem own : ownKnob Tryz.prog.godebug = none := by kernel_rfl
theorem laidOut : laidOutB Tryz.prog = true := by kernel_rfl
theorem cells5 : Tryz.prog.cellsOf 5 = 1 := by kernel_rfl

/-- numbers that are bytes -/
def by8 (zs : List Int) : List UInt8 := zs.map fun z => UInt8.ofNat z.toNat
theorem by8_length (zs : List Int) : (by8 zs).length = zs.length := by simp [by8]
theorem rd_ints {W : World} {a : Addr} {len cap : Nat} {zs : List Int} (hl : len ≤ zs.length) (hc : ∀ i, i < zs.length → W.cell? (a.add i) = some (.int .u8 (zs.getD i 0))) (hw : ∀ n ∈ zs, (Lit.int .u8 n).wf = true) :
    Ab.Rd W (.slice (some a) (by8 (zs.take len)).length cap) (by8 (zs.take len)) := by
  refine .inr ⟨a, cap, rfl, fun j u hu => ?_⟩
  have hj : j < len := by
    have h1 := (List.getElem?_eq_some_iff.1 hu).1
    rw [Ab.bv_length, by8_length, List.length_take] at h1
    omega
  have hz : j < zs.length := by omega
  have hb := bounds_u8 (hw zs[j] (List.getElem_mem hz))
  rw [hc j hz, ← hu]
  have e : (UInt8.ofNat zs[j].toNat).toNat = zs[j].toNat := by
    rw [UInt8.toNat_ofNat']; omega
  simp [Ab.bv, by8, hj, hz, e]
  omega

theorem bulk_one {H : Type} (d : DataW H) : 1 ≤ Rows.uptoBulk d := by
  cases d with
  | lit l => cases l <;> simp [Rows.uptoBulk]
  | _ => simp [Rows.uptoBulk]
theorem bulk_len {H : Type} : ∀ l : List (DataW H), l.length ≤ Rows.uptoBulkAll l
  | [] => Nat.zero_le _
  | x :: r => by have h1 := bulk_one x; have h2 := bulk_len r; simp only [Rows.uptoBulkAll, List.length_cons]; omega

/-- a list of bytes -/
theorem open_bytes {H : Type} {enc : TypeId × Value → H} {W : World} {fuel : Nat} {cs : List Value} {x : DataW H × List MemPlace} (h : DataW.trod enc Tryz.prog W 0 (fun _ => true) true fuel 22 cs = some x) :
    ∃ a0 c0 O, cs = [.slice a0 (List.length O) c0] ∧ Ab.Rd W (.slice a0 (List.length O) c0) O ∧ O.length + 1 ≤ Rows.uptoBulk x.1 := by
  rcases open_ints Tryz.underlying22 Tryz.underlying5 cells5 h with ⟨rfl, rfl⟩ | ⟨a, len, cap, zs, rfl, _, hl, hm, hz, rfl, hcell, hwz⟩
  · exact ⟨none, 0, [], rfl, .inl ⟨rfl, rfl⟩, by simpa using bulk_one _⟩
  · simp only [if_true] at hz
    have hlen : (by8 (zs.take len)).length = len := by rw [by8_length, List.length_take]; omega
    have h1 := rd_ints (cap := cap) (len := len) (by omega) hcell hwz
    refine ⟨some a, cap, by8 (zs.take len), by rw [hlen], h1, ?_⟩
    have h2 := bulk_len (lits (H := H) .u8 (zs.take len))
    simp only [lits, List.length_map, List.length_take] at h2
    simp only [Rows.uptoBulk, lits]
    omega


theorem cells3 : Tryz.prog.cellsOf 3 = 1 := by kernel_rfl
theorem cells22 : Tryz.prog.cellsOf 22 = 1 := by kernel_rfl
theorem cells33 : Tryz.prog.cellsOf 33 = 1 := by kernel_rfl
theorem cells83 : Tryz.prog.cellsOf 83 = 3 := by kernel_rfl
theorem cells35 : Tryz.prog.cellsOf 35 = 5 := by kernel_rfl
theorem bulk_snoc {H : Type} : ∀ (l : List (DataW H)) (d : DataW H), Rows.uptoBulkAll (l ++ [d]) = Rows.uptoBulkAll l + Rows.uptoBulk d
  | [], d => by simp [Rows.uptoBulkAll]
  | x :: r, d => by have h := bulk_snoc r d; simp only [List.cons_append, Rows.uptoBulkAll, h]; omega
theorem ewt_snoc : ∀ (l : List Ed) (d : Ed), ewt (l ++ [d]) = ewt l + (4 + d.old.length + d.new.length)
  | [], d => by simp [ewt]
  | x :: l, d => by simp only [List.cons_append, ewt, ewt_snoc l d]; omega
theorem qws_snoc : ∀ (l : List Sq) (d : Sq), qws (l ++ [d]) = qws l + qw d
  | [], d => by simp [qws]
  | x :: l, d => by simp only [List.cons_append, qws, qws_snoc l d]; omega
theorem qeds_le : ∀ l : List Sq, qeds l ≤ l.length + qws l
  | [] => Nat.le_refl _
  | q :: l => by
    have h1 := qeds_le l
    have h2 := (ewt_nsum q.es).2.1
    simp only [qeds, qws, qed, qw, List.length_cons]
    omega
theorem ewt_range {H : Type} (A : Nat → Ed) (D : Nat → DataW H) : ∀ n, (∀ t, t < n → (A t).old.length + (A t).new.length + 4 ≤ Rows.uptoBulk (D t)) → ewt ((List.range n).map A) ≤ Rows.uptoBulkAll ((List.range n).map D)
  | 0, _ => by simp [ewt]
  | n + 1, h => by
    rw [List.range_succ, List.map_append, List.map_append, List.map_singleton, List.map_singleton, ewt_snoc, bulk_snoc]
    have h1 := ewt_range A D n (fun t ht => h t (by omega))
    have h2 := h n (by omega)
    omega
theorem qws_range {H : Type} (A : Nat → Sq) (D : Nat → DataW H) : ∀ n, (∀ t, t < n → qw (A t) + 6 ≤ Rows.uptoBulk (D t)) → qws ((List.range n).map A) + 6 * n ≤ Rows.uptoBulkAll ((List.range n).map D)
  | 0, _ => by simp [qws]
  | n + 1, h => by
    rw [List.range_succ, List.map_append, List.map_append, List.map_singleton, List.map_singleton, qws_snoc, bulk_snoc]
    have h1 := qws_range A D n (fun t ht => h t (by omega))
    have h2 := h n (by omega)
    omega
theorem bulk_mem {H : Type} (D : Nat → DataW H) : ∀ n t, t < n → Rows.uptoBulk (D t) ≤ Rows.uptoBulkAll ((List.range n).map D)
  | 0, t, h => by omega
  | n + 1, t, h => by
    rw [List.range_succ, List.map_append, List.map_cons, List.map_nil, bulk_snoc]
    by_cases e : t < n
    · have := bulk_mem D n t e; omega
    · obtain rfl : t = n := by omega
      omega
theorem range_at {X : Type} {A : Nat → X} {n i : Nat} {q : X} (h : ((List.range n).map A)[i]? = some q) : i < n ∧ q = A i := by
  rw [List.getElem?_map] at h
  cases hr : (List.range n)[i]? with
  | none => rw [hr] at h; cases h
  | some k =>
    rw [hr] at h
    obtain ⟨h1, h2⟩ := List.getElem?_eq_some_iff.1 hr
    simp at h1 h2 h
    exact ⟨h1, by rw [h2]; exact h.symm⟩

section
variable {H : Type} {enc : TypeId × Value → H} {W : World}
set_option maxRecDepth 100000 in
/-- one edit -/
theorem open_edit {fuel : Nat} {cs : List Value} {x : DataW H × List MemPlace} (h : DataW.trod enc Tryz.prog W 0 (fun _ => true) true fuel 83 cs = some x) :
    ∃ (d : Ed) (a1 : Option Addr) (c1 : Nat) (a2 : Option Addr) (c2 : Nat), cs = [.int .i64 d.at', .slice a1 d.old.length c1, .slice a2 d.new.length c2] ∧ Ab.Rd W (.slice a1 d.old.length c1) d.old ∧ Ab.Rd W (.slice a2 d.new.length c2) d.new ∧ d.old.length + d.new.length + 4 ≤ Rows.uptoBulk x.1 := by
  obtain ⟨xs, n, -, rfl, hl, hxl, hf⟩ := DataW.trod_struct Tryz.underlying83 h
  rw [cells83] at hl
  match xs, hxl, cs, hl with
  | [y0, y1, y2], _, [v0, v1, v2], _ =>
    have g0 : DataW.trod enc Tryz.prog W 0 (fun _ => true) true n 3 [v0] = some y0 := by have := hf 0 { name := "At", type := 3, offset := 0, embedded := false, tag := "", pkgPath := "", byteOffset := 0 } rfl; dsimp only at this; rw [cells3] at this; exact this
    have g1 : DataW.trod enc Tryz.prog W 0 (fun _ => true) true n 22 [v1] = some y1 := by have := hf 1 { name := "Old", type := 22, offset := 1, embedded := false, tag := "", pkgPath := "", byteOffset := 8 } rfl; dsimp only at this; rw [cells22] at this; exact this
    have g2 : DataW.trod enc Tryz.prog W 0 (fun _ => true) true n 22 [v2] = some y2 := by have := hf 2 { name := "New", type := 22, offset := 2, embedded := false, tag := "", pkgPath := "", byteOffset := 32 } rfl; dsimp only at this; rw [cells22] at this; exact this
    obtain ⟨i, e0, -, -⟩ := DataW.trod_int Tryz.underlying3 g0
    obtain ⟨a1, c1, old, e1, r1, b1⟩ := open_bytes g1
    obtain ⟨a2, c2, new, e2, r2, b2⟩ := open_bytes g2
    simp only [List.cons.injEq, and_true] at e0 e1 e2
    subst e0 e1 e2
    have b0 := bulk_one y0.1
    refine ⟨⟨i, old, new⟩, a1, c1, a2, c2, rfl, r1, r2, ?_⟩
    simp only [List.map_cons, List.map_nil, Rows.uptoBulk, Rows.uptoBulkAll]
    omega
set_option maxRecDepth 100000 in
/-- a list of edits -/
theorem open_edits {fuel : Nat} {cs : List Value} {x : DataW H × List MemPlace} (h : DataW.trod enc Tryz.prog W 0 (fun _ => true) true fuel 33 cs = some x) :
    ∃ ao c es, cs = [.slice ao (List.length es) c] ∧ Eds W ao es ∧ ewt es + 1 ≤ Rows.uptoBulk x.1 ∧ ∀ d ∈ es, d.old.length ≤ Rows.uptoBulk x.1 := by
  rcases open_slice Tryz.underlying33 h with ⟨rfl, rfl⟩ | ⟨a, len, cap, m, n, D, Pl, rfl, _, hl, hm, hmm, hx, hall⟩
  · exact ⟨none, 0, [], rfl, ⟨fun i d hd => by simp at hd⟩, by simpa [ewt] using bulk_one _, fun d hd => by simp at hd⟩
  · simp only [if_true] at hmm
    subst hmm
    subst hx
    have each : ∀ t, t < len → ∃ d : Ed, (∃ g o a1 c1 a2 c2, a = ⟨g, o, none⟩ ∧ W.cell? ⟨g, o + t * 3, none⟩ = some (.int .i64 d.at') ∧ W.cell? ⟨g, o + t * 3 + 1, none⟩ = some (.slice a1 d.old.length c1) ∧ W.cell? ⟨g, o + t * 3 + 2, none⟩ = some (.slice a2 d.new.length c2) ∧ Ab.Rd W (.slice a1 d.old.length c1) d.old ∧ Ab.Rd W (.slice a2 d.new.length c2) d.new) ∧ d.old.length + d.new.length + 4 ≤ Rows.uptoBulk (D t) := by
      intro t ht
      obtain ⟨cs', h1, h2⟩ := hall t (by omega)
      rw [cells83] at h1
      obtain ⟨_, hlen, hcell⟩ := World.cells?_some h1
      obtain ⟨d, a1, c1, a2, c2, rfl, r1, r2, hb⟩ := open_edit h2
      obtain ⟨g, off, spot⟩ := a
      have hspot : spot = none := by
        obtain ⟨cz, z1, z2⟩ := hall 0 (by omega)
        rw [cells83] at z1
        obtain ⟨_, zl, zc⟩ := World.cells?_some z1
        have h0 := zc 0 (by omega)
        rw [List.getElem?_eq_getElem (by omega)] at h0
        simpa [Addr.add] using World.cell?_spot h0
      subst hspot
      have hc : ∀ j, j < 3 → W.cell? ⟨g, off + t * 3 + j, none⟩ = [Value.int .i64 d.at', .slice a1 d.old.length c1, .slice a2 d.new.length c2][j]? := fun j hj => by
        have h0 := hcell j hj
        rw [Go.WideShapes.add_plain, Go.WideShapes.add_plain] at h0
        exact h0
      exact ⟨d, ⟨g, off, a1, c1, a2, c2, rfl, hc 0 (by omega), hc 1 (by omega), hc 2 (by omega), r1, r2⟩, hb⟩
    have _inh : Inhabited Ed := ⟨⟨0, [], []⟩⟩
    obtain ⟨A, hA⟩ := choose_lt each
    have hs := ewt_range A D len (fun t ht => by have := (hA t ht).2; omega)
    refine ⟨some a, m, (List.range len).map A, by simp, ⟨fun i d hd => ?_⟩, ?_, fun d hd => ?_⟩
    · obtain ⟨hi, rfl⟩ := range_at hd
      obtain ⟨g, o, a1, c1, a2, c2, h0, h1, h2, h3, h4, h5⟩ := (hA i hi).1
      exact ⟨g, o, a1, c1, a2, c2, by rw [h0], h1, h2, h3, h4, h5⟩
    · simp only [Rows.uptoBulk]
      omega
    · obtain ⟨t, ht, rfl⟩ := List.mem_map.1 hd
      have ht' : t < len := by simpa using ht
      have h1 := (hA t ht').2
      have h2 := bulk_mem D len t ht'
      simp only [Rows.uptoBulk]
      omega
set_option maxRecDepth 100000 in
/-- one step -/
theorem open_step {fuel : Nat} {cs : List Value} {x : DataW H × List MemPlace} (h : DataW.trod enc Tryz.prog W 0 (fun _ => true) true fuel 35 cs = some x) :
    ∃ (q : Sq) (ap : Option Addr) (cp : Nat) (ae : Option Addr) (ce : Nat), cs = [.int .i64 q.kind, .int .i64 q.a, .int .i64 q.b, .slice ap q.p.length cp, .slice ae q.es.length ce] ∧ Sqr W q ap ae cp ce ∧ qw q + 6 ≤ Rows.uptoBulk x.1 ∧ q.es.length ≤ Rows.uptoBulk x.1 ∧ ∀ d ∈ q.es, d.old.length ≤ Rows.uptoBulk x.1 := by
  obtain ⟨xs, n, -, rfl, hl, hxl, hf⟩ := DataW.trod_struct Tryz.underlying35 h
  rw [cells35] at hl
  match xs, hxl, cs, hl with
  | [y0, y1, y2, y3, y4], _, [v0, v1, v2, v3, v4], _ =>
    have g0 : DataW.trod enc Tryz.prog W 0 (fun _ => true) true n 3 [v0] = some y0 := by have := hf 0 { name := "Kind", type := 3, offset := 0, embedded := false, tag := "", pkgPath := "", byteOffset := 0 } rfl; dsimp only at this; rw [cells3] at this; exact this
    have g1 : DataW.trod enc Tryz.prog W 0 (fun _ => true) true n 3 [v1] = some y1 := by have := hf 1 { name := "A", type := 3, offset := 1, embedded := false, tag := "", pkgPath := "", byteOffset := 8 } rfl; dsimp only at this; rw [cells3] at this; exact this
    have g2 : DataW.trod enc Tryz.prog W 0 (fun _ => true) true n 3 [v2] = some y2 := by have := hf 2 { name := "B", type := 3, offset := 2, embedded := false, tag := "", pkgPath := "", byteOffset := 16 } rfl; dsimp only at this; rw [cells3] at this; exact this
    have g3 : DataW.trod enc Tryz.prog W 0 (fun _ => true) true n 22 [v3] = some y3 := by have := hf 3 { name := "P", type := 22, offset := 3, embedded := false, tag := "", pkgPath := "", byteOffset := 24 } rfl; dsimp only at this; rw [cells22] at this; exact this
    have g4 : DataW.trod enc Tryz.prog W 0 (fun _ => true) true n 33 [v4] = some y4 := by have := hf 4 { name := "Edits", type := 33, offset := 4, embedded := false, tag := "", pkgPath := "", byteOffset := 48 } rfl; dsimp only at this; rw [cells33] at this; exact this
    obtain ⟨k, e0, -, -⟩ := DataW.trod_int Tryz.underlying3 g0
    obtain ⟨a, e1, -, -⟩ := DataW.trod_int Tryz.underlying3 g1
    obtain ⟨b, e2, -, -⟩ := DataW.trod_int Tryz.underlying3 g2
    obtain ⟨ap, cp, p, e3, r3, b3⟩ := open_bytes g3
    obtain ⟨ae, ce, es, e4, r4, b4, o4⟩ := open_edits g4
    have b0 := bulk_one y0.1
    have b1 := bulk_one y1.1
    have b2 := bulk_one y2.1
    have b9 := (ewt_nsum es).2.1
    simp only [List.cons.injEq, and_true] at e0 e1 e2 e3 e4
    subst e0 e1 e2 e3 e4
    refine ⟨⟨k, a, b, p, es⟩, ap, cp, ae, ce, rfl, ⟨r3, r4⟩, ?_, ?_, fun d hd => ?_⟩
    · simp only [List.map_cons, List.map_nil, Rows.uptoBulk, Rows.uptoBulkAll, qw]
      omega
    · simp only [List.map_cons, List.map_nil, Rows.uptoBulk, Rows.uptoBulkAll]
      omega
    · have := o4 d hd
      simp only [List.map_cons, List.map_nil, Rows.uptoBulk, Rows.uptoBulkAll]
      omega
set_option maxRecDepth 100000 in
/-- a script -/
theorem open_steps {v : Value} {d : DataW H} {p : List MemPlace} (h : DataW.Trod enc Tryz.prog W 0 (fun _ => true) true 23 v d p) (hv : ∃ a len cap, v = .slice a len cap) (hk : Rows.uptoBulk d ≤ 1048576) :
    ∃ as' c qs, v = .slice as' (List.length qs) c ∧ Scs W as' qs ∧ qws qs + 6 * qs.length + 1 ≤ Rows.uptoBulk d := by
  obtain ⟨a, len, cap, rfl⟩ := hv
  obtain ⟨fuel, hf⟩ := h
  rcases open_slice Tryz.underlying23 hf with ⟨hcs, hx⟩ | ⟨x, l', c, m, n, D, Pl, hcs, _, hl, hm, hmm, hx, hall⟩
  · simp [Value.cells] at hcs
    obtain ⟨rfl, rfl, rfl⟩ := hcs
    exact ⟨none, 0, [], rfl, ⟨fun i q hq => by simp at hq, fun q hq => by simp at hq⟩, by simpa [qws] using bulk_one _⟩
  · simp [Value.cells] at hcs
    obtain ⟨rfl, rfl, rfl⟩ := hcs
    simp only [if_true] at hmm
    subst hmm
    simp only [Prod.mk.injEq] at hx
    obtain ⟨rfl, -⟩ := hx
    have each : ∀ t, t < len → ∃ q : Sq, (∃ g o ap cp ae ce, x = ⟨g, o, none⟩ ∧ W.cell? ⟨g, o + t * 5, none⟩ = some (.int .i64 q.kind) ∧ W.cell? ⟨g, o + t * 5 + 1, none⟩ = some (.int .i64 q.a) ∧ W.cell? ⟨g, o + t * 5 + 2, none⟩ = some (.int .i64 q.b) ∧ W.cell? ⟨g, o + t * 5 + 3, none⟩ = some (.slice ap q.p.length cp) ∧ W.cell? ⟨g, o + t * 5 + 4, none⟩ = some (.slice ae q.es.length ce) ∧ Sqr W q ap ae cp ce) ∧ qw q + 6 ≤ Rows.uptoBulk (D t) ∧ q.es.length ≤ Rows.uptoBulk (D t) ∧ ∀ d ∈ q.es, d.old.length ≤ Rows.uptoBulk (D t) := by
      intro t ht
      obtain ⟨cs', h1, h2⟩ := hall t (by omega)
      rw [cells35] at h1
      obtain ⟨_, hlen, hcell⟩ := World.cells?_some h1
      obtain ⟨q, ap, cp, ae, ce, rfl, r1, hb⟩ := open_step h2
      obtain ⟨g, off, spot⟩ := x
      have hspot : spot = none := by
        obtain ⟨cz, z1, z2⟩ := hall 0 (by omega)
        rw [cells35] at z1
        obtain ⟨_, zl, zc⟩ := World.cells?_some z1
        have h0 := zc 0 (by omega)
        rw [List.getElem?_eq_getElem (by omega)] at h0
        simpa [Addr.add] using World.cell?_spot h0
      subst hspot
      have hc : ∀ j, j < 5 → W.cell? ⟨g, off + t * 5 + j, none⟩ = [Value.int .i64 q.kind, .int .i64 q.a, .int .i64 q.b, .slice ap q.p.length cp, .slice ae q.es.length ce][j]? := fun j hj => by
        have h0 := hcell j hj
        rw [Go.WideShapes.add_plain, Go.WideShapes.add_plain] at h0
        exact h0
      exact ⟨q, ⟨g, off, ap, cp, ae, ce, rfl, hc 0 (by omega), hc 1 (by omega), hc 2 (by omega), hc 3 (by omega), hc 4 (by omega), r1⟩, hb⟩
    have _inh : Inhabited Sq := ⟨⟨0, 0, 0, [], []⟩⟩
    obtain ⟨A, hA⟩ := choose_lt each
    have hs := qws_range A D len (fun t ht => (hA t ht).2.1)
    simp only [Rows.uptoBulk] at hk
    refine ⟨some x, m, (List.range len).map A, by simp, ⟨fun i q hq => ?_, fun q hq => ?_⟩, ?_⟩
    · obtain ⟨hi, rfl⟩ := range_at hq
      obtain ⟨g, o, ap, cp, ae, ce, h0, h1, h2, h3, h4, h5, h6⟩ := (hA i hi).1
      exact ⟨g, o, ap, cp, ae, ce, by rw [h0], h1, h2, h3, h4, h5, h6⟩
    · obtain ⟨t, ht, rfl⟩ := List.mem_map.1 hq
      have ht' : t < len := by simpa using ht
      have h2 := bulk_mem D len t ht'
      exact ⟨by have := (hA t ht').2.2.1; omega, fun d hd => by have := (hA t ht').2.2.2 d hd; omega⟩
    · simp only [Rows.uptoBulk, List.length_map, List.length_range]
      omega
end

end Go.Proofs.YtmhpeppbhjpkiaaGreat.opn

