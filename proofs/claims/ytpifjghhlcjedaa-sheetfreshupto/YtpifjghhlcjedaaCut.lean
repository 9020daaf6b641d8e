/- A sheet's cut: a tree in two at a byte. -/
import Derived.Test.YtpifjghhlcjedaaPiece
import Derived.Test.YtpifjghhlcjedaaLate
namespace Go.Proofs.Ytpifjghhlcjedaa
open Go.RowKit

/-- Three variables of trees, behind w. -/
structure Cw (w W : World) (a x y : Option Addr) : Prop where
  below : Below w.heap.size w W
  b0 : W.heap[w.heap.size]? = some (.cells #[.pointer a] 26 (0, 0))
  b1 : W.heap[w.heap.size + 1]? = some (.cells #[.pointer x] 26 (0, 0))
  b2 : W.heap[w.heap.size + 1 + 1]? = some (.cells #[.pointer y] 26 (0, 0))

theorem Cw.new (w : World) (a x y : Option Addr) : Cw w (((w.alloc (.cells #[.pointer a] 26)).alloc (.cells #[.pointer x] 26)).alloc (.cells #[.pointer y] 26)) a x y :=
  ⟨bAAA w _ _ _, ((Below.heap_alloc _ _ _ (by simp; omega)).trans (Below.heap_alloc _ _ _ (by simp))).trans (World.alloc_heap_new w _), (Below.heap_alloc _ _ _ (by simp)).trans (alloc2_here w _ _), alloc3_here w _ _ _⟩
theorem Cw.call {w W W' : World} {a x y : Option Addr} (h : Cw w W a x y) (hb : Below W.heap.size W W') : Cw w W' a x y :=
  ⟨h.below.trans (hb.mono h.below.size), (hb.block _ (sh_lt h.b0)).trans h.b0, (hb.block _ (sh_lt h.b1)).trans h.b1, (hb.block _ (sh_lt h.b2)).trans h.b2⟩
theorem Cw.drew {w W : World} {a x y : Option Addr} (h : Cw w W a x y) : Cw w W.drew a x y := ⟨h.below.drew, h.b0, h.b1, h.b2⟩
theorem Cw.set1 {w W : World} {a x y : Option Addr} (h : Cw w W a x y) (x' : Option Addr) : Cw w (W.setCell ⟨w.heap.size + 1, 0, none⟩ (.pointer x')) a x' y :=
  ⟨bset h.below (by omega) _ _, (Below.heap_setCell _ _ _ _ (by simp)).trans h.b0, box_set h.b1 _, (Below.heap_setCell _ _ _ _ (by simp)).trans h.b2⟩
theorem Cw.set2 {w W : World} {a x y : Option Addr} (h : Cw w W a x y) (y' : Option Addr) : Cw w (W.setCell ⟨w.heap.size + 1 + 1, 0, none⟩ (.pointer y')) a x y' :=
  ⟨bset h.below (by omega) _ _, (Below.heap_setCell _ _ _ _ (by simp; omega)).trans h.b0, (Below.heap_setCell _ _ _ _ (by simp)).trans h.b1, box_set h.b2 _⟩
theorem Cw.cells {w W : World} {a x y : Option Addr} (h : Cw w W a x y) :
    W.cell? ⟨w.heap.size, 0, none⟩ = some (.pointer a) ∧ W.cell? ⟨w.heap.size + 1, 0, none⟩ = some (.pointer x) ∧ W.cell? ⟨w.heap.size + 1 + 1, 0, none⟩ = some (.pointer y) ∧ W.frozen? ⟨w.heap.size + 1, 0, none⟩ = false ∧ W.frozen? ⟨w.heap.size + 1 + 1, 0, none⟩ = false :=
  ⟨(box_cell h.b0).1, (box_cell h.b1).1, (box_cell h.b2).1, (box_cell h.b1).2, (box_cell h.b2).2⟩
/-- Nodes lie on: a tree set beside them. -/
theorem Cw.nods1 {w W : World} {a x y : Option Addr} (h : Cw w W a x y) (v : Value) : Nods W (W.setCell ⟨w.heap.size + 1, 0, none⟩ v) := fun b cs hb => by
  by_cases e : b = w.heap.size + 1
  · subst e; rw [h.b1] at hb; cases hb
  · exact (Below.heap_setCell _ _ _ _ e).trans hb
theorem Cw.nods2 {w W : World} {a x y : Option Addr} (h : Cw w W a x y) (v : Value) : Nods W (W.setCell ⟨w.heap.size + 1 + 1, 0, none⟩ v) := fun b cs hb => by
  by_cases e : b = w.heap.size + 1 + 1
  · subst e; rw [h.b2] at hb; cases hb
  · exact (Below.heap_setCell _ _ _ _ e).trans hb

/-- What a cut gives. -/
def CutGave (w : World) (T U : Tr) (e : Ending) (w' : World) : Prop := ∃ x y, e = .returned (.tuple #[.agg #[.pointer x], .agg #[.pointer y]]) ∧ At w' T x ∧ At w' U y ∧ Below w.heap.size w w'

theorem nil_whole : (Tr.mk none).whole := by simp [Tr.whole, Tr.bal, Tr.red]

/-- How a tree is cut at a byte. -/
def CutR (O A : List UInt8) (t : Tr) (off : Int) (T U : Tr) : Prop :=
  (off = 0 ∧ T = Tr.mk none ∧ U = t) ∨ (off ≠ 0 ∧ off = t.byt ∧ T = t ∧ U = Tr.mk none) ∨
  ∃ (j : Nat) (x : Int) (p : Pc), 0 < off ∧ off < t.byt ∧ t.list[j]? = some p ∧ 0 ≤ x ∧ x < p.l ∧ off = sB (t.list.take j) + x ∧
    ((x = 0 ∧ T = (Tr.splitT t j).1 ∧ U = (Tr.splitT t j).2) ∨
     (0 < x ∧ T = Tr.joinT (Tr.splitT t j).1 (fstP O A p x) (Tr.mk none) ∧ U = Tr.joinT (Tr.mk none) (sndP O A p x) (Tr.splitT t (j + 1)).2))

set_option maxHeartbeats 1000000 in
theorem cut_zero (p : Value) (t : Tr) (a : Option Addr) (w : World) (h : Hid (At w t a)) : Calls Try.prog 104 #[p, .agg #[.pointer a], .int .i64 0] w (CutGave w (Tr.mk none) t) := by
  go_enter Try.func104, Try.ntmps104
  go_wp2
  go_region
  all_goals go_wp2
  exact bodyPost_ret (v := .tuple #[.agg #[.pointer none], .agg #[.pointer a]]) (by simp [results, Try.results104, go_sem]) rfl ⟨none, a, rfl, rfl, h.out.keep (bAAA w _ _ _).drew, (bAAA w _ _ _).drew⟩

set_option maxHeartbeats 1000000 in
theorem cut_all (p : Value) (t : Tr) (a : Option Addr) (w : World) (h : Hid (At w t a)) (hn : (t.byt == 0) = false) : Calls Try.prog 104 #[p, .agg #[.pointer a], .int .i64 t.byt] w (CutGave w t (Tr.mk none)) := by
  have hC := Cw.new w a none none
  obtain ⟨W0, hW0⟩ : ∃ W0, ((w.alloc (.cells #[.pointer a] 26)).alloc (.cells #[.pointer none] 26)).alloc (.cells #[.pointer none] 26) = W0 := ⟨_, rfl⟩
  rw [hW0] at hC
  obtain ⟨c0, c1, c2, f1, f2⟩ := hC.cells
  have HC := hid hC
  clear hC
  go_enter Try.func104, Try.ntmps104
  go_wp2_with (go_at_call 52; refine (Bytes_any t a _ (h.out.keep HC.out.below)).mono ?_; rintro e w9 ⟨rfl, hw9⟩; have C9 := hid (HC.out.call (bAlloc (Below.refl _ _) (.cells #[.pointer a] 26))); rw [← hw9] at C9; clear c0 c1 c2 f1 f2 hw9 hW0; obtain ⟨c0, c1, c2, f1, f2⟩ := C9.out.cells)
  have F := (C9.out.set1 a).set2 none
  have N := (C9.out.nods1 (.pointer a)).trans ((C9.out.set1 a).nods2 (.pointer none))
  exact bodyPost_ret (v := .tuple #[.agg #[.pointer a], .agg #[.pointer none]]) (by simp [results, Try.results104, go_sem, c1, c2]) rfl ⟨a, none, rfl, N.at (h.out.keep C9.out.below), rfl, F.below⟩

set_option maxHeartbeats 4000000 in
theorem cut_in (sb : Nat) (pb : Option Addr) (vx vy : Value) (O A : List UInt8) (base : Nat) (t : Tr) (a : Option Addr) (off : Int) (w : World) (hB : Hid (ShB w base sb pb vx vy O A)) (h : Hid (At w t a)) (h0 : (off == 0) = false) (h1 : (off == t.byt) = false) (hlo : 0 < off) (hhi : off < t.byt)
    (hw : Hid t.whole) (hf : Hid t.fine) (hg : Hid (Gds O A t.list)) (hz : Hid (t.size + 1 ≤ 1048576)) :
    Calls Try.prog 104 #[.pointer (some ⟨sb, 0, none⟩), .agg #[.pointer a], .int .i64 off] w fun e w' => ∃ T U, CutR O A t off T U ∧ CutGave w T U e w' := by
  have hC := Cw.new w a none none
  obtain ⟨W0, hW0⟩ : ∃ W0, ((w.alloc (.cells #[.pointer a] 26)).alloc (.cells #[.pointer none] 26)).alloc (.cells #[.pointer none] 26) = W0 := ⟨_, rfl⟩
  rw [hW0] at hC
  obtain ⟨c0, c1, c2, f1, f2⟩ := hC.cells
  have HC := hid hC
  clear hC
  go_enter Try.func104, Try.ntmps104
  go_wp2_with (first
    | (go_at_call 52; refine (Bytes_any t a _ (h.out.keep HC.out.below)).mono ?_; rintro e w9 ⟨rfl, hw9⟩; have C9 := hid (HC.out.call (bAlloc (Below.refl _ _) (.cells #[.pointer a] 26))); rw [← hw9] at C9; clear c0 c1 c2 f1 f2 hw9 hW0; obtain ⟨c0, c1, c2, f1, f2⟩ := C9.out.cells)
    | (go_at_call 51; refine (Find52_yes t a off _ (by omega) hhi hf (h.out.keep C9.out.below)).mono ?_; rintro e w8 ⟨j, x0, rfl, hit, hb8⟩; obtain ⟨x, rfl⟩ : ∃ x : Nat, x0 = x := (by obtain ⟨pp, _, q, _⟩ := hit; exact ⟨x0.toNat, by omega⟩); have C8 := hid (C9.out.call hb8); clear c0 c1 c2 f1 f2 hb8; obtain ⟨c0, c1, c2, f1, f2⟩ := C8.out.cells; have hj := hid (hit_lt52 hit); have Hit := hid hit; clear hit)
    | (go_at_call 15; refine (Split_yes t a j _ (show j ≤ t.size from by have := hj.out; have := t.size_list; omega) hf hw (h.out.keep C8.out.below)).mono ?_; rintro e w7 ⟨x7, y7, rfl, hx7, hy7, hb7⟩; have C7 := hid (C8.out.call hb7); have HX := hid hx7; have HY := hid hy7; clear c0 c1 c2 f1 f2 hb7 hx7 hy7; obtain ⟨c0, c1, c2, f1, f2⟩ := C7.out.cells))
  · have C6 := (C7.out.set1 x7).set2 y7
    have N6 := (C7.out.nods1 (.pointer x7)).trans ((C7.out.set1 x7).nods2 (.pointer y7))
    have hX := hid (N6.at HX.out)
    have hY := hid (N6.at HY.out)
    clear c0 c1 c2 f1 f2 N6
    generalize (w7.setCell ⟨w.heap.size + 1, 0, none⟩ (.pointer x7)).setCell ⟨w.heap.size + 1 + 1, 0, none⟩ (.pointer y7) = w6 at *
    obtain ⟨c0, c1, c2, f1, f2⟩ := C6.cells
    have HC6 := hid C6
    clear C6
    go_region
    go_wp2
    rename_i ex
    obtain ⟨pp, q1, q2, q3, q4⟩ := Hit.out
    have F := ((HC6.out.set1 x7).set2 y7).drew
    have N := (HC6.out.nods1 (.pointer x7)).trans ((HC6.out.set1 x7).nods2 (.pointer y7))
    refine bodyPost_ret (v := .tuple #[.agg #[.pointer x7], .agg #[.pointer y7]]) (by simp [results, Try.results104, go_sem, c1, c2]) rfl ⟨_, _, .inr (.inr ⟨j, x, pp, hlo, hhi, q1, q2, q3, q4, .inl ⟨by simpa using ex, rfl, rfl⟩⟩), x7, y7, rfl, (N.at hX.out).drew, (N.at hY.out).drew, F.below⟩
  · have hx0 : 0 < x := by
      rcases Nat.eq_zero_or_pos x with rfl | h
      · simp_all
      · exact h
    have C6 := (C7.out.set1 x7).set2 y7
    have N6 := (C7.out.nods1 (.pointer x7)).trans ((C7.out.set1 x7).nods2 (.pointer y7))
    have hX := hid (N6.at HX.out)
    have hY := hid (N6.at HY.out)
    clear c0 c1 c2 f1 f2 N6
    generalize (w7.setCell ⟨w.heap.size + 1, 0, none⟩ (.pointer x7)).setCell ⟨w.heap.size + 1 + 1, 0, none⟩ (.pointer y7) = w6 at *
    obtain ⟨c0, c1, c2, f1, f2⟩ := C6.cells
    have HC6 := hid C6
    clear C6
    have hjb : j ≤ 1048576 := by have := hj.out; have := t.size_list; have := hf.out.2; omega
    have HS : Hid (∀ W, At W t a → Calls Try.prog 15 #[.agg #[.pointer a], .int .i64 ((j : Int) + 1)] W fun e w' => ∃ x y, e = .returned (.tuple #[.agg #[.pointer x], .agg #[.pointer y], .int .i64 0]) ∧ At w' (Tr.splitT t (j + 1)).1 x ∧ At w' (Tr.splitT t (j + 1)).2 y ∧ Below W.heap.size W w') := fun W hW => by
      have := Split_yes t a (j + 1) W (show j + 1 ≤ t.size from by have := hj.out; have := t.size_list; omega) hf hw hW
      rwa [Int.natCast_succ] at this
    go_wp2_with (first
      | (go_at_call 24; refine (Get_yes t a j _ (by have := hj.out; have := t.size_list; omega) hf.out.2 (h.out.keep HC6.out.below)).mono ?_; rintro e w5 ⟨ps, po0, pl0, pn, hget, rfl, hb5⟩; obtain ⟨po, pl, e1, e2, k1, k2, k3⟩ := Ab.hd_parts (hg.out.at hget).hold; simp only at e1 e2 k1 k2; subst e1 e2; have C5 := hid (HC6.out.call hb5); have X5 := hid (hX.out.keep hb5); have HG := hid hget; clear c0 c1 c2 f1 f2 hb5 hget; have C5a := hid (C5.out.call (bAlloc (Below.refl _ _) (.cells #[.int .i64 ps, .int .i64 po, .int .i64 pl, .int .i64 pn] 32))); have P5 := World.alloc_heap_new w5 (.cells #[.int .i64 ps, .int .i64 po, .int .i64 pl, .int .i64 pn] 32); obtain ⟨c0, c1, c2, f1, f2⟩ := C5a.out.cells; have X5a := hid (X5.out.alloc (.cells #[.int .i64 ps, .int .i64 po, .int .i64 pl, .int .i64 pn] 32)))
      | (go_at_call 15; refine (HS.out _ (h.out.keep C5a.out.below)).mono ?_; rintro e w4 ⟨x4, y4, rfl, hx4, hy4, hb4⟩; have C4 := hid (C5a.out.call hb4); have X4 := hid (X5a.out.keep hb4); have p4 := (hb4.block _ (sh_lt P5)).trans P5; obtain ⟨d0, d1, d2, d3⟩ := four_cells p4; have P4 := hid p4; have Y4 := hid hy4; have hne : ¬ (w5.heap.size = w.heap.size + 1 + 1) := (by have := sh_lt C5.out.b2; omega); have hne' : ¬ (w.heap.size + 1 + 1 = w5.heap.size) := (fun e => hne e.symm); clear c0 c1 c2 f1 f2 hb4 hx4 hy4 P5 p4; obtain ⟨c0, c1, c2, f1, f2⟩ := C4.out.cells))
    have C3 := hid (C4.out.set2 y4)
    have n3 := C4.out.nods2 (.pointer y4)
    have X3 := hid (n3.at X4.out)
    have Y3 := hid (n3.at Y4.out)
    clear c0 c1 c2 f1 f2 n3 d0 d1 d2 d3 P4
    generalize w4.setCell ⟨w.heap.size + 1 + 1, 0, none⟩ (.pointer y4) = w3 at *
    have hgd := hg.out.at HG.out
    have hxl : x < pl := by
      obtain ⟨pp, q1, q2, q3, q4⟩ := Hit.out
      rw [HG.out] at q1
      cases q1
      simp only at q3
      omega
    have hft := hgd.fit
    simp only [Pc.fit] at hft
    obtain ⟨g1, g2, g3, g4, _⟩ := cut_good hgd (i := (x : Int)) (by omega) (by simp only; omega)
    have fB1 : fitB x (Ab.nl (Ab.cutL ps po x O A) : Nat) = true := by have := g1.fit; simpa [fitB, Pc.fit, fstP] using this
    have fB2 : fitB ((pl : Int) - x) (pn - (Ab.nl (Ab.cutL ps po x O A) : Nat)) = true := by have := g2.fit; simpa [fitB, Pc.fit, sndP] using this
    have hsp := Tr.splitT_whole t j hw.out.1
    have hsp2 := Tr.splitT_whole t (j + 1) hw.out.1
    have hl1 := (Tr.splitT_list t j).1
    have hl2 := (Tr.splitT_list t (j + 1)).2
    have fl := (Gds.fine hg.out)
    have hJ1 : Hid (fineL ((Tr.splitT t j).1.list ++ ⟨ps, po, x, (Ab.nl (Ab.cutL ps po x O A) : Nat)⟩ :: (Tr.mk none).list)) := by
      rw [hl1]
      refine ⟨fun q hq => ?_, ?_⟩
      · rcases List.mem_append.1 hq with hq | hq
        · exact (hg.out.take j q hq).fit
        · rcases List.mem_cons.1 hq with rfl | hq
          · exact g1.fit
          · cases hq
      · have := hz.out
        have := t.size_list
        simp [Tr.list]
        omega
    have hJ2 : Hid (fineL ((Tr.mk none).list ++ ⟨ps, (po : Int) + x, (pl : Int) - x, pn - (Ab.nl (Ab.cutL ps po x O A) : Nat)⟩ :: (Tr.splitT t (j + 1)).2.list)) := by
      rw [hl2]
      refine ⟨fun q hq => ?_, ?_⟩
      · rcases List.mem_append.1 hq with hq | hq
        · cases hq
        · rcases List.mem_cons.1 hq with rfl | hq
          · exact g2.fit
          · exact (hg.out.drop (j + 1) q hq).fit
      · have := hz.out
        have := t.size_list
        simp [Tr.list]
        omega
    have hcp := hid (fun W (hW : ShB W base sb pb vx vy O A) => cutPiece_yes sb pb vx vy O A base ps po pl x pn W k1 (by omega) k2 hW ⟨by omega, by omega⟩ (by omega))
    clear hl1 hl2 fl hft g1 g2 g3 g4 hne hne'
    go_wp2_with (first
      | (go_at_call 86; refine (hcp.out _ (hB.out.keep C3.out.below)).mono ?_; rintro e w2 ⟨rfl, hb2⟩; have C2 := hid (C3.out.call hb2); have X2 := hid (X3.out.keep hb2); have Y2 := hid (Y3.out.keep hb2); clear hb2))
    have C1 := hid (C2.out.call (bAA w2 (.cells #[.int .i64 ps, .int .i64 po, .int .i64 x, .int .i64 (Ab.nl (Ab.cutL ps po x O A) : Nat)] 32) (.cells #[.int .i64 ps, .int .i64 ((po : Int) + x), .int .i64 ((pl : Int) - x), .int .i64 (pn - (Ab.nl (Ab.cutL ps po x O A) : Nat))] 32)))
    have X1 := hid (X2.out.keep (bAA w2 (.cells #[.int .i64 ps, .int .i64 po, .int .i64 x, .int .i64 (Ab.nl (Ab.cutL ps po x O A) : Nat)] 32) (.cells #[.int .i64 ps, .int .i64 ((po : Int) + x), .int .i64 ((pl : Int) - x), .int .i64 (pn - (Ab.nl (Ab.cutL ps po x O A) : Nat))] 32)))
    have Y1 := hid (Y2.out.keep (bAA w2 (.cells #[.int .i64 ps, .int .i64 po, .int .i64 x, .int .i64 (Ab.nl (Ab.cutL ps po x O A) : Nat)] 32) (.cells #[.int .i64 ps, .int .i64 ((po : Int) + x), .int .i64 ((pl : Int) - x), .int .i64 (pn - (Ab.nl (Ab.cutL ps po x O A) : Nat))] 32)))
    have E1 := hid ((Below.heap_alloc (w2.alloc (.cells #[.int .i64 ps, .int .i64 po, .int .i64 x, .int .i64 (Ab.nl (Ab.cutL ps po x O A) : Nat)] 32)) (.cells #[.int .i64 ps, .int .i64 ((po : Int) + x), .int .i64 ((pl : Int) - x), .int .i64 (pn - (Ab.nl (Ab.cutL ps po x O A) : Nat))] 32) w2.heap.size (by simp)).trans (World.alloc_heap_new w2 _))
    have E2 := hid (alloc2_here w2 (.cells #[.int .i64 ps, .int .i64 po, .int .i64 x, .int .i64 (Ab.nl (Ab.cutL ps po x O A) : Nat)] 32) (.cells #[.int .i64 ps, .int .i64 ((po : Int) + x), .int .i64 ((pl : Int) - x), .int .i64 (pn - (Ab.nl (Ab.cutL ps po x O A) : Nat))] 32))
    generalize (w2.alloc (.cells #[.int .i64 ps, .int .i64 po, .int .i64 x, .int .i64 (Ab.nl (Ab.cutL ps po x O A) : Nat)] 32)).alloc (.cells #[.int .i64 ps, .int .i64 ((po : Int) + x), .int .i64 ((pl : Int) - x), .int .i64 (pn - (Ab.nl (Ab.cutL ps po x O A) : Nat))] 32) = w1 at *
    obtain ⟨c0, c1, c2, f1, f2⟩ := C1.out.cells
    obtain ⟨d0, d1, d2, d3⟩ := four_cells E1.out
    obtain ⟨e0, e1, e2, e3⟩ := four_cells E2.out
    have hS : w1.drew.cell? ⟨w.heap.size + 1, 0, none⟩ = some (.pointer x7) ∧ w1.drew.cell? ⟨w.heap.size + 1 + 1, 0, none⟩ = some (.pointer y4) ∧ w1.drew.cell? ⟨w2.heap.size, 0, none⟩ = some (.int .i64 ps) ∧ w1.drew.cell? ⟨w2.heap.size, 1, none⟩ = some (.int .i64 po) ∧ w1.drew.cell? ⟨w2.heap.size, 2, none⟩ = some (.int .i64 x) ∧ w1.drew.cell? ⟨w2.heap.size, 3, none⟩ = some (.int .i64 (Ab.nl (Ab.cutL ps po x O A) : Nat)) ∧ w1.drew.cell? ⟨w2.heap.size + 1, 0, none⟩ = some (.int .i64 ps) ∧ w1.drew.cell? ⟨w2.heap.size + 1, 1, none⟩ = some (.int .i64 ((po : Int) + x)) ∧ w1.drew.cell? ⟨w2.heap.size + 1, 2, none⟩ = some (.int .i64 ((pl : Int) - x)) ∧ w1.drew.cell? ⟨w2.heap.size + 1, 3, none⟩ = some (.int .i64 (pn - (Ab.nl (Ab.cutL ps po x O A) : Nat))) := ⟨c1, c2, d0, d1, d2, d3, e0, e1, e2, e3⟩
    refine wp_region_late (S := fun w' => w'.cell? ⟨w.heap.size + 1, 0, none⟩ = some (.pointer x7) ∧ w'.cell? ⟨w.heap.size + 1 + 1, 0, none⟩ = some (.pointer y4) ∧ w'.cell? ⟨w2.heap.size, 0, none⟩ = some (.int .i64 ps) ∧ w'.cell? ⟨w2.heap.size, 1, none⟩ = some (.int .i64 po) ∧ w'.cell? ⟨w2.heap.size, 2, none⟩ = some (.int .i64 x) ∧ w'.cell? ⟨w2.heap.size, 3, none⟩ = some (.int .i64 (Ab.nl (Ab.cutL ps po x O A) : Nat)) ∧ w'.cell? ⟨w2.heap.size + 1, 0, none⟩ = some (.int .i64 ps) ∧ w'.cell? ⟨w2.heap.size + 1, 1, none⟩ = some (.int .i64 ((po : Int) + x)) ∧ w'.cell? ⟨w2.heap.size + 1, 2, none⟩ = some (.int .i64 ((pl : Int) - x)) ∧ w'.cell? ⟨w2.heap.size + 1, 3, none⟩ = some (.int .i64 (pn - (Ab.nl (Ab.cutL ps po x O A) : Nat)))) (n0 := 8) (by kernel_rfl) fun hsh => ?_
    change wpLate _ _ _ _ _ _ _ _ _ w1.drew
    refine wpLate_take (i := 0) (v := .agg #[.pointer x7]) rfl (by kernel_rfl) (by kernel_rfl) (by kernel_rfl) (by kernel_rfl) hsh rfl (fun _ _ _ h => h) (.inl ⟨rfl, fun w' h => by obtain ⟨h1, h2, h3, h4, h5, h6, h7, h8, h9, h10⟩ := h; go_simp⟩) hS fun hsh => ?_
    refine wpLate_take (i := 1) (v := .agg #[.int .i64 ps, .int .i64 po, .int .i64 x, .int .i64 (Ab.nl (Ab.cutL ps po x O A) : Nat)]) rfl (by kernel_rfl) (by kernel_rfl) (by kernel_rfl) (by kernel_rfl) hsh rfl (fun _ _ _ h => h) (.inl ⟨rfl, fun w' h => by obtain ⟨h1, h2, h3, h4, h5, h6, h7, h8, h9, h10⟩ := h; go_simp⟩) hS fun hsh => ?_
    refine wpLate_take (i := 2) (v := .agg #[.pointer none]) rfl (by kernel_rfl) (by kernel_rfl) (by kernel_rfl) (by kernel_rfl) hsh rfl (fun _ _ _ h => h) (.inl ⟨rfl, fun w' h => by obtain ⟨h1, h2, h3, h4, h5, h6, h7, h8, h9, h10⟩ := h; go_simp⟩) hS fun hsh => ?_
    refine wpLate_take (i := 4) (v := .agg #[.pointer none]) rfl (by kernel_rfl) (by kernel_rfl) (by kernel_rfl) (by kernel_rfl) hsh rfl (fun _ _ _ h => h) (.inl ⟨rfl, fun w' h => by obtain ⟨h1, h2, h3, h4, h5, h6, h7, h8, h9, h10⟩ := h; go_simp⟩) hS fun hsh => ?_
    refine wpLate_take (i := 5) (v := .agg #[.int .i64 ps, .int .i64 ((po : Int) + x), .int .i64 ((pl : Int) - x), .int .i64 (pn - (Ab.nl (Ab.cutL ps po x O A) : Nat))]) rfl (by kernel_rfl) (by kernel_rfl) (by kernel_rfl) (by kernel_rfl) hsh rfl (fun _ _ _ h => h) (.inl ⟨rfl, fun w' h => by obtain ⟨h1, h2, h3, h4, h5, h6, h7, h8, h9, h10⟩ := h; go_simp⟩) hS fun hsh => ?_
    refine wpLate_take (i := 6) (v := .agg #[.pointer y4]) rfl (by kernel_rfl) (by kernel_rfl) (by kernel_rfl) (by kernel_rfl) hsh rfl (fun _ _ _ h => h) (.inl ⟨rfl, fun w' h => by obtain ⟨h1, h2, h3, h4, h5, h6, h7, h8, h9, h10⟩ := h; go_simp⟩) hS fun hsh => ?_
    refine wpLate_step (i := 3) (by kernel_rfl) rfl rfl fun K hK => ?_
    go_simp
    refine (Join_fit (Tr.splitT t j).1 (Tr.mk none) x7 none ps po x (Ab.nl (Ab.cutL ps po x O A) : Nat) _ fB1 hJ1 hsp.1 nil_whole X1.out.drew rfl).mono ?_
    rintro e wa ⟨z1, rfl, hz1, hba⟩
    have Ca := hid (C1.out.call (bD hba))
    have Ya := hid (Y1.out.keep (bD hba))
    have Ea := hid (((bD hba).block _ (sh_lt E1.out)).trans E1.out)
    have Eb := hid (((bD hba).block _ (sh_lt E2.out)).trans E2.out)
    have Za := hid hz1
    clear c0 c1 c2 f1 f2 d0 d1 d2 d3 e0 e1 e2 e3 hS hba hz1
    obtain ⟨c0, c1, c2, f1, f2⟩ := Ca.out.cells
    obtain ⟨d0, d1, d2, d3⟩ := four_cells Ea.out
    obtain ⟨e0, e1, e2, e3⟩ := four_cells Eb.out
    refine hK _ _ (fun _ _ => ⟨c1, c2, d0, d1, d2, d3, e0, e1, e2, e3⟩) ?_
    clear hK K
    refine wpLate_step (i := 7) (by kernel_rfl) rfl rfl fun K hK => ?_
    go_simp
    refine (Join_fit (Tr.mk none) (Tr.splitT t (j + 1)).2 none y4 ps ((po : Int) + x) ((pl : Int) - x) (pn - (Ab.nl (Ab.cutL ps po x O A) : Nat)) _ fB2 hJ2 nil_whole hsp2.2 rfl Ya.out).mono ?_
    rintro e wb ⟨z2, rfl, hz2, hbb⟩
    have Cb := hid (Ca.out.call hbb)
    have Zb := hid (Za.out.keep hbb)
    have Zc := hid hz2
    have Ec := hid ((hbb.block _ (sh_lt Ea.out)).trans Ea.out)
    have Ed := hid ((hbb.block _ (sh_lt Eb.out)).trans Eb.out)
    clear c0 c1 c2 f1 f2 d0 d1 d2 d3 e0 e1 e2 e3 hbb hz2
    obtain ⟨c0, c1, c2, f1, f2⟩ := Cb.out.cells
    obtain ⟨d0, d1, d2, d3⟩ := four_cells Ec.out
    obtain ⟨e0, e1, e2, e3⟩ := four_cells Ed.out
    refine hK _ _ (fun _ _ => ⟨c1, c2, d0, d1, d2, d3, e0, e1, e2, e3⟩) ?_
    clear hK K d0 d1 d2 d3 e0 e1 e2 e3
    refine wpLate_step (i := 8) (by kernel_rfl) rfl rfl fun K hK => ?_
    go_simp
    refine hK _ _ (fun h => absurd rfl h) ?_
    clear hK K
    refine wpLate_step (i := 9) (by kernel_rfl) rfl rfl fun K hK => ?_
    go_simp
    refine hK _ _ (fun _ h => by cases h) ?_
    clear hK K
    refine wpLate_done (by kernel_rfl) ?_
    go_wp2
    have F := (Cb.out.set1 z1).set2 z2
    have N := (Cb.out.nods1 (.pointer z1)).trans ((Cb.out.set1 z1).nods2 (.pointer z2))
    obtain ⟨pp, q1, q2, q3, q4⟩ := Hit.out
    rw [HG.out] at q1
    obtain rfl := (Option.some.inj q1).symm
    exact bodyPost_ret (v := .tuple #[.agg #[.pointer z1], .agg #[.pointer z2]]) (by simp [results, Try.results104, go_sem, c1, c2]) rfl ⟨_, _, .inr (.inr ⟨j, x, _, hlo, hhi, HG.out, q2, q3, q4, .inr ⟨by omega, rfl, rfl⟩⟩), z1, z2, rfl, N.at Zb.out, N.at Zc.out, F.below⟩

/-- A cut at any byte. -/
theorem cut_any (sb : Nat) (pb : Option Addr) (vx vy : Value) (O A : List UInt8) (base : Nat) (t : Tr) (a : Option Addr) (off : Int) (w : World) (hB : ShB w base sb pb vx vy O A) (h : At w t a) (hlo : 0 ≤ off) (hhi : off ≤ t.byt)
    (hw : t.whole) (hf : t.fine) (hg : Gds O A t.list) (hz : t.size + 1 ≤ 1048576) :
    Calls Try.prog 104 #[.pointer (some ⟨sb, 0, none⟩), .agg #[.pointer a], .int .i64 off] w fun e w' => ∃ T U, CutR O A t off T U ∧ CutGave w T U e w' := by
  by_cases h0 : off = 0
  · subst h0
    exact (cut_zero _ t a w (hid h)).mono fun e w' k => ⟨_, _, .inl ⟨rfl, rfl, rfl⟩, k⟩
  · by_cases h1 : off = t.byt
    · subst h1
      exact (cut_all _ t a w (hid h) (by simpa using h0)).mono fun e w' k => ⟨_, _, .inr (.inl ⟨h0, rfl, rfl, rfl⟩), k⟩
    · exact cut_in sb pb vx vy O A base t a off w (hid hB) (hid h) (by simpa using h0) (by simpa using h1) (by omega) (by omega) (hid hw) (hid hf) (hid hg) (hid hz)

/-- What a cut is, in lists and bytes. -/
theorem CutR.ok {O A : List UInt8} {t T U : Tr} {off : Int} (h : CutR O A t off T U) (hw : t.whole) (hg : Gds O A t.list) :
    T.whole ∧ U.whole ∧ Gds O A T.list ∧ Gds O A U.list ∧ txt O A T.list = (txt O A t.list).take off.toNat ∧ txt O A U.list = (txt O A t.list).drop off.toNat ∧ T.size + U.size ≤ t.size + 1 := by
  rcases h with ⟨rfl, rfl, rfl⟩ | ⟨h0, rfl, rfl, rfl⟩ | ⟨j, x, p, h0, h1, hp, hx, hxl, ho, h⟩
  · exact ⟨nil_whole, hw, Gds.nil _ _, hg, by simp [Tr.list, txt_nil], by simp, by simp [Tr.size]⟩
  · have e := txt_len hg
    rw [← byt_list] at e
    refine ⟨hw, nil_whole, hg, Gds.nil _ _, ?_, ?_, by simp [Tr.size]⟩
    · rw [List.take_of_length_le (by omega)]
    · rw [List.drop_eq_nil_of_le (by omega)]; rfl
  · have hlt : j < t.list.length := (List.getElem?_eq_some_iff.1 hp).1
    have hsplit : t.list = t.list.take j ++ p :: t.list.drop (j + 1) := by
      conv => lhs; rw [← List.take_append_drop j t.list]
      rw [List.drop_eq_getElem_cons hlt]
      obtain ⟨_, e⟩ := List.getElem?_eq_some_iff.1 hp
      rw [e]
    have l1 := txt_len (hg.take j)
    have hpg := hg.at hp
    have l2 := hpg.len
    have et : txt O A t.list = txt O A (t.list.take j) ++ (pcs O A p ++ txt O A (t.list.drop (j + 1))) := by
      conv => lhs; rw [hsplit]
      rw [txt_append, txt_cons]
    have s1 := Tr.splitT_whole t j hw.1
    have s2 := Tr.splitT_whole t (j + 1) hw.1
    have q1 := Tr.splitT_list t j
    have q2 := Tr.splitT_list t (j + 1)
    have z := t.size_list
    rcases h with ⟨rfl, rfl, rfl⟩ | ⟨hx0, rfl, rfl⟩
    · have eo : off.toNat = (txt O A (t.list.take j)).length := by omega
      have e2 : txt O A (t.list.drop j) = pcs O A p ++ txt O A (t.list.drop (j + 1)) := by
        rw [List.drop_eq_getElem_cons hlt, txt_cons]
        obtain ⟨_, e⟩ := List.getElem?_eq_some_iff.1 hp
        rw [e]
      have y1 := (Tr.splitT t j).1.size_list
      have y2 := (Tr.splitT t j).2.size_list
      rw [q1.1, List.length_take] at y1
      rw [q1.2, List.length_drop] at y2
      refine ⟨s1.1, s1.2, by rw [q1.1]; exact hg.take j, by rw [q1.2]; exact hg.drop j, ?_, ?_, by omega⟩
      · rw [q1.1, et, eo, List.take_left]
      · rw [q1.2, et, eo, List.drop_left, e2]
    · obtain ⟨g1, g2, g3, _, g5⟩ := cut_good hpg hx0 hxl
      have l3 := g1.len
      simp only [fstP] at l3
      have eo : off.toNat = (txt O A (t.list.take j) ++ pcs O A (fstP O A p x)).length := by rw [List.length_append]; simp only [fstP]; omega
      have m1 : (Tr.joinT (Tr.splitT t j).1 (fstP O A p x) (Tr.mk none)).list = t.list.take j ++ [fstP O A p x] := by rw [Tr.joinT_list, q1.1]; rfl
      have m2 : (Tr.joinT (Tr.mk none) (sndP O A p x) (Tr.splitT t (j + 1)).2).list = sndP O A p x :: t.list.drop (j + 1) := by rw [Tr.joinT_list, q2.2]; rfl
      have et2 : txt O A t.list = (txt O A (t.list.take j) ++ pcs O A (fstP O A p x)) ++ (pcs O A (sndP O A p x) ++ txt O A (t.list.drop (j + 1))) := by
        rw [et, ← g3]; simp
      have y1 := (Tr.joinT (Tr.splitT t j).1 (fstP O A p x) (Tr.mk none)).size_list
      have y2 := (Tr.joinT (Tr.mk none) (sndP O A p x) (Tr.splitT t (j + 1)).2).size_list
      rw [m1] at y1
      rw [m2] at y2
      simp only [List.length_append, List.length_take, List.length_cons, List.length_nil, List.length_drop] at y1 y2
      refine ⟨Tr.joinT_whole _ s1.1 nil_whole, Tr.joinT_whole _ nil_whole s2.2, ?_, ?_, ?_, ?_, by omega⟩
      · rw [m1]; exact (hg.take j).append (Gds.cons g1 (Gds.nil _ _))
      · rw [m2]; exact Gds.cons g2 (hg.drop (j + 1))
      · rw [m1, txt_append, txt_cons, txt_nil, List.append_nil, et2, eo, List.take_left]
      · rw [m2, txt_cons, et2, eo, List.drop_left]

end Go.Proofs.Ytpifjghhlcjedaa
