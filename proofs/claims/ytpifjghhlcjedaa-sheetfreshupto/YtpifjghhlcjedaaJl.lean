/- A sheet's joinLast: a piece put to the end of a tree's last one, if they join. -/
import Derived.Test.YtpifjghhlcjedaaCut
namespace Go.Proofs.Ytpifjghhlcjedaa
open Go.RowKit

/-- joinLast's own variables behind w. -/
structure Jw (w W : World) (a : Option Addr) (p : Pc) : Prop where
  below : Below w.heap.size w W
  b0 : W.heap[w.heap.size]? = some (.cells #[.pointer a] 26 (0, 0))
  b1 : W.heap[w.heap.size + 1]? = some (.cells #[.int .i64 p.s, .int .i64 p.o, .int .i64 p.l, .int .i64 p.n] 32 (0, 0))
  b2 : W.heap[w.heap.size + 1 + 1]? = some (.cells #[.pointer none] 26 (0, 0))
  b3 : W.heap[w.heap.size + 1 + 1 + 1]? = some (.cells #[.int .i64 0, .int .i64 0, .int .i64 0, .int .i64 0] 32 (0, 0))

theorem Jw.new (w : World) (a : Option Addr) (p : Pc) : Jw w ((((w.alloc (.cells #[.pointer a] 26)).alloc (.cells #[.int .i64 p.s, .int .i64 p.o, .int .i64 p.l, .int .i64 p.n] 32)).alloc (.cells #[.pointer none] 26)).alloc (.cells #[.int .i64 0, .int .i64 0, .int .i64 0, .int .i64 0] 32)) a p :=
  ⟨bAlloc (bAAA w _ _ _) _, (((Below.heap_alloc _ _ _ (by simp; omega)).trans (Below.heap_alloc _ _ _ (by simp; omega))).trans (Below.heap_alloc _ _ _ (by simp))).trans (World.alloc_heap_new w _),
    ((Below.heap_alloc _ _ _ (by simp)).trans (Below.heap_alloc _ _ _ (by simp))).trans (alloc2_here w _ _), (Below.heap_alloc _ _ _ (by simp)).trans (alloc3_here w _ _ _), by
      have := World.alloc_heap_new (((w.alloc (.cells #[.pointer a] 26)).alloc (.cells #[.int .i64 p.s, .int .i64 p.o, .int .i64 p.l, .int .i64 p.n] 32)).alloc (.cells #[.pointer none] 26)) (.cells #[.int .i64 0, .int .i64 0, .int .i64 0, .int .i64 0] 32)
      simpa using this⟩
theorem Jw.call {w W W' : World} {a : Option Addr} {p : Pc} (h : Jw w W a p) (hb : Below W.heap.size W W') : Jw w W' a p :=
  ⟨h.below.trans (hb.mono h.below.size), (hb.block _ (sh_lt h.b0)).trans h.b0, (hb.block _ (sh_lt h.b1)).trans h.b1, (hb.block _ (sh_lt h.b2)).trans h.b2, (hb.block _ (sh_lt h.b3)).trans h.b3⟩
theorem Jw.cells {w W : World} {a : Option Addr} {p : Pc} (h : Jw w W a p) :
    W.cell? ⟨w.heap.size, 0, none⟩ = some (.pointer a) ∧ (W.cell? ⟨w.heap.size + 1, 0, none⟩ = some (.int .i64 p.s) ∧ W.cell? ⟨w.heap.size + 1, 1, none⟩ = some (.int .i64 p.o) ∧ W.cell? ⟨w.heap.size + 1, 2, none⟩ = some (.int .i64 p.l) ∧ W.cell? ⟨w.heap.size + 1, 3, none⟩ = some (.int .i64 p.n)) :=
  ⟨(box_cell h.b0).1, four_cells h.b1⟩

theorem Jw.frees {w W : World} {a : Option Addr} {p : Pc} (h : Jw w W a p) :
    W.cell? ⟨w.heap.size + 1 + 1, 0, none⟩ = some (.pointer none) ∧ W.frozen? ⟨w.heap.size + 1 + 1, 0, none⟩ = false ∧ (W.cell? ⟨w.heap.size + 1 + 1 + 1, 0, none⟩ = some (.int .i64 0) ∧ W.cell? ⟨w.heap.size + 1 + 1 + 1, 1, none⟩ = some (.int .i64 0) ∧ W.cell? ⟨w.heap.size + 1 + 1 + 1, 2, none⟩ = some (.int .i64 0) ∧ W.cell? ⟨w.heap.size + 1 + 1 + 1, 3, none⟩ = some (.int .i64 0)) ∧ ∀ i, W.frozen? ⟨w.heap.size + 1 + 1 + 1, i, none⟩ = false :=
  ⟨(box_cell h.b2).1, (box_cell h.b2).2, four_cells h.b3, free_all h.b3⟩

/-- What joinLast gives. -/
def JlGave (w : World) (T : Tr) (q : Pc) (b : Bool) (e : Ending) (w' : World) : Prop := ∃ x, e = .returned (.tuple #[.agg #[.pointer x], q.v, .bool b]) ∧ At w' T x ∧ Below w.heap.size w w'

/-- The four cells of b3 stored, and the one of b2: nodes lie on. -/
theorem Jw.fin {w W : World} {a : Option Addr} {p : Pc} (h : Jw w W a p) (x : Option Addr) (v1 v2 v3 v4 v5 : Value) {T : Tr} (hT : At W T x) :
    At (((((W.setCell ⟨w.heap.size + 1 + 1, 0, none⟩ v1).setCell ⟨w.heap.size + 1 + 1 + 1, 0, none⟩ v2).setCell ⟨w.heap.size + 1 + 1 + 1, 1, none⟩ v3).setCell ⟨w.heap.size + 1 + 1 + 1, 2, none⟩ v4).setCell ⟨w.heap.size + 1 + 1 + 1, 3, none⟩ v5) T x ∧
    Below w.heap.size w (((((W.setCell ⟨w.heap.size + 1 + 1, 0, none⟩ v1).setCell ⟨w.heap.size + 1 + 1 + 1, 0, none⟩ v2).setCell ⟨w.heap.size + 1 + 1 + 1, 1, none⟩ v3).setCell ⟨w.heap.size + 1 + 1 + 1, 2, none⟩ v4).setCell ⟨w.heap.size + 1 + 1 + 1, 3, none⟩ v5) := by
  have u1 : w.heap.size ≤ w.heap.size + 1 + 1 := by omega
  have u2 : w.heap.size ≤ w.heap.size + 1 + 1 + 1 := by omega
  refine ⟨?_, bset (bset (bset (bset (bset h.below u1 _ _) u2 _ _) u2 _ _) u2 _ _) u2 _ _⟩
  refine Nods.at (w := W) (fun b cs hb => ?_) hT
  have e1 : b ≠ w.heap.size + 1 + 1 := fun e => by subst e; rw [h.b2] at hb; cases hb
  have e2 : b ≠ w.heap.size + 1 + 1 + 1 := fun e => by subst e; rw [h.b3] at hb; cases hb
  rw [Below.heap_setCell _ _ _ _ e2, Below.heap_setCell _ _ _ _ e2, Below.heap_setCell _ _ _ _ e2, Below.heap_setCell _ _ _ _ e2, Below.heap_setCell _ _ _ _ e1]
  exact hb

set_option maxHeartbeats 4000000 in
/-- A tree without pieces. -/
theorem joinLast_nil (t : Tr) (a : Option Addr) (s o l n : Int) (w : World) (h : Hid (At w t a)) (h0 : Hid (t.size = 0)) (hl1 : -9223372036854775808 ≤ l) (hl2 : l ≤ 9223372036854775807) :
    Calls Try.prog 105 #[.agg #[.pointer a], .agg #[.int .i64 s, .int .i64 o, .int .i64 l, .int .i64 n]] w (JlGave w t ⟨s, o, l, n⟩ false) := by
  have hJ := Jw.new w a ⟨s, o, l, n⟩
  obtain ⟨W0, hW0⟩ : ∃ W0, (((w.alloc (.cells #[.pointer a] 26)).alloc (.cells #[.int .i64 s, .int .i64 o, .int .i64 l, .int .i64 n] 32)).alloc (.cells #[.pointer none] 26)).alloc (.cells #[.int .i64 0, .int .i64 0, .int .i64 0, .int .i64 0] 32) = W0 := ⟨_, rfl⟩
  rw [hW0] at hJ
  obtain ⟨c0, c1, c2, c3, c4⟩ := hJ.cells
  have HJ := hid hJ
  clear hJ
  have HL : Hid (∀ W, At W t a → Calls Try.prog 19 #[.agg #[.pointer a]] W fun e w' => e = .returned (.int .i64 0) ∧ w' = W.alloc (.cells #[.pointer a] 26)) := fun W hW => by
    have := Len_any t a W hW
    rwa [h0.out] at this
  have HG : Hid (∀ W, At W t a → Calls Try.prog 24 #[.agg #[.pointer a], .int .i64 (-1)] W fun e w' => e = .returned (.tuple #[.agg #[.int .i64 0, .int .i64 0, .int .i64 0, .int .i64 0], .int .i64 20]) ∧ Below W.heap.size W w') := fun W hW => Get_no t a (-1) W (by simp) hW
  have HJn : Hid (∀ W, Calls Try.prog 117 #[.agg #[.int .i64 0, .int .i64 0, .int .i64 0], .agg #[.int .i64 s, .int .i64 o, .int .i64 l]] W fun e w' => ∃ (x y z : Int) (b : Bool), e = .returned (.tuple #[.agg #[.int .i64 x, .int .i64 y, .int .i64 z], .bool b]) ∧ Below W.heap.size W w') := fun W => by
    cases hj : Ab.jnB 0 0 0 s o l with
    | true => exact (Ab.joins_yes 0 0 0 s o l W hj).mono fun e w' h => ⟨_, _, _, _, h.1, h.2⟩
    | false => exact (Ab.joins_no 0 0 0 s o l W (by decide) (by decide) hl1 hl2 hj).mono fun e w' h => ⟨_, _, _, _, h.1, h.2⟩
  go_enter Try.func105, Try.ntmps105
  go_wp2_with (first
    | (go_at_call 19; refine (HL.out _ (h.out.keep HJ.out.below)).mono ?_; rintro e w9 ⟨rfl, hw9⟩; have J9 := hid (HJ.out.call (bAlloc (Below.refl _ _) (.cells #[.pointer a] 26))); rw [← hw9] at J9; clear c0 c1 c2 c3 c4 hw9 hW0; obtain ⟨c0, c1, c2, c3, c4⟩ := J9.out.cells)
    | (go_at_call 24; refine (HG.out _ (h.out.keep J9.out.below)).mono ?_; rintro e w8 ⟨rfl, hb8⟩; have J8 := hid ((J9.out.call hb8).call (bAlloc (Below.refl _ _) (.cells #[.int .i64 0, .int .i64 0, .int .i64 0, .int .i64 0] 32))); clear c0 c1 c2 c3 c4 hb8; obtain ⟨c0, c1, c2, c3, c4⟩ := J8.out.cells)
    | (go_at_call 117; refine (HJn.out _).mono ?_; rintro e w7 ⟨x7, y7, z7, b7, rfl, hb7⟩; have J7 := hid ((J8.out.call hb7).call (bAlloc (Below.refl _ _) (.cells #[.int .i64 x7, .int .i64 y7, .int .i64 z7] 30))); clear c0 c1 c2 c3 c4 hb7; obtain ⟨c0, c1, c2, c3, c4⟩ := J7.out.cells))
  clear c0 c1 c2 c3 c4
  generalize w7.alloc (.cells #[.int .i64 x7, .int .i64 y7, .int .i64 z7] 30) = w6 at *
  obtain ⟨c0, c1, c2, c3, c4⟩ := J7.out.cells
  obtain ⟨d0, d1, ⟨d2, d3, d4, d5⟩, d6⟩ := J7.out.frees
  go_region
  go_wp2
  obtain ⟨F1, F2⟩ := J7.out.fin a (.pointer a) (.int .i64 s) (.int .i64 o) (.int .i64 l) (.int .i64 n) (h.out.keep J7.out.below)
  exact bodyPost_ret (v := .tuple #[.agg #[.pointer a], .agg #[.int .i64 s, .int .i64 o, .int .i64 l, .int .i64 n], .bool false]) (by simp [results, Try.results105, go_sem, d0, d2, d3, d4, d5]) rfl ⟨a, rfl, F1.drew, F2.drew⟩

set_option maxHeartbeats 4000000 in
/-- The last piece does not join. -/
theorem joinLast_no (t : Tr) (a : Option Addr) (m : Nat) (ps po pl pn : Int) (s o l n : Int) (w : World) (h : Hid (At w t a)) (hm : Hid (m + 1 = t.size)) (hf : Hid t.fine) (hl : Hid (t.list[m]? = some ⟨ps, po, pl, pn⟩)) (hb1 : -9223372036854775808 ≤ l) (hb2 : l ≤ 9223372036854775807) (hb3 : -9223372036854775808 ≤ pl) (hb4 : pl ≤ 9223372036854775807) (hj : Ab.jnB ps po pl s o l = false) :
    Calls Try.prog 105 #[.agg #[.pointer a], .agg #[.int .i64 s, .int .i64 o, .int .i64 l, .int .i64 n]] w (JlGave w t ⟨s, o, l, n⟩ false) := by
  have hJ := Jw.new w a ⟨s, o, l, n⟩
  obtain ⟨W0, hW0⟩ : ∃ W0, (((w.alloc (.cells #[.pointer a] 26)).alloc (.cells #[.int .i64 s, .int .i64 o, .int .i64 l, .int .i64 n] 32)).alloc (.cells #[.pointer none] 26)).alloc (.cells #[.int .i64 0, .int .i64 0, .int .i64 0, .int .i64 0] 32) = W0 := ⟨_, rfl⟩
  rw [hW0] at hJ
  obtain ⟨c0, c1, c2, c3, c4⟩ := hJ.cells
  have HJ := hid hJ
  clear hJ
  have HL : Hid (∀ W, At W t a → Calls Try.prog 19 #[.agg #[.pointer a]] W fun e w' => e = .returned (.int .i64 ((m : Int) + 1)) ∧ w' = W.alloc (.cells #[.pointer a] 26)) := fun W hW => by
    have := Len_any t a W hW
    rwa [← hm.out, Int.natCast_succ] at this
  have HG : Hid (∀ W, At W t a → Calls Try.prog 24 #[.agg #[.pointer a], .int .i64 (m : Int)] W fun e w' => e = .returned (.tuple #[.agg #[.int .i64 ps, .int .i64 po, .int .i64 pl, .int .i64 pn], .int .i64 0]) ∧ Below W.heap.size W w') := fun W hW =>
    (Get_yes t a m W (by have := hm.out; omega) hf.out.2 hW).mono fun e w' ⟨s1, o1, n1, k1, h1, h2, h3⟩ => by
      rw [hl.out] at h1
      cases h1
      exact ⟨h2, h3⟩
  have hmb : m ≤ 1048576 := by have := hm.out; have := hf.out.2; omega
  have HJn : Hid (∀ W, Calls Try.prog 117 #[.agg #[.int .i64 ps, .int .i64 po, .int .i64 pl], .agg #[.int .i64 s, .int .i64 o, .int .i64 l]] W fun e w' => e = .returned (.tuple #[.agg #[.int .i64 0, .int .i64 0, .int .i64 0], .bool false]) ∧ Below W.heap.size W w') := fun W => Ab.joins_no ps po pl s o l W hb3 hb4 hb1 hb2 hj
  go_enter Try.func105, Try.ntmps105
  go_wp2_with (first
    | (go_at_call 19; refine (HL.out _ (h.out.keep HJ.out.below)).mono ?_; rintro e w9 ⟨rfl, hw9⟩; have J9 := hid (HJ.out.call (bAlloc (Below.refl _ _) (.cells #[.pointer a] 26))); rw [← hw9] at J9; clear c0 c1 c2 c3 c4 hw9 hW0; obtain ⟨c0, c1, c2, c3, c4⟩ := J9.out.cells)
    | (go_at_call 24; refine (HG.out _ (h.out.keep J9.out.below)).mono ?_; rintro e w8 ⟨rfl, hb8⟩; have J8 := hid ((J9.out.call hb8).call (bAlloc (Below.refl _ _) (.cells #[.int .i64 ps, .int .i64 po, .int .i64 pl, .int .i64 pn] 32))); have P8 := hid (World.alloc_heap_new w8 (.cells #[.int .i64 ps, .int .i64 po, .int .i64 pl, .int .i64 pn] 32)); clear c0 c1 c2 c3 c4 hb8; obtain ⟨c0, c1, c2, c3, c4⟩ := J8.out.cells)
    | (go_at_call 117; refine (HJn.out _).mono ?_; rintro e w7 ⟨rfl, hb7⟩; have J7 := hid ((J8.out.call hb7).call (bAlloc (Below.refl _ _) (.cells #[.int .i64 0, .int .i64 0, .int .i64 0] 30))); have P7 := hid ((Below.heap_alloc w7 (.cells #[.int .i64 0, .int .i64 0, .int .i64 0] 30) _ (sh_lt ((hb7.block _ (sh_lt P8.out)).trans P8.out))).trans ((hb7.block _ (sh_lt P8.out)).trans P8.out)); clear c0 c1 c2 c3 c4 hb7; obtain ⟨c0, c1, c2, c3, c4⟩ := J7.out.cells))
  clear c0 c1 c2 c3 c4
  generalize w7.alloc (.cells #[.int .i64 0, .int .i64 0, .int .i64 0] 30) = w6 at *
  obtain ⟨c0, c1, c2, c3, c4⟩ := J7.out.cells
  obtain ⟨d0, d1, ⟨d2, d3, d4, d5⟩, d6⟩ := J7.out.frees
  go_region
  go_wp2
  obtain ⟨F1, F2⟩ := J7.out.fin a (.pointer a) (.int .i64 s) (.int .i64 o) (.int .i64 l) (.int .i64 n) (h.out.keep J7.out.below)
  exact bodyPost_ret (v := .tuple #[.agg #[.pointer a], .agg #[.int .i64 s, .int .i64 o, .int .i64 l, .int .i64 n], .bool false]) (by simp [results, Try.results105, go_sem, d0, d2, d3, d4, d5]) rfl ⟨a, rfl, F1.drew, F2.drew⟩

set_option maxHeartbeats 4000000 in
/-- The last piece joins. -/
theorem joinLast_yes (t : Tr) (a : Option Addr) (m : Nat) (ps po pl pn : Int) (s o l n : Int) (w : World) (h : Hid (At w t a)) (hm : Hid (m + 1 = t.size)) (hf : Hid t.fine) (hl : Hid (t.list[m]? = some ⟨ps, po, pl, pn⟩)) (_hb1 : -9223372036854775808 ≤ l) (_hb2 : l ≤ 9223372036854775807) (_hb3 : -9223372036854775808 ≤ pl) (_hb4 : pl ≤ 9223372036854775807) (hj : Ab.jnB ps po pl s o l = true) (hw : Hid t.whole) (hn1 : 0 ≤ pn ∧ pn ≤ 4294967296) (hn2 : 0 ≤ n ∧ n ≤ 4294967296) :
    Calls Try.prog 105 #[.agg #[.pointer a], .agg #[.int .i64 s, .int .i64 o, .int .i64 l, .int .i64 n]] w (JlGave w (Tr.splitT t m).1 ⟨ps, po, pl + l, pn + n⟩ true) := by
  have hJ := Jw.new w a ⟨s, o, l, n⟩
  obtain ⟨W0, hW0⟩ : ∃ W0, (((w.alloc (.cells #[.pointer a] 26)).alloc (.cells #[.int .i64 s, .int .i64 o, .int .i64 l, .int .i64 n] 32)).alloc (.cells #[.pointer none] 26)).alloc (.cells #[.int .i64 0, .int .i64 0, .int .i64 0, .int .i64 0] 32) = W0 := ⟨_, rfl⟩
  rw [hW0] at hJ
  obtain ⟨c0, c1, c2, c3, c4⟩ := hJ.cells
  have HJ := hid hJ
  clear hJ
  have HL : Hid (∀ W, At W t a → Calls Try.prog 19 #[.agg #[.pointer a]] W fun e w' => e = .returned (.int .i64 ((m : Int) + 1)) ∧ w' = W.alloc (.cells #[.pointer a] 26)) := fun W hW => by
    have := Len_any t a W hW
    rwa [← hm.out, Int.natCast_succ] at this
  have HG : Hid (∀ W, At W t a → Calls Try.prog 24 #[.agg #[.pointer a], .int .i64 (m : Int)] W fun e w' => e = .returned (.tuple #[.agg #[.int .i64 ps, .int .i64 po, .int .i64 pl, .int .i64 pn], .int .i64 0]) ∧ Below W.heap.size W w') := fun W hW =>
    (Get_yes t a m W (by have := hm.out; omega) hf.out.2 hW).mono fun e w' ⟨s1, o1, n1, k1, h1, h2, h3⟩ => by
      rw [hl.out] at h1
      cases h1
      exact ⟨h2, h3⟩
  have hmb : m ≤ 1048576 := by have := hm.out; have := hf.out.2; omega
  have HJn : Hid (∀ W, Calls Try.prog 117 #[.agg #[.int .i64 ps, .int .i64 po, .int .i64 pl], .agg #[.int .i64 s, .int .i64 o, .int .i64 l]] W fun e w' => e = .returned (.tuple #[.agg #[.int .i64 ps, .int .i64 po, .int .i64 (pl + l)], .bool true]) ∧ Below W.heap.size W w') := fun W => Ab.joins_yes ps po pl s o l W hj
  have HSp : Hid (∀ W, At W t a → Calls Try.prog 15 #[.agg #[.pointer a], .int .i64 (m : Int)] W fun e w' => ∃ x y, e = .returned (.tuple #[.agg #[.pointer x], .agg #[.pointer y], .int .i64 0]) ∧ At w' (Tr.splitT t m).1 x ∧ At w' (Tr.splitT t m).2 y ∧ Below W.heap.size W w') := fun W hW => Split_yes t a m W (show m ≤ t.size from by have := hm.out; omega) hf hw hW
  go_enter Try.func105, Try.ntmps105
  go_wp2_with (first
    | (go_at_call 19; refine (HL.out _ (h.out.keep HJ.out.below)).mono ?_; rintro e w9 ⟨rfl, hw9⟩; have J9 := hid (HJ.out.call (bAlloc (Below.refl _ _) (.cells #[.pointer a] 26))); rw [← hw9] at J9; clear c0 c1 c2 c3 c4 hw9 hW0; obtain ⟨c0, c1, c2, c3, c4⟩ := J9.out.cells)
    | (go_at_call 24; refine (HG.out _ (h.out.keep J9.out.below)).mono ?_; rintro e w8 ⟨rfl, hb8⟩; have J8 := hid ((J9.out.call hb8).call (bAlloc (Below.refl _ _) (.cells #[.int .i64 ps, .int .i64 po, .int .i64 pl, .int .i64 pn] 32))); have P8 := hid (World.alloc_heap_new w8 (.cells #[.int .i64 ps, .int .i64 po, .int .i64 pl, .int .i64 pn] 32)); clear c0 c1 c2 c3 c4 hb8; obtain ⟨c0, c1, c2, c3, c4⟩ := J8.out.cells)
    | (go_at_call 117; refine (HJn.out _).mono ?_; rintro e w7 ⟨rfl, hb7⟩; have J7 := hid ((J8.out.call hb7).call (bAlloc (Below.refl _ _) (.cells #[.int .i64 ps, .int .i64 po, .int .i64 (pl + l)] 30))); have P7 := hid ((Below.heap_alloc w7 (.cells #[.int .i64 ps, .int .i64 po, .int .i64 (pl + l)] 30) _ (sh_lt ((hb7.block _ (sh_lt P8.out)).trans P8.out))).trans ((hb7.block _ (sh_lt P8.out)).trans P8.out)); clear c0 c1 c2 c3 c4 hb7; obtain ⟨c0, c1, c2, c3, c4⟩ := J7.out.cells; have Q7 := hid (World.alloc_heap_new w7 (.cells #[.int .i64 ps, .int .i64 po, .int .i64 (pl + l)] 30)))
    | (go_at_call 15; refine (HSp.out _ (h.out.keep J7.out.below)).mono ?_; rintro e w5 ⟨x5, y5, rfl, hx5, hy5, hb5⟩; have J5 := hid (J7.out.call hb5); have X5 := hid hx5; have P5 := hid ((hb5.block _ (sh_lt P7.out)).trans P7.out); have Q5 := hid ((hb5.block _ (sh_lt Q7.out)).trans Q7.out); clear c0 c1 c2 c3 c4 hb5 hx5 hy5))
  have J4 := hid (J5.out.call (bAA w5 (.cells #[.pointer x5] 26) (.cells #[.pointer y5] 26)))
  have X4 := hid (X5.out.keep (bAA w5 (.cells #[.pointer x5] 26) (.cells #[.pointer y5] 26)))
  have P4 := hid (((bAA w5 (.cells #[.pointer x5] 26) (.cells #[.pointer y5] 26)).block _ (sh_lt P5.out)).trans P5.out)
  have Q4 := hid (((bAA w5 (.cells #[.pointer x5] 26) (.cells #[.pointer y5] 26)).block _ (sh_lt Q5.out)).trans Q5.out)
  have R4 := hid ((Below.heap_alloc (w5.alloc (.cells #[.pointer x5] 26)) (.cells #[.pointer y5] 26) w5.heap.size (by simp)).trans (World.alloc_heap_new w5 (.cells #[.pointer x5] 26)))
  generalize (w5.alloc (.cells #[.pointer x5] 26)).alloc (.cells #[.pointer y5] 26) = w4 at *
  obtain ⟨c0, c1, c2, c3, c4⟩ := J4.out.cells
  obtain ⟨d0, d1, ⟨d2, d3, d4, d5⟩, d6⟩ := J4.out.frees
  obtain ⟨e0, e1, e2, e3⟩ := four_cells P4.out
  obtain ⟨f0, f1, f2⟩ := three_cells Q4.out
  obtain ⟨g0, g1⟩ := box_cell R4.out
  have n5 : w.heap.size + 1 + 1 + 1 < w5.heap.size := sh_lt J5.out.b3
  have n8 : ¬ (w8.heap.size = w.heap.size + 1 + 1) := fun e => by have a := P5.out; rw [e, J5.out.b2] at a; cases a
  have n7 : ¬ (w7.heap.size = w.heap.size + 1 + 1) := fun e => by have a := Q5.out; rw [e, J5.out.b2] at a; cases a
  have n6 : ¬ (w5.heap.size = w.heap.size + 1 + 1) := by omega
  generalize w7.heap.size = B7 at *
  generalize w8.heap.size = B8 at *
  generalize w5.heap.size = B5 at *
  obtain ⟨F1, F2⟩ := J4.out.fin x5 (.pointer x5) (.int .i64 ps) (.int .i64 po) (.int .i64 (pl + l)) (.int .i64 (pn + n)) X4.out
  have H1 := hid F1
  have H2 := hid F2
  clear F1 F2
  go_region
  go_wp2
  exact bodyPost_ret (v := .tuple #[.agg #[.pointer x5], .agg #[.int .i64 ps, .int .i64 po, .int .i64 (pl + l), .int .i64 (pn + n)], .bool true]) (by simp [results, Try.results105, go_sem, d0, d2, d3, d4, d5]) rfl ⟨x5, rfl, H1.out.drew, H2.out.drew⟩

/-- How a piece is put to the end of a tree. -/
def JoinR (t : Tr) (p : Pc) (T : Tr) (q : Pc) (b : Bool) : Prop :=
  (b = false ∧ T = t ∧ q = p ∧ ∀ m r, m + 1 = t.size → t.list[m]? = some r → Ab.jnB r.s r.o r.l p.s p.o p.l = false) ∨
  (b = true ∧ ∃ m r, m + 1 = t.size ∧ t.list[m]? = some r ∧ Ab.jnB r.s r.o r.l p.s p.o p.l = true ∧ T = (Tr.splitT t m).1 ∧ q = bothP r p)

theorem joinLast_any (t : Tr) (a : Option Addr) (p : Pc) (w : World) (h : At w t a) (hf : t.fine) (hw : t.whole) (h1 : -9223372036854775808 ≤ p.l) (h2 : p.l ≤ 9223372036854775807) (hn : 0 ≤ p.n ∧ p.n ≤ 4294967296) :
    Calls Try.prog 105 #[.agg #[.pointer a], p.v] w fun e w' => ∃ T q b, JoinR t p T q b ∧ JlGave w T q b e w' := by
  obtain ⟨s, o, l, n⟩ := p
  rcases Nat.eq_zero_or_pos t.size with h0 | h0
  · exact (joinLast_nil t a s o l n w (hid h) (hid h0) h1 h2).mono fun e w' k => ⟨_, _, _, .inl ⟨rfl, rfl, rfl, fun m r hm => by omega⟩, k⟩
  · obtain ⟨m, hm⟩ : ∃ m, m + 1 = t.size := ⟨t.size - 1, by omega⟩
    have hlt : m < t.list.length := by have := t.size_list; omega
    obtain ⟨⟨ps, po, pl, pn⟩, hr⟩ : ∃ r, t.list[m]? = some r := ⟨_, List.getElem?_eq_getElem hlt⟩
    have hfit := ((Tr.fine_list t).1 hf).1 _ (List.mem_of_getElem? hr)
    simp only [Pc.fit] at hfit
    cases hj : Ab.jnB ps po pl s o l with
    | false => exact (joinLast_no t a m ps po pl pn s o l n w (hid h) (hid hm) (hid hf) (hid hr) h1 h2 (by omega) (by omega) hj).mono fun e w' k => ⟨_, _, _, .inl ⟨rfl, rfl, rfl, fun m' r hm' hr' => by
        obtain rfl : m' = m := by omega
        rw [hr] at hr'
        cases hr'
        exact hj⟩, k⟩
    | true => exact (joinLast_yes t a m ps po pl pn s o l n w (hid h) (hid hm) (hid hf) (hid hr) h1 h2 (by omega) (by omega) hj (hid hw) ⟨by omega, by omega⟩ hn).mono fun e w' k => ⟨_, _, _, .inr ⟨rfl, m, _, hm, hr, hj, rfl, rfl⟩, k⟩

end Go.Proofs.Ytpifjghhlcjedaa
