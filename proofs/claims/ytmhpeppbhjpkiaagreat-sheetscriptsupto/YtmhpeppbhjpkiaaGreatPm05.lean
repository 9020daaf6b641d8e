/- The contracts of Join, Split, Insert and Set, as the law calls them. -/
import Derived.Test.YtmhpeppbhjpkiaaGreatPm04
namespace Go.Proofs.YtmhpeppbhjpkiaaGreat
open Go.RowKit

theorem bA3 {w w' : World} {x y z : Obj} (h : Below (((w.alloc x).alloc y).alloc z).heap.size (((w.alloc x).alloc y).alloc z) w') : Below w.heap.size w w' := bA (bA2 h)
theorem bA4 {w w' : World} {x y z u : Obj} (h : Below ((((w.alloc x).alloc y).alloc z).alloc u).heap.size ((((w.alloc x).alloc y).alloc z).alloc u) w') : Below w.heap.size w w' := bA (bA3 h)
theorem alloc4_here (w : World) (x y z u : Obj) : ((((w.alloc x).alloc y).alloc z).alloc u).heap[w.heap.size + 1 + 1 + 1]? = some u := by
  have := heap_alloc_new (((w.alloc x).alloc y).alloc z) u
  simpa using this
theorem bAAAA (w : World) (x y z u : Obj) : Below w.heap.size w ((((w.alloc x).alloc y).alloc z).alloc u) := bAlloc (bAAA w x y z) _

theorem fit_below (s o n k : Int) (w : World) : Calls Tryz.prog 50 #[.agg #[.int .i64 s, .int .i64 o, .int .i64 n, .int .i64 k]] w fun e w' => e = .returned (.bool (fitB n k)) ∧ Below w.heap.size w w' := by
  refine (fit_any s o n k w).mono ?_
  rintro e w' ⟨rfl, rfl⟩
  exact ⟨rfl, bAlloc (Below.refl _ _) _⟩

set_option maxHeartbeats 1000000 in
theorem Split_no (t : Tr) (a : Option Addr) (i : Int) (w : World) (hd : decide (0 ≤ i ∧ i ≤ (t.size : Int)) = false) (h : Hid (At w t a)) :
    Calls Tryz.prog 77 #[.agg #[.pointer a], .int .i64 i] w fun e w' => e = .returned (.tuple #[.agg #[.pointer none], .agg #[.pointer none], .int .i64 20]) ∧ Below w.heap.size w w' := by
  go_enter Tryz.func77, Tryz.ntmps77
  go_wp2_with (first | (go_at_call 109; refine (hasGap_any t _ _ _ (((h.out.alloc _).alloc _).alloc _)).mono ?_; rw [hd]; rintro e w9 ⟨rfl, hb9⟩; obtain ⟨c9, f9⟩ := bcell hb9))
  refine bodyPost_ret (v := .tuple #[.agg #[.pointer none], .agg #[.pointer none], .int .i64 20]) (by simp [results, Tryz.results77, go_sem, c9]) rfl ⟨rfl, ((bA3 hb9).setCell (p := ⟨w.heap.size + 1, 0, none⟩) (by simp) _).setCell (p := ⟨w.heap.size + 1 + 1, 0, none⟩) (by simp; omega) _⟩
end Go.Proofs.YtmhpeppbhjpkiaaGreat

/- The contracts of Join and of Split's good way. -/
namespace Go.Proofs.YtmhpeppbhjpkiaaGreat
open Go.RowKit

set_option maxHeartbeats 1000000 in
theorem Join_fit (l r : Tr) (la ra : Option Addr) (s o n k : Int) (w : World) (hf : fitB n k = true) (hz : Hid (fineL (l.list ++ ⟨s, o, n, k⟩ :: r.list))) (wl : Hid l.whole) (wr : Hid r.whole) (hl : Hid (At w l la)) (hr : Hid (At w r ra)) :
    Calls Tryz.prog 20 #[.agg #[.pointer la], .agg #[.int .i64 s, .int .i64 o, .int .i64 n, .int .i64 k], .agg #[.pointer ra]] w fun e w' => ∃ x, e = .returned (.agg #[.pointer x]) ∧ At w' (Tr.joinT l ⟨s, o, n, k⟩ r) x ∧ Below w.heap.size w w' := by
  go_enter Tryz.func20, Tryz.ntmps20
  go_wp2_with (first | (go_at_call 50; (have Q := fit_below s o n k ((((w.alloc (.cells #[.pointer la] 53)).alloc (.cells #[.int .i64 s, .int .i64 o, .int .i64 n, .int .i64 k] 59)).alloc (.cells #[.pointer ra] 53)).alloc (.cells #[.pointer none] 53))); rw [hf] at Q; refine Q.mono ?_; clear Q; rintro e w8 ⟨rfl, hb8⟩; obtain ⟨c8, f8⟩ := bcell hb8)
                     | (go_at_call 52; refine (join_any s o n k l r la ra _ hz wl wr (((((hl.out.alloc _).alloc _).alloc _).alloc _).keep hb8) (((((hr.out.alloc _).alloc _).alloc _).alloc _).keep hb8)).mono ?_; rintro e w6 ⟨z6, rfl, hz6, hb6⟩; have L6 := hb8.trans (hb6.mono hb8.size); obtain ⟨c6, f6⟩ := bcell L6))
  have F := fin1 (v := .pointer z6) (alloc4_here w _ _ _ _) L6 (by omega) (bAAAA w _ _ _ _) hz6
  refine bodyPost_ret (v := .agg #[.pointer z6]) (by simp [results, Tryz.results20, go_sem, c6]) rfl ⟨z6, rfl, F.1, F.2⟩

set_option maxHeartbeats 1000000 in
theorem Join_glue (l r : Tr) (la ra : Option Addr) (s o n k : Int) (w : World) (hf : fitB n k = false) (hz : Hid (fineL (l.list ++ r.list))) (wl : Hid l.whole) (wr : Hid r.whole) (hl : Hid (At w l la)) (hr : Hid (At w r ra)) :
    Calls Tryz.prog 20 #[.agg #[.pointer la], .agg #[.int .i64 s, .int .i64 o, .int .i64 n, .int .i64 k], .agg #[.pointer ra]] w fun e w' => ∃ x, e = .returned (.agg #[.pointer x]) ∧ At w' (Tr.gluT l r) x ∧ Below w.heap.size w w' := by
  go_enter Tryz.func20, Tryz.ntmps20
  go_wp2_with (first | (go_at_call 50; (have Q := fit_below s o n k ((((w.alloc (.cells #[.pointer la] 53)).alloc (.cells #[.int .i64 s, .int .i64 o, .int .i64 n, .int .i64 k] 59)).alloc (.cells #[.pointer ra] 53)).alloc (.cells #[.pointer none] 53))); rw [hf] at Q; refine Q.mono ?_; clear Q; rintro e w8 ⟨rfl, hb8⟩; obtain ⟨c8, f8⟩ := bcell hb8)
                     | (go_at_call 51; refine (together_any l r la ra _ hz.out wl.out wr.out (((((hl.out.alloc _).alloc _).alloc _).alloc _).keep hb8) (((((hr.out.alloc _).alloc _).alloc _).alloc _).keep hb8)).mono ?_; rintro e w6 ⟨z6, rfl, hz6, hb6⟩; have L6 := hb8.trans (hb6.mono hb8.size); obtain ⟨c6, f6⟩ := bcell L6))
  have F := fin1 (v := .pointer z6) (alloc4_here w _ _ _ _) L6 (by omega) (bAAAA w _ _ _ _) hz6
  refine bodyPost_ret (v := .agg #[.pointer z6]) (by simp [results, Tryz.results20, go_sem, c6]) rfl ⟨z6, rfl, F.1, F.2⟩

/-- two trees stored into two blocks of the answer's own -/
theorem fin2 {w W w8 : World} {b1 b2 : Nat} {T U : Tr} {x y : Option Addr} {v u : Value} (h1 : W.heap[b1]? = some (Obj.cells #[.pointer none] 53 (0, 0))) (h2 : W.heap[b2]? = some (Obj.cells #[.pointer none] 53 (0, 0))) (hne : b2 ≠ b1) (L : Below W.heap.size W w8) (hb1 : w.heap.size ≤ b1) (hb2 : w.heap.size ≤ b2) (hw : Below w.heap.size w W) (hx : At w8 T x) (hy : At w8 U y) :
    At ((w8.setCell ⟨b1, 0, none⟩ v).setCell ⟨b2, 0, none⟩ u) T x ∧ At ((w8.setCell ⟨b1, 0, none⟩ v).setCell ⟨b2, 0, none⟩ u) U y ∧ Below w.heap.size w ((w8.setCell ⟨b1, 0, none⟩ v).setCell ⟨b2, 0, none⟩ u) := by
  have k1 := nkeep h1 L
  have k2 : (w8.setCell ⟨b1, 0, none⟩ v).heap[b2]? = some (Obj.cells #[.pointer none] 53 (0, 0)) := by
    rw [Below.heap_setCell _ _ _ _ hne]; exact nkeep h2 L
  exact ⟨(hx.put k1 (by decide)).put k2 (by decide), (hy.put k1 (by decide)).put k2 (by decide), ((hw.trans (L.mono hw.size)).setCell (p := ⟨b1, 0, none⟩) hb1 _).setCell (p := ⟨b2, 0, none⟩) hb2 _⟩

set_option maxHeartbeats 1000000 in
theorem Split_yes (t : Tr) (a : Option Addr) (i : Nat) (w : World) (hi : Hid (i ≤ t.size)) (hz : Hid (t.fine)) (hb : Hid t.whole) (h : Hid (At w t a)) :
    Calls Tryz.prog 77 #[.agg #[.pointer a], .int .i64 (i : Nat)] w fun e w' => ∃ x y, e = .returned (.tuple #[.agg #[.pointer x], .agg #[.pointer y], .int .i64 0]) ∧ At w' (Tr.splitT t i).1 x ∧ At w' (Tr.splitT t i).2 y ∧ Below w.heap.size w w' := by
  have hd : decide (0 ≤ (i : Int) ∧ (i : Int) ≤ (t.size : Int)) = true := by have := hi.out; simp; omega
  go_enter Tryz.func77, Tryz.ntmps77
  go_wp2_with (first | (go_at_call 109; refine (hasGap_any t _ _ _ (((h.out.alloc _).alloc _).alloc _)).mono ?_; rw [hd]; rintro e w9 ⟨rfl, hb9⟩; obtain ⟨c9, f9⟩ := bcell hb9)
                     | (go_at_call 87; refine (split_any t i a _ hi.out hb.out.1 hz.out ((((h.out.alloc _).alloc _).alloc _).keep hb9)).mono ?_; rintro e w7 ⟨x7, y7, rfl, hx7, hy7, hb7⟩; have L7 := hb9.trans (hb7.mono hb9.size); obtain ⟨c7, f7⟩ := bcell L7))
  have F := fin2 (v := .pointer x7) (u := .pointer y7) (nkeep (alloc2_here w _ _) (bAlloc (Below.refl _ _) _)) (alloc3_here w _ _ _) (by omega) L7 (by omega) (by omega) (bAAA w _ _ _) hx7 hy7
  refine bodyPost_ret (v := .tuple #[.agg #[.pointer x7], .agg #[.pointer y7], .int .i64 0]) (by simp [results, Tryz.results77, go_sem, c7]) rfl ⟨x7, y7, rfl, F.1, F.2.1, F.2.2⟩
end Go.Proofs.YtmhpeppbhjpkiaaGreat

