/- The contracts of Join, Split, Insert, Delete. -/
import Derived.Test.YtcaegdfbbjfgpaaAm04
namespace Go.Proofs.Ytcaegdfbbjfgpaa
open Go.RowKit

/-- a tree stored into the answer's own block -/
theorem fin1 {w W w8 : World} {b : Nat} {T : Tr} {x : Option Addr} {v : Value} (hW : W.heap[b]? = some (Obj.cells #[.pointer none] 26 (0, 0))) (L : Below W.heap.size W w8) (hb : w.heap.size ≤ b) (hw : Below w.heap.size w W) (hx : At w8 T x) :
    At (w8.setCell ⟨b, 0, none⟩ v) T x ∧ Below w.heap.size w (w8.setCell ⟨b, 0, none⟩ v) :=
  ⟨hx.put (nkeep hW L) (by decide), (hw.trans (L.mono hw.size)).setCell (p := ⟨b, 0, none⟩) hb _⟩

theorem alloc2_here (w : World) (x y : Obj) : ((w.alloc x).alloc y).heap[w.heap.size + 1]? = some y := by
  have := heap_alloc_new (w.alloc x) y
  simpa using this
theorem alloc3_here (w : World) (x y z : Obj) : (((w.alloc x).alloc y).alloc z).heap[w.heap.size + 1 + 1]? = some z := by
  have := heap_alloc_new ((w.alloc x).alloc y) z
  simpa using this
theorem bAA (w : World) (x y : Obj) : Below w.heap.size w ((w.alloc x).alloc y) := bAlloc (bAlloc (Below.refl _ _) _) _
theorem bAAA (w : World) (x y z : Obj) : Below w.heap.size w (((w.alloc x).alloc y).alloc z) := bAlloc (bAlloc (bAlloc (Below.refl _ _) _) _) _

set_option maxHeartbeats 1000000 in
theorem Delete_yes (t : Tr) (a : Option Addr) (i : Nat) (w : World) (hi : Hid (i < t.size)) (hz : Hid t.fine) (hb : Hid t.whole) (h : Hid (At w t a)) :
    Calls Try.prog 30 #[.agg #[.pointer a], .int .i64 (i : Nat)] w fun e w' => ∃ x, e = .returned (.tuple #[.agg #[.pointer x], .int .i64 0]) ∧ At w' (Tr.gluT (Tr.splitT t i).1 (Tr.splitT t (i + 1)).2) x ∧ Below w.heap.size w w' := by
  have hd : decide (0 ≤ (i : Int) ∧ (i : Int) < (t.size : Int)) = true := by have := hi.out; simp; omega
  have hw : wrap64 ((i : Int) + 1) = ((i + 1 : Nat) : Int) := by have := hi.out; have := hz.out.2; rw [w64 (by omega) (by omega)]; omega
  have HF : Hid (fineL ((Tr.splitT t i).1.list ++ (Tr.splitT t (i + 1)).2.list)) := by
    unfold Hid
    rw [(Tr.splitT_list t i).1, (Tr.splitT_list t (i + 1)).2]
    refine hz.out.list.sub ?_
    conv => rhs; rw [← List.take_append_drop i t.list]
    refine List.Sublist.append (List.Sublist.refl _) ?_
    rw [← List.drop_drop]
    exact List.drop_sublist _ _
  go_enter Try.func30, Try.ntmps30
  go_wp2_with (first | (go_at_call 63; refine (hasPiece_any t _ _ _ ((h.out.alloc _).alloc _)).mono ?_; rw [hd]; rintro e w9 ⟨rfl, hb9⟩; obtain ⟨c9, f9⟩ := bcell hb9)
                     | (go_at_call_of 62 (Value.int .i64 (i : Int)); refine (split_any t i a _ (by have := hi.out; omega) hb.out.1 hz.out (((h.out.alloc _).alloc _).keep hb9)).mono ?_; rintro e w8 ⟨x8, y8, rfl, hx8, hy8, hb8⟩; have L8 := hb9.trans (hb8.mono hb9.size); obtain ⟨c8, f8⟩ := bcell L8)
                     | (go_at_call 62; refine (split_any t (i + 1) a _ (by have := hi.out; omega) hb.out.1 hz.out (((h.out.alloc _).alloc _).keep L8)).mono ?_; rintro e w7 ⟨x7, y7, rfl, hx7, hy7, hb7⟩; have L7 := L8.trans (hb7.mono L8.size); obtain ⟨c7, f7⟩ := bcell L7)
                     | (go_at_call 59; refine (together_any _ _ _ _ _ HF.out (Tr.splitT_whole t i hb.out.1).1 (Tr.splitT_whole t (i + 1) hb.out.1).2 (hx8.keep hb7) hy7).mono ?_; rintro e w6 ⟨z6, rfl, hz6, hb6⟩; have L6 := L7.trans (hb6.mono L7.size); obtain ⟨c6, f6⟩ := bcell L6))
  have F := fin1 (v := .pointer z6) (alloc2_here w _ _) L6 (by omega) (bAA w _ _) hz6
  refine bodyPost_ret (v := .tuple #[.agg #[.pointer z6], .int .i64 0]) (by simp [results, Try.results30, go_sem, c6]) rfl ⟨z6, rfl, F.1, F.2⟩

set_option maxHeartbeats 1000000 in
theorem Delete_no (t : Tr) (a : Option Addr) (i : Int) (w : World) (hd : decide (0 ≤ i ∧ i < (t.size : Int)) = false) (h : Hid (At w t a)) :
    Calls Try.prog 30 #[.agg #[.pointer a], .int .i64 i] w fun e w' => e = .returned (.tuple #[.agg #[.pointer none], .int .i64 20]) ∧ Below w.heap.size w w' := by
  go_enter Try.func30, Try.ntmps30
  go_wp2_with (first | (go_at_call 63; refine (hasPiece_any t _ _ _ ((h.out.alloc _).alloc _)).mono ?_; rw [hd]; rintro e w9 ⟨rfl, hb9⟩; obtain ⟨c9, f9⟩ := bcell hb9))
  refine bodyPost_ret (v := .tuple #[.agg #[.pointer none], .int .i64 20]) (by simp [results, Try.results30, go_sem, c9]) rfl ⟨rfl, (bA2 hb9).setCell (p := ⟨w.heap.size + 1, 0, none⟩) (by simp) _⟩

set_option maxHeartbeats 1000000 in
theorem Insert_place (t : Tr) (a : Option Addr) (i : Int) (s o n k : Int) (w : World) (hd : decide (0 ≤ i ∧ i ≤ (t.size : Int)) = false) (h : Hid (At w t a)) :
    Calls Try.prog 29 #[.agg #[.pointer a], .int .i64 i, .agg #[.int .i64 s, .int .i64 o, .int .i64 n, .int .i64 k]] w fun e w' => e = .returned (.tuple #[.agg #[.pointer none], .int .i64 20]) ∧ Below w.heap.size w w' := by
  go_enter Try.func29, Try.ntmps29
  go_wp2_with (first | (go_at_call 61; refine (hasGap_any t _ _ _ (((h.out.alloc _).alloc _).alloc _)).mono ?_; rw [hd]; rintro e w9 ⟨rfl, hb9⟩; obtain ⟨c9, f9⟩ := bcell hb9))
  refine bodyPost_ret (v := .tuple #[.agg #[.pointer none], .int .i64 20]) (by simp [results, Try.results29, go_sem, c9]) rfl ⟨rfl, (bA (bA2 hb9)).setCell (p := ⟨w.heap.size + 1 + 1, 0, none⟩) (by simp; omega) _⟩
end Go.Proofs.Ytcaegdfbbjfgpaa

