/- The contracts of Join, Split, Insert and Set, as the law calls them. -/
import Derived.Test.YtcaegdfbbjfgpaaSm03
namespace Go.Proofs.Ytcaegdfbbjfgpaa
open Go.RowKit

theorem bA3 {w w' : World} {x y z : Obj} (h : Below (((w.alloc x).alloc y).alloc z).heap.size (((w.alloc x).alloc y).alloc z) w') : Below w.heap.size w w' := bA (bA2 h)
theorem bA4 {w w' : World} {x y z u : Obj} (h : Below ((((w.alloc x).alloc y).alloc z).alloc u).heap.size ((((w.alloc x).alloc y).alloc z).alloc u) w') : Below w.heap.size w w' := bA (bA3 h)
theorem alloc4_here (w : World) (x y z u : Obj) : ((((w.alloc x).alloc y).alloc z).alloc u).heap[w.heap.size + 1 + 1 + 1]? = some u := by
  have := heap_alloc_new (((w.alloc x).alloc y).alloc z) u
  simpa using this
theorem bAAAA (w : World) (x y z u : Obj) : Below w.heap.size w ((((w.alloc x).alloc y).alloc z).alloc u) := bAlloc (bAAA w x y z) _

theorem fit_below (s o n k : Int) (w : World) : Calls Try.prog 45 #[.agg #[.int .i64 s, .int .i64 o, .int .i64 n, .int .i64 k]] w fun e w' => e = .returned (.bool (fitB n k)) ∧ Below w.heap.size w w' := by
  refine (fit_any s o n k w).mono ?_
  rintro e w' ⟨rfl, rfl⟩
  exact ⟨rfl, bAlloc (Below.refl _ _) _⟩

set_option maxHeartbeats 1000000 in
theorem Insert_arg (t : Tr) (a : Option Addr) (i : Int) (s o n k : Int) (w : World) (hd : decide (0 ≤ i ∧ i ≤ (t.size : Int)) = true) (hf : fitB n k = false) (h : Hid (At w t a)) :
    Calls Try.prog 29 #[.agg #[.pointer a], .int .i64 i, .agg #[.int .i64 s, .int .i64 o, .int .i64 n, .int .i64 k]] w fun e w' => e = .returned (.tuple #[.agg #[.pointer none], .int .i64 2]) ∧ Below w.heap.size w w' := by
  go_enter Try.func29, Try.ntmps29
  go_wp2_with (first | (go_at_call 61; refine (hasGap_any t _ _ _ (((h.out.alloc _).alloc _).alloc _)).mono ?_; rw [hd]; rintro e w9 ⟨rfl, hb9⟩; obtain ⟨c9, f9⟩ := bcell hb9)
                     | (go_at_call 45; (have Q := fit_below s o n k w9); rw [hf] at Q; refine Q.mono ?_; clear Q; rintro e w8 ⟨rfl, hb8⟩; have L8 := hb9.trans (hb8.mono hb9.size); obtain ⟨c8, f8⟩ := bcell L8))
  refine bodyPost_ret (v := .tuple #[.agg #[.pointer none], .int .i64 2]) (by simp [results, Try.results29, go_sem, c8]) rfl ⟨rfl, (bA3 L8).setCell (p := ⟨w.heap.size + 1 + 1, 0, none⟩) (by simp; omega) _⟩

set_option maxHeartbeats 1000000 in
theorem Insert_yes (t : Tr) (a : Option Addr) (i : Nat) (s o n k : Int) (w : World) (hi : Hid (i ≤ t.size)) (hf : fitB n k = true) (hz : Hid (t.fine)) (hs : Hid (t.size + 1 ≤ 1048576)) (hb : Hid t.whole) (h : Hid (At w t a)) :
    Calls Try.prog 29 #[.agg #[.pointer a], .int .i64 (i : Nat), .agg #[.int .i64 s, .int .i64 o, .int .i64 n, .int .i64 k]] w fun e w' => ∃ x, e = .returned (.tuple #[.agg #[.pointer x], .int .i64 0]) ∧ At w' (Tr.joinT (Tr.splitT t i).1 ⟨s, o, n, k⟩ (Tr.splitT t i).2) x ∧ Below w.heap.size w w' := by
  have hd : decide (0 ≤ (i : Int) ∧ (i : Int) ≤ (t.size : Int)) = true := by have := hi.out; simp; omega
  have HF : Hid (fineL ((Tr.splitT t i).1.list ++ ⟨s, o, n, k⟩ :: (Tr.splitT t i).2.list)) := by
    unfold Hid
    rw [(Tr.splitT_list t i).1, (Tr.splitT_list t i).2]
    have q := hz.out.list
    refine ⟨fun p hp => ?_, ?_⟩
    · rcases List.mem_append.1 hp with h1 | h1
      · exact q.1 p (List.mem_of_mem_take h1)
      · rcases List.mem_cons.1 h1 with rfl | h1
        · exact (fitB_iff s o n k).1 hf
        · exact q.1 p (List.mem_of_mem_drop h1)
    · have := Tr.size_list t; have := hs.out; have := hi.out; simp only [List.length_append, List.length_cons, List.length_take, List.length_drop]; omega
  go_enter Try.func29, Try.ntmps29
  go_wp2_with (first | (go_at_call 61; refine (hasGap_any t _ _ _ (((h.out.alloc _).alloc _).alloc _)).mono ?_; rw [hd]; rintro e w9 ⟨rfl, hb9⟩; obtain ⟨c9, f9⟩ := bcell hb9)
                     | (go_at_call 45; (have Q := fit_below s o n k w9); rw [hf] at Q; refine Q.mono ?_; clear Q; rintro e w8 ⟨rfl, hb8⟩; have L8 := hb9.trans (hb8.mono hb9.size); obtain ⟨c8, f8⟩ := bcell L8)
                     | (go_at_call 62; refine (split_any t i a _ hi.out hb.out.1 hz.out ((((h.out.alloc _).alloc _).alloc _).keep L8)).mono ?_; rintro e w7 ⟨x7, y7, rfl, hx7, hy7, hb7⟩; have L7 := L8.trans (hb7.mono L8.size); obtain ⟨c7, f7⟩ := bcell L7)
                     | (go_at_call 60; refine (join_any s o n k _ _ _ _ _ HF (Tr.splitT_whole t i hb.out.1).1 (Tr.splitT_whole t i hb.out.1).2 hx7 hy7).mono ?_; rintro e w6 ⟨z6, rfl, hz6, hb6⟩; have L6 := L7.trans (hb6.mono L7.size); obtain ⟨c6, f6⟩ := bcell L6))
  have F := fin1 (v := .pointer z6) (alloc3_here w _ _ _) L6 (by omega) (bAAA w _ _ _) hz6
  refine bodyPost_ret (v := .tuple #[.agg #[.pointer z6], .int .i64 0]) (by simp [results, Try.results29, go_sem, c6]) rfl ⟨z6, rfl, F.1, F.2⟩

set_option maxHeartbeats 1000000 in
theorem Set_place (t : Tr) (a : Option Addr) (i : Int) (s o n k : Int) (w : World) (hd : decide (0 ≤ i ∧ i < (t.size : Int)) = false) (h : Hid (At w t a)) :
    Calls Try.prog 31 #[.agg #[.pointer a], .int .i64 i, .agg #[.int .i64 s, .int .i64 o, .int .i64 n, .int .i64 k]] w fun e w' => e = .returned (.tuple #[.agg #[.pointer none], .int .i64 20]) ∧ Below w.heap.size w w' := by
  go_enter Try.func31, Try.ntmps31
  go_wp2_with (first | (go_at_call 63; refine (hasPiece_any t _ _ _ (((h.out.alloc _).alloc _).alloc _)).mono ?_; rw [hd]; rintro e w9 ⟨rfl, hb9⟩; obtain ⟨c9, f9⟩ := bcell hb9))
  refine bodyPost_ret (v := .tuple #[.agg #[.pointer none], .int .i64 20]) (by simp [results, Try.results31, go_sem, c9]) rfl ⟨rfl, (bA3 hb9).setCell (p := ⟨w.heap.size + 1 + 1, 0, none⟩) (by simp; omega) _⟩
set_option maxHeartbeats 1000000 in
theorem Set_arg (t : Tr) (a : Option Addr) (i : Int) (s o n k : Int) (w : World) (hd : decide (0 ≤ i ∧ i < (t.size : Int)) = true) (hf : fitB n k = false) (h : Hid (At w t a)) :
    Calls Try.prog 31 #[.agg #[.pointer a], .int .i64 i, .agg #[.int .i64 s, .int .i64 o, .int .i64 n, .int .i64 k]] w fun e w' => e = .returned (.tuple #[.agg #[.pointer none], .int .i64 2]) ∧ Below w.heap.size w w' := by
  go_enter Try.func31, Try.ntmps31
  go_wp2_with (first | (go_at_call 63; refine (hasPiece_any t _ _ _ (((h.out.alloc _).alloc _).alloc _)).mono ?_; rw [hd]; rintro e w9 ⟨rfl, hb9⟩; obtain ⟨c9, f9⟩ := bcell hb9)
                     | (go_at_call 45; (have Q := fit_below s o n k w9); rw [hf] at Q; refine Q.mono ?_; clear Q; rintro e w8 ⟨rfl, hb8⟩; have L8 := hb9.trans (hb8.mono hb9.size); obtain ⟨c8, f8⟩ := bcell L8))
  refine bodyPost_ret (v := .tuple #[.agg #[.pointer none], .int .i64 2]) (by simp [results, Try.results31, go_sem, c8]) rfl ⟨rfl, (bA3 L8).setCell (p := ⟨w.heap.size + 1 + 1, 0, none⟩) (by simp; omega) _⟩
set_option maxHeartbeats 1000000 in
theorem Set_yes (t : Tr) (a : Option Addr) (i : Nat) (s o n k : Int) (w : World) (hi : Hid (i < t.size)) (hf : fitB n k = true) (hz : Hid (t.fine)) (h : Hid (At w t a)) :
    Calls Try.prog 31 #[.agg #[.pointer a], .int .i64 (i : Nat), .agg #[.int .i64 s, .int .i64 o, .int .i64 n, .int .i64 k]] w fun e w' => ∃ x, e = .returned (.tuple #[.agg #[.pointer x], .int .i64 0]) ∧ At w' (t.setT i ⟨s, o, n, k⟩) x ∧ Below w.heap.size w w' := by
  have hd : decide (0 ≤ (i : Int) ∧ (i : Int) < (t.size : Int)) = true := by have := hi.out; simp; omega
  go_enter Try.func31, Try.ntmps31
  go_wp2_with (first | (go_at_call 63; refine (hasPiece_any t _ _ _ (((h.out.alloc _).alloc _).alloc _)).mono ?_; rw [hd]; rintro e w9 ⟨rfl, hb9⟩; obtain ⟨c9, f9⟩ := bcell hb9)
                     | (go_at_call 45; (have Q := fit_below s o n k w9); rw [hf] at Q; refine Q.mono ?_; clear Q; rintro e w8 ⟨rfl, hb8⟩; have L8 := hb9.trans (hb8.mono hb9.size); obtain ⟨c8, f8⟩ := bcell L8)
                     | (go_at_call 64; refine (set_any t i s o n k a _ hi.out hz.out ((fitB_iff s o n k).1 hf) ((((h.out.alloc _).alloc _).alloc _).keep L8)).mono ?_; rintro e w6 ⟨z6, rfl, hz6, hb6⟩; have L6 := L8.trans (hb6.mono L8.size); obtain ⟨c6, f6⟩ := bcell L6))
  have F := fin1 (v := .pointer z6) (alloc3_here w _ _ _) L6 (by omega) (bAAA w _ _ _) hz6
  refine bodyPost_ret (v := .tuple #[.agg #[.pointer z6], .int .i64 0]) (by simp [results, Try.results31, go_sem, c6]) rfl ⟨z6, rfl, F.1, F.2⟩

set_option maxHeartbeats 1000000 in
theorem Split_no (t : Tr) (a : Option Addr) (i : Int) (w : World) (hd : decide (0 ≤ i ∧ i ≤ (t.size : Int)) = false) (h : Hid (At w t a)) :
    Calls Try.prog 28 #[.agg #[.pointer a], .int .i64 i] w fun e w' => e = .returned (.tuple #[.agg #[.pointer none], .agg #[.pointer none], .int .i64 20]) ∧ Below w.heap.size w w' := by
  go_enter Try.func28, Try.ntmps28
  go_wp2_with (first | (go_at_call 61; refine (hasGap_any t _ _ _ (((h.out.alloc _).alloc _).alloc _)).mono ?_; rw [hd]; rintro e w9 ⟨rfl, hb9⟩; obtain ⟨c9, f9⟩ := bcell hb9))
  refine bodyPost_ret (v := .tuple #[.agg #[.pointer none], .agg #[.pointer none], .int .i64 20]) (by simp [results, Try.results28, go_sem, c9]) rfl ⟨rfl, ((bA3 hb9).setCell (p := ⟨w.heap.size + 1, 0, none⟩) (by simp) _).setCell (p := ⟨w.heap.size + 1 + 1, 0, none⟩) (by simp; omega) _⟩
end Go.Proofs.Ytcaegdfbbjfgpaa
