/- The contracts of the reference's Split, Insert, Delete. -/
import Derived.Test.YtcaegdfbbjfgpaaSm06
namespace Go.Proofs.Ytcaegdfbbjfgpaa
open Go.RowKit

set_option maxHeartbeats 2000000 in
theorem Splitr_no (t : Tr) (lv : Value) (k : Int) (w : World) (hl : Hid (Rdr w lv (rowsT t))) (hk : k < 0 ∨ (t.size : Int) < k) :
    Calls Try.prog 40 #[lv, .int .i64 k] w fun e w' => e = .returned (.tuple #[.slice none 0 0, .slice none 0 0, .int .i64 20]) ∧ w' = w := by
  obtain ⟨ao, nn, c, e1, hnn, -, -⟩ := hl.out
  subst e1
  obtain rfl : nn = t.size := by rw [hnn, rowsT_length]
  clear hnn
  rcases hk with hk | hk
  · go_enter Try.func40, Try.ntmps40
    go_wp2
    exact bodyPost_ret (v := .tuple #[.slice none 0 0, .slice none 0 0, .int .i64 20]) (by simp [results, Try.results40, go_sem]) rfl ⟨rfl, rfl⟩
  · have h0 : ¬ (k < 0) := by omega
    go_enter Try.func40, Try.ntmps40
    go_wp2
    exact bodyPost_ret (v := .tuple #[.slice none 0 0, .slice none 0 0, .int .i64 20]) (by simp [results, Try.results40, go_sem]) rfl ⟨rfl, rfl⟩

set_option maxRecDepth 100000 in
set_option maxHeartbeats 4000000 in
theorem Splitr_yes (t : Tr) (lv : Value) (k : Nat) (w : World) (gt : Hid (Gd t)) (hs : t.size ≤ 5700) (hl : Hid (Rdr w lv (rowsT t))) (hk : Hid (k ≤ t.size)) :
    Calls Try.prog 40 #[lv, .int .i64 (k : Int)] w fun e w' => ∃ l1 l2, e = .returned (.tuple #[l1, l2, .int .i64 0]) ∧ Rw1 w (Tr.splitT t k).1 l1 w' ∧ Rw1 w (Tr.splitT t k).2 l2 w' ∧ Below w.heap.size w w' := by
  obtain ⟨ao, nn, c, e1, hnn, -, -⟩ := hl.out
  subst e1
  obtain rfl : nn = t.size := by rw [hnn, rowsT_length]
  clear hnn
  have n1 : ¬ ((k : Int) < 0) := by omega
  have n2 : ¬ ((t.size : Int) < (k : Int)) := by have := hk.out; omega
  have B1 := Hid.mk' (Below.refl w.heap.size w)
  have SG := Hid.mk' (split_gd (t := t) k gt.out.wh.1 gt.out.ft (by omega))
  go_enter Try.func40, Try.ntmps40
  go_upto_region 4 with (fail)
  have W2 := Hid.mk' (wd_new w w.heap.size (Nat.le_refl _))
  have B2 := Hid.mk' (bAlloc (Below.refl w.heap.size w) (.cells #[.slice none 0 0] 88))
  generalize hV2 : w.alloc (.cells #[.slice none 0 0] 88) = V2 at *
  clear hV2
  obtain ⟨bs, hbs⟩ : ∃ q, q = w.heap.size := ⟨_, rfl⟩
  rw [← hbs] at W2 B2  ⊢
  have HBS := Hid.mk' hbs
  have z2 := Hid.mk' (show bs ≤ V2.heap.size by rw [hbs]; exact B2.out.size)
  have hwb := Hid.mk' (show w.heap.size ≤ bs by rw [hbs]; exact B1.out.size)
  have L2 := Hid.mk' (hl.out.low (bT B1.out (by rw [← hbs]; exact B2.out)) hwb.out)
  clear hbs
  have D1 := Hid.mk' (wtree_rdw t _ bs bs _ [] V2 gt.out.ft (by omega) L2.out W2.out z2.out (by simp; omega))
  go_wp2_with fail
  refine D1.out.mono ?_
  rintro e w3 ⟨i3, v3, M3, rfl, q1, q2, q3, q4⟩
  have W3 := Hid.mk' q1
  have J3 := Hid.mk' q2
  have B3 := Hid.mk' (q3.under W2.out B2.out z2.out)
  have z3 := Hid.mk' (show bs ≤ w3.heap.size by have := z2.out; have := q3.size; omega)
  have C3 := Hid.mk' q4
  clear q1 q2 q3 q4 D1
  have D2 := Hid.mk' (wsplit_any bs bs t gt.out.wh.1 gt.out.ft (by omega) k i3 w3 v3 ([] ++ M3) hk.out W3.out (by rw [Tr.blk_black gt.out.wh.2]; exact J3.out) z3.out (by have x1 := C3.out; have x2 := gt.out.ht; simp; omega))
  go_wp2_with fail
  refine D2.out.mono ?_
  rintro e w4 ⟨i4, k4, v4, M4, rfl, q1, q2, q2b, q3, q4⟩
  have W4 := Hid.mk' q1
  have J4 := Hid.mk' q2
  have I4 := Hid.mk' q2b
  have B4 := Hid.mk' (q3.under W3.out B3.out z3.out)
  have z4 := Hid.mk' (show bs ≤ w4.heap.size by have := z3.out; have := q3.size; omega)
  have C4 := Hid.mk' q4
  clear q1 q2 q2b q3 q4 D2
  have B6 := Hid.mk' (show Below w.heap.size w w4 from B1.out.trans (B4.out.mono (by rw [HBS.out]; exact Nat.le_refl _)))
  have hNN := Hid.mk' (show ([] ++ M3 ++ M4).length ≤ 2097152 by have x1 := C3.out; have x2 := gt.out.ht; have x4 := C4.out; simp; omega)
  have D4 := Hid.mk' (wrows_end (Tr.splitT t k).1 i4 bs bs w.heap.size v4 _ w4 hNN.out J4.out W4.out B6.out.size (by have := SG.out.2.2.1; omega))
  go_wp2_with fail
  refine D4.out.mono ?_
  rintro e w6 ⟨l6, rfl, hown, hb6⟩
  have O6 := Hid.mk' hown
  have H6 := Hid.mk' hb6
  have B7 := Hid.mk' (bT B6.out hb6)
  clear hown hb6 D4
  have D5 := Hid.mk' (wrows_end (Tr.splitT t k).2 k4 bs bs w.heap.size v4 _ w6 hNN.out I4.out (W4.out.keep H6.out) B7.out.size (by have := SG.out.2.2.2; omega))
  go_wp2_with fail
  refine D5.out.mono ?_
  rintro e w7 ⟨l7, rfl, hown, hb7⟩
  have O7 := Hid.mk' hown
  have O67 := Hid.mk' (own_keep' O6.out hb7)
  have B8 := Hid.mk' (bT B7.out hb7)
  clear hown hb7 D5
  go_wp2
  exact bodyPost_ret (v := .tuple #[l6, l7, .int .i64 0]) (by simp [results, Try.results40, go_sem]) rfl ⟨l6, l7, rfl, O67.out, O7.out, B8.out⟩

set_option maxHeartbeats 2000000 in
theorem Insertr_place (t : Tr) (lv : Value) (ps po pl pn k : Int) (w : World) (hl : Hid (Rdr w lv (rowsT t))) (hk : k < 0 ∨ (t.size : Int) < k) :
    Calls Try.prog 41 #[lv, .int .i64 k, .agg #[.int .i64 ps, .int .i64 po, .int .i64 pl, .int .i64 pn]] w fun e w' => e = .returned (.tuple #[.slice none 0 0, .int .i64 20]) ∧ Below w.heap.size w w' := by
  obtain ⟨ao, nn, c, e1, hnn, -, -⟩ := hl.out
  subst e1
  obtain rfl : nn = t.size := by rw [hnn, rowsT_length]
  clear hnn
  rcases hk with hk | hk
  · go_enter Try.func41, Try.ntmps41
    go_wp2
    go_ret2
    exact ⟨rfl, bAlloc (Below.refl _ _) _⟩
  · have h0 : ¬ (k < 0) := by omega
    go_enter Try.func41, Try.ntmps41
    go_wp2
    go_ret2
    exact ⟨rfl, bAlloc (Below.refl _ _) _⟩
set_option maxHeartbeats 2000000 in
theorem Insertr_arg (t : Tr) (lv : Value) (ps po pl pn k : Int) (w : World) (hl : Hid (Rdr w lv (rowsT t))) (h0 : ¬ (k < 0)) (h1 : ¬ ((t.size : Int) < k)) (hf : fitB pl pn = false) :
    Calls Try.prog 41 #[lv, .int .i64 k, .agg #[.int .i64 ps, .int .i64 po, .int .i64 pl, .int .i64 pn]] w fun e w' => e = .returned (.tuple #[.slice none 0 0, .int .i64 2]) ∧ Below w.heap.size w w' := by
  obtain ⟨ao, nn, c, e1, hnn, -, -⟩ := hl.out
  subst e1
  obtain rfl : nn = t.size := by rw [hnn, rowsT_length]
  clear hnn
  go_enter Try.func41, Try.ntmps41
  go_wp2_with (go_at_call 25; refine (refFit_any ps po pl pn _).mono ?_; rintro e w5 ⟨rfl, rfl⟩; rw [hf])
  go_ret2
  exact ⟨rfl, bAlloc (bAlloc (Below.refl _ _) _) _⟩

set_option maxRecDepth 100000 in
set_option maxHeartbeats 4000000 in
theorem Insertr_yes (t : Tr) (lv : Value) (ps po pl pn : Int) (k : Nat) (w : World) (gt : Hid (Gd t)) (hs : t.size ≤ 5700) (hl : Hid (Rdr w lv (rowsT t))) (hk : Hid (k ≤ t.size)) (hf : fitB pl pn = true) :
    Calls Try.prog 41 #[lv, .int .i64 (k : Int), .agg #[.int .i64 ps, .int .i64 po, .int .i64 pl, .int .i64 pn]] w fun e w' => ∃ l1, e = .returned (.tuple #[l1, .int .i64 0]) ∧ Rw1 w (Tr.joinT (Tr.splitT t k).1 ⟨ps, po, pl, pn⟩ (Tr.splitT t k).2) l1 w' ∧ Below w.heap.size w w' := by
  obtain ⟨ao, nn, c, e1, hnn, -, -⟩ := hl.out
  subst e1
  obtain rfl : nn = t.size := by rw [hnn, rowsT_length]
  clear hnn
  have n1 : ¬ ((k : Int) < 0) := by omega
  have n2 : ¬ ((t.size : Int) < (k : Int)) := by have := hk.out; omega
  have SG := Hid.mk' (split_gd (t := t) k gt.out.wh.1 gt.out.ft (by omega))
  go_enter Try.func41, Try.ntmps41
  go_upto_region 1 with fail
  have HZ := Hid.mk' (Blk.new w 32 #[.int .i64 ps, .int .i64 po, .int .i64 pl, .int .i64 pn])
  have B1 := Hid.mk' (bAlloc (Below.refl w.heap.size w) (.cells #[.int .i64 ps, .int .i64 po, .int .i64 pl, .int .i64 pn] 32))
  generalize hW1 : w.alloc (.cells #[.int .i64 ps, .int .i64 po, .int .i64 pl, .int .i64 pn] 32) = W1 at *
  clear hW1
  obtain ⟨qz, hqz⟩ : ∃ q, q = w.heap.size := ⟨_, rfl⟩
  rw [← hqz] at HZ ⊢
  clear hqz
  obtain ⟨p0, p1, p2, p3⟩ := HZ.out.four
  go_upto_region 5 with (go_at_call 25; refine (refFit_any ps po pl pn _).mono ?_; rintro e w5 ⟨rfl, rfl⟩; rw [hf])
  have B1b := Hid.mk' (bAlloc B1.out (.cells #[.int .i64 ps, .int .i64 po, .int .i64 pl, .int .i64 pn] 32))
  have HZb := Hid.mk' (HZ.out.keep (bAlloc (Below.refl W1.heap.size W1) (.cells #[.int .i64 ps, .int .i64 po, .int .i64 pl, .int .i64 pn] 32)))
  generalize hWW : W1.alloc (.cells #[.int .i64 ps, .int .i64 po, .int .i64 pl, .int .i64 pn] 32) = WW at *
  clear hWW HZ B1 p0 p1 p2 p3
  have hqz : qz < WW.heap.size := HZb.out.lt
  go_upto_region 6 with (fail)
  have W2 := Hid.mk' (wd_new WW WW.heap.size (Nat.le_refl _))
  have B2 := Hid.mk' (bAlloc (Below.refl WW.heap.size WW) (.cells #[.slice none 0 0] 88))
  generalize hV2 : WW.alloc (.cells #[.slice none 0 0] 88) = V2 at *
  clear hV2
  obtain ⟨bs, hbs⟩ : ∃ q, q = WW.heap.size := ⟨_, rfl⟩
  rw [← hbs] at W2 B2 hqz ⊢
  have HBS := Hid.mk' hbs
  have z2 := Hid.mk' (show bs ≤ V2.heap.size by rw [hbs]; exact B2.out.size)
  have hwb := Hid.mk' (show w.heap.size ≤ bs by rw [hbs]; exact B1b.out.size)
  have L2 := Hid.mk' (hl.out.low (bT B1b.out (by rw [← hbs]; exact B2.out)) hwb.out)
  clear hbs
  have D1 := Hid.mk' (wtree_rdw t _ bs bs _ [] V2 gt.out.ft (by omega) L2.out W2.out z2.out (by simp; omega))
  go_wp2_with fail
  refine D1.out.mono ?_
  rintro e w3 ⟨i3, v3, M3, rfl, q1, q2, q3, q4⟩
  have W3 := Hid.mk' q1
  have J3 := Hid.mk' q2
  have B3 := Hid.mk' (q3.under W2.out B2.out z2.out)
  have z3 := Hid.mk' (show bs ≤ w3.heap.size by have := z2.out; have := q3.size; omega)
  have C3 := Hid.mk' q4
  clear q1 q2 q3 q4 D1
  have D2 := Hid.mk' (wsplit_any bs bs t gt.out.wh.1 gt.out.ft (by omega) k i3 w3 v3 ([] ++ M3) hk.out W3.out (by rw [Tr.blk_black gt.out.wh.2]; exact J3.out) z3.out (by have x1 := C3.out; have x2 := gt.out.ht; simp; omega))
  go_wp2_with fail
  refine D2.out.mono ?_
  rintro e w4 ⟨i4, k4, v4, M4, rfl, q1, q2, q2b, q3, q4⟩
  have W4 := Hid.mk' q1
  have J4 := Hid.mk' q2
  have I4 := Hid.mk' q2b
  have B4 := Hid.mk' (q3.under W3.out B3.out z3.out)
  have z4 := Hid.mk' (show bs ≤ w4.heap.size by have := z3.out; have := q3.size; omega)
  have C4 := Hid.mk' q4
  clear q1 q2 q2b q3 q4 D2
  have Z4 : Hid (Blk w4 qz 32 #[.int .i64 ps, .int .i64 po, .int .i64 pl, .int .i64 pn]) := by have h := HZb.out; unfold Hid; unfold Blk at *; rw [B4.out.block qz hqz]; exact h
  obtain ⟨c0, c1, c2, c3⟩ := Z4.out.four
  have D3 := Hid.mk' (wjoin_any (Tr.splitT t k).1 (Tr.splitT t k).2 i4 k4 ps po pl pn bs bs v4 ([] ++ M3 ++ M4) w4 (by have x1 := C3.out; have x2 := C4.out; have x3 := gt.out.ht; have x4 := SG.out.1.ht; have x5 := SG.out.2.1.ht; simp; omega) (by have x1 := SG.out.2.2.1; have x2 := SG.out.2.2.2; omega) ((fitB_iff ps po pl pn).1 hf) ⟨SG.out.1.ft, SG.out.1.wh⟩ ⟨SG.out.2.1.ft, SG.out.2.1.wh⟩ W4.out J4.out I4.out z4.out)
  go_wp2_with fail
  refine D3.out.mono ?_
  rintro e w5 ⟨i5, v5, M5, rfl, q1, q2, q3, q4⟩
  have W5 := Hid.mk' q1
  have J5 := Hid.mk' q2
  have B5 := Hid.mk' (q3.under W4.out B4.out z4.out)
  have z5 := Hid.mk' (show bs ≤ w5.heap.size by have := z4.out; have := q3.size; omega)
  have C5 := Hid.mk' q4
  clear q1 q2 q3 q4 D3
  have B6 := Hid.mk' (show Below w.heap.size w w5 from B1b.out.trans (B5.out.mono (by rw [HBS.out]; exact B1b.out.size)))
  have D4 := Hid.mk' (wrows_end (Tr.joinT (Tr.splitT t k).1 ⟨ps, po, pl, pn⟩ (Tr.splitT t k).2) i5 bs bs w.heap.size v5 _ w5 (by have x1 := C3.out; have x2 := C4.out; have x3 := gt.out.ht; have x4 := C5.out; have x5 := SG.out.1.ht; have x6 := SG.out.2.1.ht; simp; omega) J5.out W5.out B6.out.size (by rw [← Tr.size_list, Tr.joinT_list, List.length_append, List.length_cons, Tr.size_list, Tr.size_list]; have x1 := SG.out.2.2.1; have x2 := SG.out.2.2.2; omega))
  go_wp2_with fail
  refine D4.out.mono ?_
  rintro e w6 ⟨l6, rfl, hown, hb6⟩
  have O6 := Hid.mk' hown
  have B7 := Hid.mk' (bT B6.out hb6)
  clear hown hb6 D4
  go_wp2
  go_ret2
  exact ⟨l6, rfl, O6.out, B7.out⟩

set_option maxHeartbeats 2000000 in
theorem Deleter_no (t : Tr) (lv : Value) (k : Int) (w : World) (hl : Hid (Rdr w lv (rowsT t))) (hk : k < 0 ∨ (t.size : Int) ≤ k) :
    Calls Try.prog 42 #[lv, .int .i64 k] w fun e w' => e = .returned (.tuple #[.slice none 0 0, .int .i64 20]) ∧ w' = w := by
  obtain ⟨ao, nn, c, e1, hnn, -, -⟩ := hl.out
  subst e1
  obtain rfl : nn = t.size := by rw [hnn, rowsT_length]
  clear hnn
  rcases hk with hk | hk
  · go_enter Try.func42, Try.ntmps42
    go_wp2
    go_ret2
    exact ⟨rfl, rfl⟩
  · have h0 : ¬ (k < 0) := by omega
    go_enter Try.func42, Try.ntmps42
    go_wp2
    go_ret2
    exact ⟨rfl, rfl⟩

set_option maxRecDepth 100000 in
set_option maxHeartbeats 4000000 in
theorem Deleter_yes (t : Tr) (lv : Value) (k : Nat) (w : World) (gt : Hid (Gd t)) (hs : t.size ≤ 5700) (hl : Hid (Rdr w lv (rowsT t))) (hk : Hid (k < t.size)) :
    Calls Try.prog 42 #[lv, .int .i64 (k : Int)] w fun e w' => ∃ l1, e = .returned (.tuple #[l1, .int .i64 0]) ∧ Rw1 w (Tr.gluT (Tr.splitT t k).1 (Tr.splitT t (k + 1)).2) l1 w' ∧ Below w.heap.size w w' := by
  obtain ⟨ao, nn, c, e1, hnn, -, -⟩ := hl.out
  subst e1
  obtain rfl : nn = t.size := by rw [hnn, rowsT_length]
  clear hnn
  have n1 : ¬ ((k : Int) < 0) := by omega
  have n2 : ¬ ((t.size : Int) ≤ (k : Int)) := by have := hk.out; omega
  have n3 : (k : Int) ≤ 5700 := by have := hk.out; omega
  have B1 := Hid.mk' (Below.refl w.heap.size w)
  have SG := Hid.mk' (split_gd (t := t) k gt.out.wh.1 gt.out.ft (by omega))
  have SH := Hid.mk' (split_gd (t := t) (k + 1) gt.out.wh.1 gt.out.ft (by omega))
  go_enter Try.func42, Try.ntmps42
  go_upto_region 4 with (fail)
  have W2 := Hid.mk' (wd_new w w.heap.size (Nat.le_refl _))
  have B2 := Hid.mk' (bAlloc (Below.refl w.heap.size w) (.cells #[.slice none 0 0] 88))
  generalize hV2 : w.alloc (.cells #[.slice none 0 0] 88) = V2 at *
  clear hV2
  obtain ⟨bs, hbs⟩ : ∃ q, q = w.heap.size := ⟨_, rfl⟩
  rw [← hbs] at W2 B2  ⊢
  have HBS := Hid.mk' hbs
  have z2 := Hid.mk' (show bs ≤ V2.heap.size by rw [hbs]; exact B2.out.size)
  have hwb := Hid.mk' (show w.heap.size ≤ bs by rw [hbs]; exact B1.out.size)
  have L2 := Hid.mk' (hl.out.low (bT B1.out (by rw [← hbs]; exact B2.out)) hwb.out)
  clear hbs
  have D1 := Hid.mk' (wtree_rdw t _ bs bs _ [] V2 gt.out.ft (by omega) L2.out W2.out z2.out (by simp; omega))
  go_wp2_with fail
  refine D1.out.mono ?_
  rintro e w3 ⟨i3, v3, M3, rfl, q1, q2, q3, q4⟩
  have W3 := Hid.mk' q1
  have J3 := Hid.mk' q2
  have B3 := Hid.mk' (q3.under W2.out B2.out z2.out)
  have z3 := Hid.mk' (show bs ≤ w3.heap.size by have := z2.out; have := q3.size; omega)
  have C3 := Hid.mk' q4
  clear q1 q2 q3 q4 D1
  have D2 := Hid.mk' (wsplit_any bs bs t gt.out.wh.1 gt.out.ft (by omega) k i3 w3 v3 ([] ++ M3) (by have := hk.out; omega) W3.out (by rw [Tr.blk_black gt.out.wh.2]; exact J3.out) z3.out (by have x1 := C3.out; have x2 := gt.out.ht; simp; omega))
  go_wp2_with fail
  refine D2.out.mono ?_
  rintro e w4 ⟨i4, k4, v4, M4, rfl, q1, q2, q2b, q3, q4⟩
  have W4 := Hid.mk' q1
  have J4 := Hid.mk' q2
  have I4 := Hid.mk' q2b
  have B4 := Hid.mk' (q3.under W3.out B3.out z3.out)
  have z4 := Hid.mk' (show bs ≤ w4.heap.size by have := z3.out; have := q3.size; omega)
  have C4 := Hid.mk' q4
  clear q1 q2 q2b q3 q4 D2
  have D3 := Hid.mk' (wsplit_any bs bs t gt.out.wh.1 gt.out.ft (by omega) (k + 1) i3 w4 v4 ([] ++ M3 ++ M4) (by have := hk.out; omega) W4.out (by rw [Tr.blk_black gt.out.wh.2]; exact J3.out.more M4) z4.out (by have x1 := C3.out; have x2 := gt.out.ht; have x3 := C4.out; simp; omega))
  rw [show ((k + 1 : Nat) : Int) = (k : Int) + 1 from by omega] at D3
  go_wp2_with fail
  refine D3.out.mono ?_
  rintro e w5 ⟨i5, k5, v5, M5, rfl, q1, q2, q2b, q3, q4⟩
  have W5 := Hid.mk' q1
  have J5 := Hid.mk' q2
  have I5 := Hid.mk' q2b
  have B5 := Hid.mk' (q3.under W4.out B4.out z4.out)
  have z5 := Hid.mk' (show bs ≤ w5.heap.size by have := z4.out; have := q3.size; omega)
  have C5 := Hid.mk' q4
  clear q1 q2 q2b q3 q4 D3
  have D4 := Hid.mk' (wglue_any (Tr.splitT t k).1 (Tr.splitT t (k + 1)).2 i4 k5 bs bs v5 ([] ++ M3 ++ M4 ++ M5) w5 (by have x1 := C3.out; have x2 := gt.out.ht; have x3 := C4.out; have x4 := C5.out; have x5 := SG.out.1.ht; simp; omega) (by have x1 := SG.out.2.2.1; have x2 := SH.out.2.2.2; omega) SG.out.1 SH.out.2.1 W5.out (J4.out.more M5) I5.out z5.out)
  go_wp2_with fail
  refine D4.out.mono ?_
  rintro e w6 ⟨i6, v6, M6, rfl, q1, q2, q3, q4⟩
  have W6 := Hid.mk' q1
  have J6 := Hid.mk' q2
  have B6 := Hid.mk' (q3.under W5.out B5.out z5.out)
  have z6 := Hid.mk' (show bs ≤ w6.heap.size by have := z5.out; have := q3.size; omega)
  have C6 := Hid.mk' q4
  clear q1 q2 q3 q4 D4
  have B7 := Hid.mk' (show Below w.heap.size w w6 from B1.out.trans (B6.out.mono (by rw [HBS.out]; exact Nat.le_refl _)))
  have D5 := Hid.mk' (wrows_end (Tr.gluT (Tr.splitT t k).1 (Tr.splitT t (k + 1)).2) i6 bs bs w.heap.size v6 _ w6 (by have x1 := C3.out; have x2 := gt.out.ht; have x3 := C4.out; have x4 := C5.out; have x5 := SG.out.1.ht; have x6 := C6.out; simp; omega) J6.out W6.out B7.out.size (by rw [← Tr.size_list, Tr.gluT_list, List.length_append, Tr.size_list, Tr.size_list]; have x1 := SG.out.2.2.1; have x2 := SH.out.2.2.2; omega))
  go_wp2_with fail
  refine D5.out.mono ?_
  rintro e w7 ⟨l7, rfl, hown, hb7⟩
  have O7 := Hid.mk' hown
  have B8 := Hid.mk' (bT B7.out hb7)
  clear hown hb7 D5
  go_wp2
  go_ret2
  exact ⟨l7, rfl, O7.out, B8.out⟩
end Go.Proofs.Ytcaegdfbbjfgpaa
