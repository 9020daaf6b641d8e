/- The contract of the reference's Set. -/
import Derived.Test.YtcaegdfbbjfgpaaSm07
namespace Go.Proofs.Ytcaegdfbbjfgpaa
open Go.RowKit

theorem Rdw.keep {W W' : World} {base : Nat} {ls : Value} {L : List Rw} (h : Rdw W base ls L) (hb : Below W.heap.size W W') (_hz : base ≤ W.heap.size) : Rdw W' base ls L := by
  obtain ⟨ao, n, c, e, hn, h⟩ := h
  refine ⟨ao, n, c, e, hn, ?_⟩
  rcases h with h | ⟨b, off, e1, h, hlt⟩
  · exact .inl h
  · exact .inr ⟨b, off, e1, h.keep hb, hlt⟩
set_option maxHeartbeats 2000000 in
theorem Setr_place (t : Tr) (lv : Value) (ps po pl pn k : Int) (w : World) (hl : Hid (Rdr w lv (rowsT t))) (hk : k < 0 ∨ (t.size : Int) ≤ k) :
    Calls Try.prog 43 #[lv, .int .i64 k, .agg #[.int .i64 ps, .int .i64 po, .int .i64 pl, .int .i64 pn]] w fun e w' => e = .returned (.tuple #[.slice none 0 0, .int .i64 20]) ∧ Below w.heap.size w w' := by
  obtain ⟨ao, nn, c, e1, hnn, -, -⟩ := hl.out
  subst e1
  obtain rfl : nn = t.size := by rw [hnn, rowsT_length]
  clear hnn
  rcases hk with hk | hk
  · go_enter Try.func43, Try.ntmps43
    go_wp2
    go_ret2
    exact ⟨rfl, bAlloc (Below.refl _ _) _⟩
  · have h0 : ¬ (k < 0) := by omega
    go_enter Try.func43, Try.ntmps43
    go_wp2
    go_ret2
    exact ⟨rfl, bAlloc (Below.refl _ _) _⟩
set_option maxHeartbeats 2000000 in
theorem Setr_arg (t : Tr) (lv : Value) (ps po pl pn k : Int) (w : World) (hl : Hid (Rdr w lv (rowsT t))) (h0 : ¬ (k < 0)) (h1 : ¬ ((t.size : Int) ≤ k)) (hf : fitB pl pn = false) :
    Calls Try.prog 43 #[lv, .int .i64 k, .agg #[.int .i64 ps, .int .i64 po, .int .i64 pl, .int .i64 pn]] w fun e w' => e = .returned (.tuple #[.slice none 0 0, .int .i64 2]) ∧ Below w.heap.size w w' := by
  obtain ⟨ao, nn, c, e1, hnn, -, -⟩ := hl.out
  subst e1
  obtain rfl : nn = t.size := by rw [hnn, rowsT_length]
  clear hnn
  go_enter Try.func43, Try.ntmps43
  go_wp2_with (go_at_call 25; refine (refFit_any ps po pl pn _).mono ?_; rintro e w5 ⟨rfl, rfl⟩; rw [hf])
  go_ret2
  exact ⟨rfl, bAlloc (bAlloc (Below.refl _ _) _) _⟩

set_option maxRecDepth 100000 in
set_option maxHeartbeats 8000000 in
theorem Setr_yes (t : Tr) (lv : Value) (ps po pl pn : Int) (k : Nat) (w : World) (gt : Hid (Gd t)) (hs : t.size ≤ 5700) (hl : Hid (Rdr w lv (rowsT t))) (hk : Hid (k < t.size)) (hf : fitB pl pn = true) :
    Calls Try.prog 43 #[lv, .int .i64 (k : Int), .agg #[.int .i64 ps, .int .i64 po, .int .i64 pl, .int .i64 pn]] w fun e w' => ∃ l1, e = .returned (.tuple #[l1, .int .i64 0]) ∧ Rw1 w (t.setT k ⟨ps, po, pl, pn⟩) l1 w' ∧ Below w.heap.size w w' := by
  obtain ⟨ao, nn, c, e1, hnn, -, -⟩ := hl.out
  subst e1
  obtain rfl : nn = t.size := by rw [hnn, rowsT_length]
  clear hnn
  have n1 : ¬ ((k : Int) < 0) := by omega
  have n2 : ¬ ((t.size : Int) ≤ (k : Int)) := by have := hk.out; omega
  go_enter Try.func43, Try.ntmps43
  go_upto_region 1 with fail
  have HZ := Hid.mk' (Blk.new w 32 #[.int .i64 ps, .int .i64 po, .int .i64 pl, .int .i64 pn])
  have B1 := Hid.mk' (bAlloc (Below.refl w.heap.size w) (.cells #[.int .i64 ps, .int .i64 po, .int .i64 pl, .int .i64 pn] 32))
  generalize hW1 : w.alloc (.cells #[.int .i64 ps, .int .i64 po, .int .i64 pl, .int .i64 pn] 32) = W1 at *
  clear hW1
  obtain ⟨qz, hqz⟩ : ∃ q, q = w.heap.size := ⟨_, rfl⟩
  rw [← hqz] at HZ ⊢
  clear hqz
  obtain ⟨p0, p1, p2, p3⟩ := HZ.out.four
  go_upto_region 5 with (go_at_call 25; refine (refFit_any ps po pl pn _).mono ?_; rintro e w5 ⟨rfl, rfl⟩; rw [hf])
  have B1b := Hid.mk' (bAlloc B1.out (.cells #[.int .i64 ps, .int .i64 po, .int .i64 pl, .int .i64 pn] 32))
  have HZb := Hid.mk' (HZ.out.keep (bAlloc (Below.refl W1.heap.size W1) (.cells #[.int .i64 ps, .int .i64 po, .int .i64 pl, .int .i64 pn] 32)))
  generalize hWW : W1.alloc (.cells #[.int .i64 ps, .int .i64 po, .int .i64 pl, .int .i64 pn] 32) = WW at *
  clear hWW HZ B1 p0 p1 p2 p3
  have hqz : qz < WW.heap.size := HZb.out.lt
  go_upto_region 6 with (fail)
  have W2 := Hid.mk' (wd_new WW WW.heap.size (Nat.le_refl _))
  have B2 := Hid.mk' (bAlloc (Below.refl WW.heap.size WW) (.cells #[.slice none 0 0] 88))
  generalize hV2 : WW.alloc (.cells #[.slice none 0 0] 88) = V2 at *
  clear hV2
  obtain ⟨bs, hbs⟩ : ∃ q, q = WW.heap.size := ⟨_, rfl⟩
  rw [← hbs] at W2 B2 hqz ⊢
  have HBS := Hid.mk' hbs
  have z2 := Hid.mk' (show bs ≤ V2.heap.size by rw [hbs]; exact B2.out.size)
  have hwb := Hid.mk' (show w.heap.size ≤ bs by rw [hbs]; exact B1b.out.size)
  have L2 := Hid.mk' (hl.out.low (bT B1b.out (by rw [← hbs]; exact B2.out)) hwb.out)
  clear hbs
  have DT := Hid.mk' (fun W (hW : Below V2.heap.size V2 W) => wtree_rdw t _ bs bs _ [] W gt.out.ft (by omega) (L2.out.keep hW z2.out) (W2.out.keep hW) (Nat.le_trans z2.out hW.size) (by simp; omega))
  have CZ := Hid.mk' (fun W (hW : Below bs WW W) => (show Blk W qz 32 #[.int .i64 ps, .int .i64 po, .int .i64 pl, .int .i64 pn] by have h := HZb.out; unfold Blk at *; rw [hW.block qz hqz]; exact h).four)
  obtain ⟨c0, c1, c2, c3⟩ := CZ.out _ B2.out
  clear HZb
  go_region_held3 (fun w' => w'.cell? ⟨qz, 0, none⟩ = some (.int .i64 ps) ∧ w'.cell? ⟨qz, 1, none⟩ = some (.int .i64 po) ∧ w'.cell? ⟨qz, 2, none⟩ = some (.int .i64 pl) ∧ w'.cell? ⟨qz, 3, none⟩ = some (.int .i64 pn)) (first | assumption | simp [*, go_sem])
    (first | (go_at_call 50; refine (DT.out _ (Below.refl _ _).drew).mono ?_; rintro e w3 ⟨i3, v3, M3, rfl, q1, q2, q3, q4⟩; (have W3 := Hid.mk' q1); (have J3 := Hid.mk' q2); (have B3 := Hid.mk' (q3.under (W2.out.keep (Below.refl _ _).drew) B2.out.drew (Nat.le_trans z2.out (Below.refl V2.heap.size V2).drew.size))); (have z3 := Hid.mk' (Nat.le_trans (Nat.le_trans z2.out (Below.refl V2.heap.size V2).drew.size) q3.size)); (have C3 := Hid.mk' q4); clear q1 q2 q3 q4 c0 c1 c2 c3; (obtain ⟨c0, c1, c2, c3⟩ := CZ.out _ B3.out))
           | (go_at_call 74; refine (wset_any bs bs ps po pl pn ((fitB_iff ps po pl pn).1 hf) t gt.out.ft (by omega) k i3 w3 v3 ([] ++ M3) hk.out W3.out J3.out z3.out (by have x1 := C3.out; have x2 := gt.out.ht; simp; omega)).mono ?_; rintro e w4 ⟨i4, v4, M4, rfl, q1, q2, q3, q4⟩; (have W4 := Hid.mk' q1); (have J4 := Hid.mk' q2); (have B4 := Hid.mk' (q3.under W3.out B3.out z3.out)); (have C4 := Hid.mk' q4); clear q1 q2 q3 q4 c0 c1 c2 c3; (obtain ⟨c0, c1, c2, c3⟩ := CZ.out _ B4.out); (have B6 := Hid.mk' (show Below w.heap.size w w4 from B1b.out.trans (B4.out.mono (by rw [HBS.out]; exact B1b.out.size)))))
           | (go_at_call 47; refine (wrows_end (t.setT k ⟨ps, po, pl, pn⟩) i4 bs bs w.heap.size v4 _ w4 (by have x1 := C3.out; have x2 := C4.out; have x3 := gt.out.ht; simp; omega) J4.out W4.out B6.out.size (by rw [(setT_size t k _).1]; omega)).mono ?_; rintro e w6 ⟨l6, rfl, hown, hb6⟩; (have O6 := Hid.mk' hown); (have B7 := Hid.mk' (bT B6.out hb6)); (have B7b := Hid.mk' (B4.out.trans (hb6.mono (Nat.le_trans (show bs ≤ WW.heap.size by rw [HBS.out]; exact Nat.le_refl _) B4.out.size)))); clear hown hb6 c0 c1 c2 c3; (obtain ⟨c0, c1, c2, c3⟩ := CZ.out _ B7b.out)))
  go_wp2
  go_ret2
  exact ⟨l6, rfl, O6.out, B7.out⟩
end Go.Proofs.Ytcaegdfbbjfgpaa
