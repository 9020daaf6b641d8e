/- The contracts of the wood's glue, and of its join at a piece that is not fit. -/
import Derived.Test.YtcaegdfbbjfgpaaSm04
namespace Go.Proofs.Ytcaegdfbbjfgpaa
open Go.RowKit

set_option maxHeartbeats 1000000 in
theorem wglue_l (B : Nat) (ri : Int) (w : World) : Calls Try.prog 73 #[.pointer (some ⟨B, 0, none⟩), .int .i64 (-1), .int .i64 ri] w fun e w' => e = .returned (.int .i64 ri) ∧ w' = w := by
  go_enter Try.func73, Try.ntmps73
  go_wp2
  go_ret
  exact ⟨rfl, rfl⟩
set_option maxHeartbeats 1000000 in
theorem wglue_r (B : Nat) (j : Nat) (w : World) : Calls Try.prog 73 #[.pointer (some ⟨B, 0, none⟩), .int .i64 (j : Int), .int .i64 (-1)] w fun e w' => e = .returned (.int .i64 (j : Int)) ∧ w' = w := by
  have h0 : ¬ ((j : Int) < 0) := by omega
  go_enter Try.func73, Try.ntmps73
  go_wp2
  go_ret
  exact ⟨rfl, rfl⟩

set_option maxRecDepth 100000 in
set_option maxHeartbeats 4000000 in
theorem wglue_two (l r : Tr) (lj rj : Nat) (base B : Nat) (v : Value) (N : List Nd) (w : World) (h0 : 1 ≤ l.size) (hz : Hid (N.length + 152 * (l.ht + 2) ≤ 2097152)) (hs : l.size + r.size ≤ 5700) (gl : Hid (Gd l)) (gr : Hid (Gd r)) (hW : Hid (Wd w base B v N)) (h1 : Hid (Is N l (lj : Int))) (h2 : Hid (Is N r (rj : Int))) (hB : Hid (base ≤ w.heap.size)) :
    Calls Try.prog 73 #[.pointer (some ⟨B, 0, none⟩), .int .i64 (lj : Int), .int .i64 (rj : Int)] w fun e w' => ∃ p, l.list[l.size - 1]? = some p ∧ Mades w base B v N (Tr.joinT (Tr.splitT l (l.size - 1)).1 p r) (152 * (l.ht + 1)) e w' := by
  have n1 : ¬ ((lj : Int) < 0) := by omega
  have n2 : ¬ ((rj : Int) < 0) := by omega
  have hNz : Hid (N.length ≤ 2097152) := by have := hz.out; unfold Hid; omega
  have DS1 := Hid.mk' (wsize_any l lj base B v N w hNz.out hW h1)
  have DG := Hid.mk' (wget_any base B v N hNz.out l (by omega) (l.size - 1) lj w (by omega) hW.out h1.out)
  have hc : Hid (((l.size - 1 : Nat) : Int) = (l.size : Int) - 1) := by unfold Hid; omega
  rw [hc.out] at DG
  have hw1 : IntKind.i64.wrap ((l.size : Int) - 1) = (l.size : Int) - 1 := by rw [IntKind.wrap_i64]; omega
  have hw3 : (l.size : Int) ≤ 5700 := by omega
  have hw4 : (1 : Int) ≤ (l.size : Int) := by omega
  go_enter Try.func73, Try.ntmps73
  go_wp2_with (go_at_call 90; refine DS1.out.mono ?_; rintro e w' ⟨rfl, hq⟩; (have hq' := hq.symm); clear hq; subst hq')
  refine DG.out.mono ?_
  rintro e w2 ⟨s, o, n, m, hg, rfl, hb2⟩
  have HG := Hid.mk' hg
  have B2 := Hid.mk' hb2
  clear hg hb2 DG DS1
  go_upto_region 6 with fail
  have HBK := Hid.mk' (Blk.new w2 32 #[.int .i64 s, .int .i64 o, .int .i64 n, .int .i64 m])
  have BW := Hid.mk' (bAlloc B2.out (.cells #[.int .i64 s, .int .i64 o, .int .i64 n, .int .i64 m] 32))
  have NE := Hid.mk' (blk_new_ne (hW.out.keep B2.out))
  generalize hW3 : w2.alloc (.cells #[.int .i64 s, .int .i64 o, .int .i64 n, .int .i64 m] 32) = W3 at *
  clear hW3
  have hqz : w2.heap.size < W3.heap.size := HBK.out.lt
  obtain ⟨qb, hqb⟩ : ∃ q, q = w2.heap.size := ⟨_, rfl⟩
  rw [← hqb] at HBK hqz NE ⊢
  clear hqb B2
  have D3 := Hid.mk' (hW.out.keep BW.out)
  have b3 := Hid.mk' (show base ≤ W3.heap.size by have := hB.out; have := BW.out.size; omega)
  have G3 := Hid.mk' (show Grw w W3 B v v from Grw.below BW.out)
  have DS2 := Hid.mk' (wsize_any l lj base B v N W3 hNz.out D3 h1)
  have DP := Hid.mk' (wsplit_any base B l gl.out.wh.1 gl.out.ft (by omega) (l.size - 1) lj W3 v N (by omega) D3.out (by rw [Tr.blk_black gl.out.wh.2]; exact h1.out) b3.out (by have := hz.out; omega))
  rw [hc.out] at DP
  go_wp2_with (go_at_call 90; refine DS2.out.mono ?_; rintro e w' ⟨rfl, rfl⟩)
  refine DP.out.mono ?_
  rintro e w4 ⟨c4, d4, v4, M4, rfl, q1, q2, q2b, q3, q4⟩
  have K4 := Hid.mk' (q3.blk HBK.out NE.out.1 NE.out.2)
  have b4 := Hid.mk' (show base ≤ w4.heap.size by have := b3.out; have := q3.size; omega)
  have G4 := Hid.mk' (G3.out.trans q3)
  have W4 := Hid.mk' q1
  have J4 := Hid.mk' q2
  have C4 := Hid.mk' q4
  clear q1 q2 q2b q3 q4 DP DS2
  obtain ⟨z0, z1, z2, z3⟩ := K4.out.four
  have SG := Hid.mk' (split_gd (t := l) (l.size - 1) gl.out.wh.1 gl.out.ft (by omega))
  have DJ := Hid.mk' (wjoin_any (Tr.splitT l (l.size - 1)).1 r c4 rj s o n m base B v4 (N ++ M4) w4 (by have x0 := hz.out; have x1 := C4.out; have x2 := SG.out.1.ht; have x3 := gr.out.ht; rw [List.length_append]; omega) (by have x1 := SG.out.2.2.1; omega) ((Tr.fits_list l).1 gl.out.ft _ (List.mem_of_getElem? HG.out)) ⟨SG.out.1.ft, SG.out.1.wh⟩ ⟨gr.out.ft, gr.out.wh⟩ W4.out J4.out (h2.out.more M4) b4.out)
  go_wp2_with fail
  refine DJ.out.mono ?_
  rintro e w5 ⟨i5, v5, M5, rfl, q1, q2, q3, q4⟩
  have FIN := Hid.mk' (And.intro q1 (And.intro q2 (And.intro (G4.out.trans q3) q4)))
  clear q1 q2 q3 q4 DJ
  go_wp2
  go_ret
  exact ⟨_, HG.out, i5, v5, M4 ++ M5, rfl, by have := FIN.out.1; simpa only [List.append_assoc] using this, by have := FIN.out.2.1; simpa only [List.append_assoc] using this, FIN.out.2.2.1, by have x1 := FIN.out.2.2.2; have x2 := C4.out; have x3 := SG.out.1.ht; have x4 := gr.out.ht; rw [List.length_append]; omega⟩

theorem wglue_any (l r : Tr) (li ri : Int) (base B : Nat) (v : Value) (N : List Nd) (w : World) (hz : N.length + 152 * (l.ht + 2) ≤ 2097152) (hs : l.size + r.size ≤ 5700) (gl : Gd l) (gr : Gd r) (hW : Wd w base B v N) (h1 : Is N l li) (h2 : Is N r ri) (hB : base ≤ w.heap.size) :
    Calls Try.prog 73 #[.pointer (some ⟨B, 0, none⟩), .int .i64 li, .int .i64 ri] w fun e w' => Mades w base B v N (Tr.gluT l r) (152 * (l.ht + 1)) e w' := by
  cases l using Tr.el with
  | nil =>
    have e : li = -1 := h1
    subst e
    refine (wglue_l B ri w).mono ?_
    rintro e w' ⟨rfl, rfl⟩
    exact ⟨ri, v, [], rfl, by simpa using hW, by simpa [Tr.gluT] using h2, Grw.refl _ _ _, Nat.zero_le _⟩
  | node c a p b =>
    cases r using Tr.el with
    | nil =>
      have e : ri = -1 := h2
      subst e
      have hh := h1
      obtain ⟨j, _, _, rfl, _⟩ := hh
      refine (wglue_r B j w).mono ?_
      rintro e w' ⟨rfl, rfl⟩
      exact ⟨j, v, [], rfl, by simpa using hW, by simpa [Tr.gluT] using h1, Grw.refl _ _ _, Nat.zero_le _⟩
    | node c' a' p' b' =>
      have hh := h1
      obtain ⟨j, _, _, rfl, _⟩ := hh
      have hh := h2
      obtain ⟨j', _, _, rfl, _⟩ := hh
      refine (wglue_two _ _ j j' base B v N w (by simp only [Tr.size]; omega) hz hs gl gr hW h1 h2 hB).mono ?_
      rintro e w' ⟨q, hq, hm⟩
      have : Tr.gluT (Tr.mk (some (c, a, p, b))) (Tr.mk (some (c', a', p', b'))) = Tr.joinT (Tr.splitT (Tr.mk (some (c, a, p, b))) ((Tr.mk (some (c, a, p, b))).size - 1)).1 q (Tr.mk (some (c', a', p', b'))) := by
        unfold Tr.gluT
        simp only [hq]
      rw [this]
      exact hm

set_option maxHeartbeats 2000000 in
theorem wjoin_un (l r : Tr) (li ri ps po pl pn : Int) (base B : Nat) (v : Value) (N : List Nd) (w : World) (hz : N.length + 152 * (l.ht + 2) ≤ 2097152) (hs : l.size + r.size ≤ 5700) (hp : fitB pl pn = false) (gl : Hid (Gd l)) (gr : Hid (Gd r)) (hW : Hid (Wd w base B v N)) (h1 : Hid (Is N l li)) (h2 : Hid (Is N r ri)) (hB : Hid (base ≤ w.heap.size)) :
    Calls Try.prog 71 #[.pointer (some ⟨B, 0, none⟩), .int .i64 li, .agg #[.int .i64 ps, .int .i64 po, .int .i64 pl, .int .i64 pn], .int .i64 ri] w fun e w' => Mades w base B v N (Tr.gluT l r) (152 * (l.ht + 1)) e w' := by
  have BW := Hid.mk' (bAlloc (bAlloc (Below.refl w.heap.size w) (.cells #[.int .i64 ps, .int .i64 po, .int .i64 pl, .int .i64 pn] 32)) (.cells #[.int .i64 ps, .int .i64 po, .int .i64 pl, .int .i64 pn] 32))
  have DG := Hid.mk' (wglue_any l r li ri base B v N _ hz hs gl.out gr.out (hW.out.keep BW.out) h1.out h2.out (by have := hB.out; have := BW.out.size; omega))
  go_enter Try.func71, Try.ntmps71
  go_wp2_with (go_at_call 25; refine (refFit_any ps po pl pn _).mono ?_; rintro e w5 ⟨rfl, rfl⟩; rw [hp])
  refine DG.out.mono ?_
  rintro e w5 ⟨i5, v5, M5, rfl, q1, q2, q3, q4⟩
  have FIN := Hid.mk' (And.intro q1 (And.intro q2 (And.intro ((Grw.below BW.out).trans q3) q4)))
  clear q1 q2 q3 q4 DG
  go_wp2
  go_ret
  exact ⟨i5, v5, M5, rfl, FIN.out.1, FIN.out.2.1, FIN.out.2.2.1, FIN.out.2.2.2⟩
end Go.Proofs.Ytcaegdfbbjfgpaa
