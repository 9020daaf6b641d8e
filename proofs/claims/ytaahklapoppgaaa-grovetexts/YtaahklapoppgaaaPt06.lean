/- GroveTexts, walked. -/
import Derived.Test.YtaahklapoppgaaaPt05
import Derived.Test.YtaahklapoppgaaaPm24
namespace Go.Proofs.Ytaahklapoppgaaa
open Go.RowKit

set_option maxRecDepth 8000
/-- what lies in memory at a step's beginning -/
structure Gst (w0 W : World) (b5 b8 i : Nat) (ta : Option Addr) (tn tc xg n xc B k : Nat) (now : Int) (lo hi : Nat) (H : List Nr) (X : List Value) (S : List (Nat × Nat)) (t : List UInt8) (T : List (List UInt8)) (mm : List Int) : Prop where
  bel : Below w0.heap.size w0 W
  k5 : Blk W b5 24 #[.slice (some ⟨B, 0, none⟩) n k, .int .i64 now]
  k8 : Blk W b8 41 (mk mm)
  hst : Hst lo hi W B H X S
  hn : H.length = n
  hk : n ≤ k
  tx : W.ownsRow w0.heap.size 5 1 (.slice ta tn tc) tn (bv t)
  tl : t.length = tn
  sv : Sv w0.heap.size W xg n xc T
  p : TxI (2000 + 100 * i) ((i : Int) * 180268000) (H.map Nr.d) now t T mm
  ln : n ≤ i + 1
  mw : Mw mm
  l5 : w0.heap.size ≤ b5
  l8 : w0.heap.size ≤ b8
theorem Gst.keep {w0 W W' : World} {b5 b8 i : Nat} {ta : Option Addr} {tn tc xg n xc B k : Nat} {now : Int} {lo hi : Nat} {H : List Nr} {X : List Value} {S : List (Nat × Nat)} {t : List UInt8} {T : List (List UInt8)} {mm : List Int} (h : Gst w0 W b5 b8 i ta tn tc xg n xc B k now lo hi H X S t T mm) (hb : Below W.heap.size W W') : Gst w0 W' b5 b8 i ta tn tc xg n xc B k now lo hi H X S t T mm :=
  ⟨bT h.bel hb, h.k5.keep hb, h.k8.keep hb, h.hst.keep hb, h.hn, h.hk, own_keep h.tx hb, h.tl, h.sv.keep hb, h.p, h.ln, h.mw, h.l5, h.l8⟩
theorem Gst.next {w0 W : World} {b5 b8 i : Nat} {ta : Option Addr} {tn tc xg n xc B k : Nat} {now : Int} {lo hi : Nat} {H : List Nr} {X : List Value} {S : List (Nat × Nat)} {t : List UInt8} {T : List (List UInt8)} {mm : List Int} (h : Gst w0 W b5 b8 i ta tn tc xg n xc B k now lo hi H X S t T mm) : Gst w0 W b5 b8 (i + 1) ta tn tc xg n xc B k now lo hi H X S t T mm :=
  ⟨h.bel, h.k5, h.k8, h.hst, h.hn, h.hk, h.tx, h.tl, h.sv, h.p.mono (by omega) (by omega), by have := h.ln; omega, h.mw, h.l5, h.l8⟩
/-- a crossing behind which the law goes on -/
theorem Gst.cross {w0 W W' : World} {b5 b8 i : Nat} {ta ta' : Option Addr} {tn tc xg n xc B k tn' tc' B' k' : Nat} {now now' : Int} {lo hi lo' hi' : Nat} {H H' : List Nr} {X X' : List Value} {S S' : List (Nat × Nat)} {t t' : List UInt8} {T : List (List UInt8)} {mm mm' : List Int} (h : Gst w0 W b5 b8 i ta tn tc xg n xc B k now lo hi H X S t T mm)
    (hH : Hst lo' hi' W B' H' X' S') (hn : H'.length = n) (hk : n ≤ k') (ht : W.ownsRow w0.heap.size 5 1 (.slice ta' tn' tc') tn' (bv t')) (htl : t'.length = tn') (hp : TxI (2000 + 100 * i) (((i + 1 : Nat) : Int) * 180268000) (H'.map Nr.d) now' t' T mm') (hm : Mw mm')
    (hW : W' = (W.setCells b5 0 [.slice (some ⟨B', 0, none⟩) n k', .int .i64 now']).setCells b8 0 (ml mm')) : Gst w0 W' b5 b8 (i + 1) ta' tn' tc' xg n xc B' k' now' lo' hi' H' X' S' t' T mm' := by
  subst hW
  have w1 : Wr 24 W (W.setCells b5 0 [.slice (some ⟨B', 0, none⟩) n k', .int .i64 now']) := wr_blk h.k5 (grown_setCells _ _ _)
  have k51 : Blk (W.setCells b5 0 [.slice (some ⟨B', 0, none⟩) n k', .int .i64 now']) b5 24 #[.slice (some ⟨B', 0, none⟩) n k', .int .i64 now'] := put_blk (cs := [.slice (some ⟨B', 0, none⟩) n k', .int .i64 now']) (old := [.slice (some ⟨B, 0, none⟩) n k, .int .i64 now]) rfl h.k5
  have k81 := h.k8.wr w1 (by decide)
  have w2 : Wr 41 (W.setCells b5 0 [.slice (some ⟨B', 0, none⟩) n k', .int .i64 now']) ((W.setCells b5 0 [.slice (some ⟨B', 0, none⟩) n k', .int .i64 now']).setCells b8 0 (ml mm')) := wr_blk k81 (grown_setCells _ _ _)
  have h1 := h.l5
  have h2 := h.l8
  refine ⟨below_setCells h2 _ _ (below_setCells h1 _ _ h.bel), k51.wr w2 (by decide), put_blk (cs := ml mm') (old := ml mm) (by rw [ml_len, ml_len, hm.len, h.mw.len]) k81, (hH.wr w1 (by decide) (by decide) (by decide)).wr w2 (by decide) (by decide) (by decide), hn, hk, own_wr (own_wr ht w1 (by decide)) w2 (by decide), htl, (h.sv.wr w1 (by decide)).wr w2 (by decide), hp.mono (by omega) (Int.le_refl _), by have := h.ln; omega, hm, h1, h2⟩
theorem Gst.ten {w0 W : World} {b5 b8 i : Nat} {ta : Option Addr} {tn tc xg n xc B k : Nat} {now : Int} {lo hi : Nat} {H : List Nr} {X : List Value} {S : List (Nat × Nat)} {t : List UInt8} {T : List (List UInt8)} {mm : List Int} (h : Gst w0 W b5 b8 i ta tn tc xg n xc B k now lo hi H X S t T mm) (hi : i ≤ 200) : Tx W ta tn tc t ∧ tn ≤ 22000 ∧ T.length = n ∧ 0 < n := by
  have h1 := h.p.tlen
  have h2 := h.tl
  have h3 := h.p.r.pos
  rw [List.length_map, h.hn] at h3
  exact ⟨own_tx' h.tx (by omega), by omega, h.sv.len, h3⟩
theorem two_put {W : World} {p1 p2 : Nat} {v u a a' : Value} {c c' : Int} {m m' : List Int} (P2 : Blk W p2 24 #[v, u]) (P1 : Blk W p1 50 (cxa a c m)) (hm : m.length = 27) (hm' : m'.length = 27) (v' u' : Value) :
    W.cell? ⟨p2, 0, none⟩ = some v ∧ W.cell? ⟨p2, 1, none⟩ = some u ∧ (∀ j, W.frozen? ⟨p2, j, none⟩ = false) ∧ ((W.setCell ⟨p2, 0, none⟩ v').setCell ⟨p2, 1, none⟩ u').there p1 0 29 ∧
    W.grownBy ((W.setCell ⟨p2, 0, none⟩ v').setCell ⟨p2, 1, none⟩ u') (some p2) ∧ Blk ((W.setCell ⟨p2, 0, none⟩ v').setCell ⟨p2, 1, none⟩ u') p1 50 (cxa a c m) ∧
    ((W.setCell ⟨p2, 0, none⟩ v').setCell ⟨p2, 1, none⟩ u').grownBy (((W.setCell ⟨p2, 0, none⟩ v').setCell ⟨p2, 1, none⟩ u').setCells p1 0 (cx a' c' m')) (some p1) ∧
    Blk (((W.setCell ⟨p2, 0, none⟩ v').setCell ⟨p2, 1, none⟩ u').setCells p1 0 (cx a' c' m')) p2 24 #[v', u'] ∧ Blk (((W.setCell ⟨p2, 0, none⟩ v').setCell ⟨p2, 1, none⟩ u').setCells p1 0 (cx a' c' m')) p1 50 (cxa a' c' m') := by
  have hne : p1 ≠ p2 := fun e => by
    subst e
    unfold Blk at P1 P2
    rw [P1] at P2
    simp at P2
  have g1 := grown2 W p2 v' u'
  have Q1 := P1.grown g1 (fun e => by injection e with e; exact hne e)
  have f := set24 (v' := v') (u' := u') P2
  have ht : ((W.setCell ⟨p2, 0, none⟩ v').setCell ⟨p2, 1, none⟩ u').there p1 0 29 := by
    have := there_blk (cs := cx a c m) Q1
    rwa [cx_len hm] at this
  refine ⟨P2.cell rfl, P2.cell rfl, P2.frozen, ht, g1, Q1, grown_setCells _ _ _, blk_setCells_off hne.symm _ _ f, put_blk (cs := cx a' c' m') (old := cx a c m) (by rw [cx_len hm, cx_len hm']) Q1⟩
theorem Gst.box {w0 W W1 W' : World} {b5 b8 i p1 p2 : Nat} {cs1 cs2 : Array Value} {ta : Option Addr} {tn tc xg n xc B k : Nat} {now : Int} {lo hi : Nat} {H : List Nr} {X : List Value} {S : List (Nat × Nat)} {t : List UInt8} {T : List (List UInt8)} {mm : List Int} (h : Gst w0 W b5 b8 i ta tn tc xg n xc B k now lo hi H X S t T mm) (hne : b5 ≠ p2) (h2 : w0.heap.size ≤ p2) (h1 : w0.heap.size ≤ p1) (P2 : Blk W p2 24 cs2) (g2 : W.grownBy W1 (some p2)) (P1 : Blk W1 p1 50 cs1) (g1 : W1.grownBy W' (some p1)) : Gst w0 W' b5 b8 i ta tn tc xg n xc B k now lo hi H X S t T mm := by
  have w2 := wr_blk P2 g2
  have w1 := wr_blk P1 g1
  exact ⟨(h.bel.grown g2 h.bel.size (fun k hk => by injection hk with hk; omega)).grown g1 (Nat.le_trans h.bel.size g2.size) (fun k hk => by injection hk with hk; omega), (h.k5.grown g2 (fun e => by injection e with e; exact hne e)).wr w1 (by decide), (h.k8.wr w2 (by decide)).wr w1 (by decide), (h.hst.wr w2 (by decide) (by decide) (by decide)).wr w1 (by decide) (by decide) (by decide), h.hn, h.hk, own_wr (own_wr h.tx w2 (by decide)) w1 (by decide), h.tl, (h.sv.wr w2 (by decide)).wr w1 (by decide), h.p, h.ln, h.mw, h.l5, h.l8⟩
theorem Gst.one {w0 W W1 : World} {b5 b8 i p2 : Nat} {cs2 : Array Value} {ta : Option Addr} {tn tc xg n xc B k : Nat} {now : Int} {lo hi : Nat} {H : List Nr} {X : List Value} {S : List (Nat × Nat)} {t : List UInt8} {T : List (List UInt8)} {mm : List Int} (h : Gst w0 W b5 b8 i ta tn tc xg n xc B k now lo hi H X S t T mm) (hne : b5 ≠ p2) (h2 : w0.heap.size ≤ p2) (P2 : Blk W p2 24 cs2) (g2 : W.grownBy W1 (some p2)) : Gst w0 W1 b5 b8 i ta tn tc xg n xc B k now lo hi H X S t T mm := by
  have w2 := wr_blk P2 g2
  exact ⟨h.bel.grown g2 h.bel.size (fun k hk => by injection hk with hk; omega), h.k5.grown g2 (fun e => by injection e with e; exact hne e), h.k8.wr w2 (by decide), h.hst.wr w2 (by decide) (by decide) (by decide), h.hn, h.hk, own_wr h.tx w2 (by decide), h.tl, h.sv.wr w2 (by decide), h.p, h.ln, h.mw, h.l5, h.l8⟩
/-- a change more, behind which the law goes on -/
theorem Gst.added {w0 W W1 W2 : World} {b5 b8 i q : Nat} {ta ta' : Option Addr} {tn tc xg n xc B k tn' tc' B' k' n2 : Nat} {now : Int} {lo hi lo' hi' : Nat} {H H' : List Nr} {X X' : List Value} {S S' : List (Nat × Nat)} {t t' : List UInt8} {T : List (List UInt8)} {mm : List Int} (h : Gst w0 W b5 b8 i ta tn tc xg n xc B k now lo hi H X S t T mm)
    (hH : Hst lo' hi' W B' H' X' S') (hn : H'.length = n2) (e2 : n2 = n + 1) (hk : n2 ≤ k') (ht : W.ownsRow w0.heap.size 5 1 (.slice ta' tn' tc') tn' (bv t')) (htl : t'.length = tn') (hp : TxI (2000 + 100 * (i + 1)) (((i + 1 : Nat) : Int) * 180268000) (H'.map Nr.d) (n : Int) t' (T ++ [t']) mm) (hn9 : n ≤ 201) (hn0 : 0 < n)
    (hW1 : W1 = (W.setCell ⟨b5, 0, none⟩ (.slice (some ⟨B', 0, none⟩) n2 k')).setCell ⟨b5, 1, none⟩ (.int .i64 (n : Int))) (hW2 : W2 = W1.alloc (.cells #[.string ⟨t'.toArray⟩] 9)) (hq : q = W1.heap.size) :
    ∃ xg' xc' W3, (∀ ty, (Builtin.append_ #[72, 72] ty #[.slice (some ⟨xg, 0, none⟩) n xc, .slice (some ⟨q, 0, none⟩) 1 1]).run Try.prog W2 = .ok (.slice (some ⟨xg', 0, none⟩) n2 xc') W3) ∧ Gst w0 W3 b5 b8 (i + 1) ta' tn' tc' xg' n2 xc' B' k' (n : Int) lo' hi' H' X' S' t' (T ++ [t']) mm := by
  subst e2
  have g1 : W.grownBy W1 (some b5) := by rw [hW1]; exact grown2 W b5 _ _
  have w1 := wr_blk h.k5 g1
  have k51 : Blk W1 b5 24 #[.slice (some ⟨B', 0, none⟩) (n + 1) k', .int .i64 (n : Int)] := by rw [hW1]; exact set24 h.k5
  have b1 : Below w0.heap.size w0 W1 := h.bel.grown g1 h.bel.size (fun k hk => by injection hk with hk; have := h.l5; omega)
  have b12 : Below W1.heap.size W1 W2 := by rw [hW2]; exact bAlloc (Below.refl _ _) _
  have hqb : Blk W2 q 9 #[.string ⟨t'.toArray⟩] := by rw [hW2, hq]; exact Blk.new W1 9 _
  have sv2 := (h.sv.wr w1 (by decide)).keep b12
  have b2 := bT b1 b12
  obtain ⟨xg', xc', W3, hrun, sv3, w3, b3⟩ := sv2.app (by omega) hn0 hqb b2.size
  refine ⟨xg', xc', W3, hrun, b2.trans b3, (k51.keep b12).wr w3 (by decide), ((h.k8.wr w1 (by decide)).keep b12).wr w3 (by decide), ((hH.wr w1 (by decide) (by decide) (by decide)).keep b12).wr w3 (by decide) (by decide) (by decide), hn, hk, own_wr (own_keep (own_wr ht w1 (by decide)) b12) w3 (by decide), htl, sv3, hp, by have := h.ln; omega, h.mw, h.l5, h.l8⟩
/-- a list of one edit -/
theorem edz_one {W : World} {g base : Nat} {R : Er} (h : Blk W g 77 R.cs) (ho : Oe W base R) : Edz W (some ⟨g, 0, none⟩) [R] := by
  refine ⟨fun k r hk => ?_, fun k r hk => ?_⟩
  · match k, hk with
    | 0, hk => simp at hk; subst hk; exact ⟨g, 0, rfl, h.cell rfl, h.cell rfl, h.cell rfl⟩
    | k + 1, hk => simp at hk
  · match k, hk with
    | 0, hk => simp at hk; subst hk; exact ho.et
    | k + 1, hk => simp at hk
structure One (W : World) (g base : Nat) (R : Er) : Prop where
  b : Blk W g 77 R.cs
  o : Oe W base R
theorem One.keep {W W' : World} {g base : Nat} {R : Er} (h : One W g base R) (hb : Below W.heap.size W W') : One W' g base R := ⟨h.b.keep hb, h.o.keep hb⟩
theorem One.wr {W W' : World} {g base e : Nat} {R : Er} (h : One W g base R) (hw : Wr e W W') (h1 : e ≠ 77) (h2 : e ≠ 5) : One W' g base R := ⟨h.b.wr hw (fun h => h1 h.symm), own_wr h.o.t1 hw (fun h => h2 h.symm), own_wr h.o.t2 hw (fun h => h2 h.symm), h.o.far, h.o.b1, h.o.b2⟩
set_option maxHeartbeats 64000000 in
set_option linter.unusedSimpArgs false in
theorem groveTexts_walk' (Z : List Int) (hZ : zm = Z) (HZ50 : Hid (∀ w, (zeroValue 50).run Try.prog w = .ok (.agg (cxa (.slice none 0 0) 0 Z)) w)) (HZ41 : Hid (∀ w, (zeroValue 41).run Try.prog w = .ok (.agg (mk Z)) w)) (ua : Option Addr) (un uc : Nat) (t0 : List UInt8) (so : Option Addr) (sn sc : Nat) (L : List Sp) (w : World) (HT : Hid (Tx w ua un uc t0)) (HS : Hid (Stz w so L)) (hL : L.length = sn) :
    Calls Try.prog 8 #[.slice ua un uc, .slice so sn sc] w fun e w' => e = .returned (.bool true) ∧ Below w.heap.size w w' := by
  have HL := Hid.mk' hL
  have HZm := Hid.mk' hZ
  have hZl : Z.length = 27 := by rw [← hZ]; rfl
  have HTl := Hid.mk' HT.out.len
  clear hL hZ
  go_enter Try.func8, Try.ntmps8
  go_wp2_with fail
  refine (awake_any _).mono ?_
  rintro e w2 ⟨rfl, hb2⟩
  have L2 := Hid.mk' hb2
  clear hb2
  dsimp only
  by_cases h200 : 200 < sn
  · have h2 : (200 : Int) < (sn : Int) := by omega
    go_wp2
    go_ret
    exact ⟨rfl, L2.out⟩
  by_cases h2000 : 2000 < un
  · have h1 : ¬ (200 : Int) < (sn : Int) := by omega
    have h2 : (2000 : Int) < (un : Int) := by omega
    go_wp2
    go_ret
    exact ⟨rfl, L2.out⟩
  have h1 : ¬ (200 : Int) < (sn : Int) := by omega
  have h2 : ¬ (2000 : Int) < (un : Int) := by omega
  have HN9 : Hid (sn ≤ 200 ∧ un ≤ 2000) := by unfold Hid; omega
  go_upto_region 5 with fail
  clear h1 h2 h200 h2000
  go_wp2_with fail
  refine (new_any _).mono ?_
  rintro e w3 ⟨B, H, X, S, rfl, hD, -, hst, hb3⟩
  have L3 := Hid.mk' (bT L2.out hb3)
  have H3 := Hid.mk' hst
  have HD := Hid.mk' hD
  have HH1 : Hid (H.length = 1) := by have := congrArg List.length hD; rw [List.length_map] at this; exact this
  obtain ⟨lo, hlo⟩ : ∃ x, w2.heap.size = x := ⟨_, rfl⟩
  obtain ⟨hi, hhi⟩ : ∃ x, w3.heap.size = x := ⟨_, rfl⟩
  rw [hlo, hhi] at H3
  clear hb3 hst hD L2 hlo hhi
  dsimp only [List.length_singleton, Nat.add_zero]
  obtain ⟨W4, hW4⟩ : ∃ x, w3.alloc (.cells #[.slice none 0 0, .int .i64 0] 24) = x := ⟨_, rfl⟩
  obtain ⟨b5, hq⟩ : ∃ x, w3.heap.size = x := ⟨_, rfl⟩
  obtain ⟨f0, f1, f4, f5⟩ := box24_facts hW4 hq
  go_upto_region 6 with fail
  obtain ⟨x4, y4⟩ := Bx.put (n := 1) (k := 1) (now := 0) hW4 hq H3.out.grz
  have K4 := Hid.mk' x4.b
  have L4 := Hid.mk' (bT L3.out y4)
  have H4 := Hid.mk' (H3.out.keep y4)
  have B5 : Hid (w.heap.size ≤ b5) := by unfold Hid; rw [← hq]; exact L3.out.size
  clear x4 y4 f0 f1 f4 f5 hW4 hq H3 L3
  generalize (W4.setCell ⟨b5, 0, none⟩ (.slice (some ⟨B, 0, none⟩) 1 1)).setCell ⟨b5, 1, none⟩ (.int .i64 0) = w4 at *
  have HT4 := Hid.mk' (HT.out.keep L4.out)
  have RM := Hid.mk' (World.ownsRow_made w4 (e := 5) (size := 1) #[] 0 L4.out.size (Nat.zero_le _) rfl)
  have BM := Hid.mk' (bAlloc (Below.refl w4.heap.size w4) (.cells #[] 5))
  go_upto_region 7 with (at_builtin; refine append_big rfl (.tmp 32) (.tmp 33) rfl w.heap.size (.slice (some ⟨w4.heap.size, 0, none⟩) 0 0) 0 [] rfl RM.out (.slice ua un uc) un (bv t0) rfl ((HT4.out.keep BM.out).srv) (by rw [bv_length]; exact HTl.out) (bv_one t0) (by have := HN9.out; omega) (by have := HN9.out; omega) (Nat.le_trans L4.out.size BM.out.size) ?_)
  intro v' w5 ho hg hf
  obtain ⟨ta, tc, rfl⟩ := own_shape ho
  have B45 : Hid (Below w4.heap.size w4 w5) := BM.out.grown hg (by simp) (fun k hk => by simp [Value.ownBlock] at hk; omega)
  have O5 : Hid (w5.ownsRow w.heap.size 5 1 (.slice ta un tc) un (bv t0)) := ho
  have L5 := Hid.mk' (bT L4.out B45.out)
  have H5 := Hid.mk' (H4.out.keep B45.out)
  have K5 := Hid.mk' (K4.out.keep B45.out)
  have v1 := conv_tx (HT.out.keep L5.out)
  clear ho hg hf RM BM HT4 H4 K4 L4 B45
  obtain ⟨W6, hW6⟩ : ∃ x, w5.alloc (.cells #[.string ⟨t0.toArray⟩] 9) = x := ⟨_, rfl⟩
  obtain ⟨xg, hxg⟩ : ∃ x, w5.heap.size = x := ⟨_, rfl⟩
  obtain ⟨w7, hW7⟩ : ∃ x, W6.alloc (.cells (mk Z) 41) = x := ⟨_, rfl⟩
  obtain ⟨b8, hb8⟩ : ∃ x, W6.heap.size = x := ⟨_, rfl⟩
  have B56 : Hid (Below w5.heap.size w5 W6) := by unfold Hid; rw [← hW6]; exact bAlloc (Below.refl _ _) _
  have B67 : Hid (Below W6.heap.size W6 w7) := by unfold Hid; rw [← hW7]; exact bAlloc (Below.refl _ _) _
  have X6 : Hid (Sv w.heap.size W6 xg 1 1 [t0]) := by unfold Hid; rw [← hW6, ← hxg]; exact Sv.new L5.out.size t0
  have M7 : Hid (Blk w7 b8 41 (mk Z)) := by unfold Hid; rw [← hW7, ← hb8]; exact Blk.new W6 41 _
  have G7 : Hid (Gst w w7 b5 b8 0 ta un tc xg 1 1 B 1 0 lo hi H X S t0 [t0] Z) := by
    have h57 := bT B56.out B67.out
    refine ⟨bT L5.out h57, K5.out.keep h57, M7.out, H5.out.keep h57, HH1.out, Nat.le_refl _, own_keep O5.out h57, HTl.out, X6.out.keep B67.out, ?_, by omega, by rw [← HZm.out]; exact mw_zm, B5.out, by rw [← hb8]; exact (bT L5.out B56.out).size⟩
    rw [HD.out, ← HZm.out]
    exact (TxI.new (q := 2000 + 100 * 0) (by have := HN9.out; have := HTl.out; omega)).mono (Nat.le_refl _) (by omega)
  have hz41 := HZ41.out
  go_upto_region 9 with fail
  clear v1 hW6 hxg hW7 hb8 B56 B67 X6 M7 O5 L5 H5 K5 B5 hz41 HD HH1
  go_wp2_with fail
  go_loopg [6, 7, 9] sn (fun m x6 x7 x9 wx => ∃ (i : Nat) (ta : Option Addr) (tn tc xg n xc B k : Nat) (now : Int) (lo hi : Nat) (H : List Nr) (X : List Value) (S : List (Nat × Nat)) (t : List UInt8) (T : List (List UInt8)) (mm : List Int), x6 = .slice ta tn tc ∧ x7 = .slice (some ⟨xg, 0, none⟩) n xc ∧ x9 = .int .i64 (i : Int) ∧ i + m = sn ∧ Hid (Gst w wx b5 b8 i ta tn tc xg n xc B k now lo hi H X S t T mm))
  case atStart => exact ⟨0, ta, un, tc, xg, 1, 1, B, 1, 0, lo, hi, H, X, S, t0, [t0], Z, rfl, rfl, rfl, by omega, G7.out⟩
  case round =>
    clear G7
    obtain ⟨i, ta, tn, tc, xg, n, xc, B, k, now, lo, hi, H, X, S, t, T, mm, rfl, rfl, rfl, him, KG⟩ := hrel
    obtain ⟨go, hgo⟩ : ∃ g, g = gk - 1 := ⟨_, rfl⟩
    by_cases hin : i < sn
    · have hin' : (i : Int) < (sn : Int) := by omega
      have hi0 : (0 : Int) ≤ (i : Int) := by omega
      have hw8 : IntKind.i64.wrap ((i : Int) + 1) = ((i + 1 : Nat) : Int) := by rw [IntKind.wrap_i64]; have := HN9.out; omega
      have HI : Hid (i < 200) := by unfold Hid; have := HN9.out; omega
      obtain ⟨s, hs⟩ : ∃ s, L[i]? = some s := ⟨_, List.getElem?_eq_getElem (by have := HL.out; omega)⟩
      obtain ⟨⟨g, o, rfl, h5⟩, hz⟩ := HS.out i s hs
      have HSZ : Hid (Tx wr s.p s.l s.c s.S) := hz.tx.keep KG.out.bel
      have HSA := Hid.mk' hz.a
      have HSN := Hid.mk' hz.n
      have HST := Hid.mk' hz.t
      have h5 := h5.keep KG.out.bel
      obtain ⟨sk, sa, sm, st, sp, sl, sd, SS⟩ := s
      have c0 := h5.c0
      have c1 := h5.c1
      have c2 := h5.c2
      have c3 := h5.c3
      have c4 := h5.c4
      dsimp only at HSZ HSA HSN HST c0 c1 c2 c3 c4
      have a5 : wr.cell? ⟨b5, 0, none⟩ = some (.slice (some ⟨B, 0, none⟩) n k) := KG.out.k5.cell rfl
      have a6 : wr.cell? ⟨b5, 1, none⟩ = some (.int .i64 now) := KG.out.k5.cell rfl
      clear hs h5 hz
      obtain ⟨W1, hW1⟩ : ∃ x, wr.alloc (.cells #[.int .i64 sk, .int .i64 sa, .int .i64 sm, .int .i64 st, .slice sp sl sd] 74) = x := ⟨_, rfl⟩
      obtain ⟨p0, hp0⟩ : ∃ x, wr.heap.size = x := ⟨_, rfl⟩
      obtain ⟨W2, hW2⟩ : ∃ x, W1.alloc (.cells (cxa (.slice none 0 0) 0 Z) 50) = x := ⟨_, rfl⟩
      obtain ⟨p1, hp1⟩ : ∃ x, W1.heap.size = x := ⟨_, rfl⟩
      obtain ⟨w3, hW3⟩ : ∃ x, W2.alloc (.cells #[.slice (some ⟨B, 0, none⟩) n k, .int .i64 now] 24) = x := ⟨_, rfl⟩
      obtain ⟨p2, hp2⟩ : ∃ x, W2.heap.size = x := ⟨_, rfl⟩
      have B01 : Hid (Below wr.heap.size wr W1) := by unfold Hid; rw [← hW1]; exact bAlloc (Below.refl _ _) _
      have B12 : Hid (Below W1.heap.size W1 W2) := by unfold Hid; rw [← hW2]; exact bAlloc (Below.refl _ _) _
      have B23 : Hid (Below W2.heap.size W2 w3) := by unfold Hid; rw [← hW3]; exact bAlloc (Below.refl _ _) _
      have P0 : Hid (Blk w3 p0 74 #[.int .i64 sk, .int .i64 sa, .int .i64 sm, .int .i64 st, .slice sp sl sd]) := by
        have : Blk W1 p0 74 #[.int .i64 sk, .int .i64 sa, .int .i64 sm, .int .i64 st, .slice sp sl sd] := by rw [← hW1, ← hp0]; exact Blk.new wr 74 _
        exact this.keep (bT B12.out B23.out)
      have P1 : Hid (Blk w3 p1 50 (cxa (.slice none 0 0) 0 Z)) := by
        have : Blk W2 p1 50 (cxa (.slice none 0 0) 0 Z) := by rw [← hW2, ← hp1]; exact Blk.new W1 50 _
        exact this.keep B23.out
      have P2 : Hid (Blk w3 p2 24 #[.slice (some ⟨B, 0, none⟩) n k, .int .i64 now]) := by unfold Hid; rw [← hW3, ← hp2]; exact Blk.new W2 24 _
      have B03 : Hid (Below wr.heap.size wr w3) := bT (bT B01.out B12.out) B23.out
      have a51 := cell_keep a5 (bT B01.out B12.out)
      have a61 := cell_keep a6 (bT B01.out B12.out)
      have G3 := Hid.mk' (KG.out.keep B03.out)
      have TS := Hid.mk' (HSZ.out.keep B03.out)
      have PN : Hid (p0 ≥ w.heap.size ∧ p1 ≥ w.heap.size ∧ p2 ≥ w.heap.size ∧ b5 ≠ p2) := by
        have i1 := KG.out.bel.size
        have i2 := B01.out.size
        have i3 := B12.out.size
        have i4 := KG.out.k5.lt
        unfold Hid; omega
      have hz50 := HZ50.out
      go_upto_region 16 with fail
      clear a5 a6 a51 a61 hW1 hp0 hW2 hp1 hW3 hp2 B01 B12 B23 B03 hz50 c0 c1 c2 c3 c4 KG HSZ
      have q0 : w3.cell? ⟨p0, 0, none⟩ = some (.int .i64 sk) := P0.out.cell rfl
      obtain ⟨hTx, htn, hTn, hn0⟩ := G3.out.ten (by have := HI.out; omega)
      have HTx := Hid.mk' hTx
      have HTN : Hid (tn ≤ 22000 ∧ T.length = n ∧ 0 < n) := ⟨htn, hTn, hn0⟩
      clear hTx htn hTn hn0
      by_cases hk0 : sk = 0
      · subst hk0
        go_upto_region 18 with fail
        clear q0
        as_aux_lemma =>
          have s4 : w3.cell? ⟨p0, 4, none⟩ = some (.slice sp sl sd) := P0.out.cell rfl
          by_cases h100 : 100 < sl
          · have h101 : (100 : Int) < (sl : Int) := by omega
            go_wp2
            go_roundg go
            case measure => omega
            case rel => exact ⟨i + 1, ta, tn, tc, xg, n, xc, B, k, now, lo, hi, H, X, S, t, T, mm, rfl, rfl, by go_num, by omega, G3.out.next⟩
          have h101 : ¬ (100 : Int) < (sl : Int) := by omega
          have HSL : Hid (sl ≤ 100) := by unfold Hid; omega
          have HLN : Hid (n ≤ 201) := by have := G3.out.ln; have := HI.out; unfold Hid; omega
          go_upto_region 19 with fail
          clear h100 h101 s4
          obtain ⟨t1, ht1⟩ : ∃ x, tn + 1 = x := ⟨_, rfl⟩
          obtain ⟨k1, hk1', CP⟩ := place_any sa (t1 : Int) HSA.out (by omega) (by have := HTN.out; omega)
          have HK1 : Hid (k1 ≤ tn) := by unfold Hid; omega
          have hwt : IntKind.i64.wrap ((tn : Int) + 1) = (t1 : Int) := by rw [IntKind.wrap_i64]; have := HTN.out; omega
          have s1 : w3.cell? ⟨p0, 1, none⟩ = some (.int .i64 sa) := P0.out.cell rfl
          go_wp2_with fail
          refine (CP w3).mono ?_
          rintro e wq ⟨rfl, hwq⟩
          have hwq2 := hwq.symm
          subst hwq2
          clear hwq CP hwt s1 hk1' ht1
          dsimp only
          obtain ⟨d1, hd1⟩ : ∃ x, tn - k1 = x := ⟨_, rfl⟩
          obtain ⟨d2, hd2⟩ : ∃ x, d1 + 1 = x := ⟨_, rfl⟩
          have hws : IntKind.i64.wrap ((tn : Int) - (k1 : Int)) = (d1 : Int) := by rw [IntKind.wrap_i64]; have := HTN.out; have := HK1.out; omega
          have hwd : IntKind.i64.wrap ((d1 : Int) + 1) = (d2 : Int) := by rw [IntKind.wrap_i64]; have := HTN.out; omega
          obtain ⟨k2, hk2', CP⟩ := place_any sm (d2 : Int) HSN.out (by omega) (by have := HTN.out; omega)
          have HK2 : Hid (k1 + k2 ≤ tn) := by have := HK1.out; unfold Hid; omega
          have hwa : IntKind.i64.wrap ((k1 : Int) + (k2 : Int)) = (k1 : Int) + (k2 : Int) := by rw [IntKind.wrap_i64]; have := HTN.out; have := HK2.out; omega
          obtain ⟨oa, oc, hsl, hTo⟩ := sl_lh (lo := k1) (m := k2) HTx.out HK2.out
          obtain ⟨OO, hOO⟩ : ∃ x, (t.drop k1).take k2 = x := ⟨_, rfl⟩
          rw [hOO] at hTo
          have HTO := Hid.mk' hTo
          have HOO := Hid.mk' hOO
          have s2 : w3.cell? ⟨p0, 2, none⟩ = some (.int .i64 sm) := P0.out.cell rfl
          clear hTo hOO hk2' hd1 hd2
          go_wp2_with fail
          refine (CP w3).mono ?_
          rintro e wq ⟨rfl, hwq⟩
          have hwq2 := hwq.symm
          subst hwq2
          clear hwq CP hws hwd s2
          dsimp only
          go_upto_region 21 with fail
          clear hwa hsl
          have D3 : Hid (Below w3.heap.size w3 w3.drew) := (Below.refl _ _).drew
          have TO := Hid.mk' (HTO.out.keep D3.out)
          have TN := Hid.mk' (TS.out.keep D3.out)
          have P0d := Hid.mk' (P0.out.keep D3.out)
          have BO : Hid (k2 ≤ 140737488355328) := by have := HTN.out; have := HK2.out; unfold Hid; omega
          have BN : Hid (sl ≤ 140737488355328) := by have := HSL.out; unfold Hid; omega
          go_cut [16] from 76 to 86 (fun x16 wx => ∃ (g : Nat) (R : Er), x16 = .slice (some ⟨g, 0, none⟩) 1 1 ∧ Hid (One wx g w3.drew.heap.size R ∧ R.d = ⟨(k1 : Int), OO, SS⟩) ∧ Hid (Below w3.heap.size w3 wx))
          case first =>
            refine wp_region_held (S := fun w' => Below w3.drew.heap.size w3.drew w') (by kernel_rfl) ?_
            change wpAnyH _ _ _ _ _ _ _ _ (World.drew _)
            generalize w3.drew = V3 at *
            refine wpAnyH_take (i := 0) (v := .int .i64 (k1 : Int)) rfl (by kernel_rfl) (by kernel_rfl) (by kernel_rfl) (fun _ _ _ h => h) (Yields.yieldsIf (Or.inl ⟨by rfl, fun w => by go_simp⟩)) (Below.refl _ _) ?_
            try simp only [Act.put, List.getElem_toArray, List.getElem_cons_zero, List.getElem_cons_succ, List.setIfInBounds_toArray, List.set_cons_zero, List.set_cons_succ]
            refine wpAnyH_take (i := 2) (v := .slice oa k2 oc) rfl (by kernel_rfl) (by kernel_rfl) (by kernel_rfl) (fun _ _ _ h => h) (Yields.yieldsIf (Or.inl ⟨by rfl, fun w => by go_simp⟩)) (Below.refl _ _) ?_
            try simp only [Act.put, List.getElem_toArray, List.getElem_cons_zero, List.getElem_cons_succ, List.setIfInBounds_toArray, List.set_cons_zero, List.set_cons_succ]
            refine wpAnyH_take (i := 5) (v := .pointer (some ⟨p0, 4, none⟩)) rfl (by kernel_rfl) (by kernel_rfl) (by kernel_rfl) (fun _ _ _ h => h) (Yields.yieldsIf (Or.inl ⟨by rfl, fun w => by go_simp⟩)) (Below.refl _ _) ?_
            try simp only [Act.put, List.getElem_toArray, List.getElem_cons_zero, List.getElem_cons_succ, List.setIfInBounds_toArray, List.set_cons_zero, List.set_cons_succ]
            refine wpAnyH_take (i := 6) (v := .slice sp sl sd) rfl (by kernel_rfl) (by kernel_rfl) (by kernel_rfl) (fun _ _ _ h => h) (Or.inl ⟨by rfl, fun w9 h9 => by have h4 : w9.cell? ⟨p0, 4, none⟩ = some (.slice sp sl sd) := (P0d.out.keep h9).cell rfl; go_simp⟩) (Below.refl _ _) ?_
            try simp only [Act.put, List.getElem_toArray, List.getElem_cons_zero, List.getElem_cons_succ, List.setIfInBounds_toArray, List.set_cons_zero, List.set_cons_succ]
            refine wpAnyH_all (rs := [1, 4]) (by kernel_rfl) (by simp) (AllH.cons rfl (fun K hK => ?_) (AllH.cons rfl (fun K hK => ?_) AllH.nil))
            · skip
              go_simp
              obtain ⟨ga, hga⟩ : ∃ x, x = V3.heap.size := ⟨_, rfl⟩
              have Sga := Hid.mk' (E1.new (V := V3) (W := V3) (Below.refl _ _) hga)
              rw [← hga]
              clear hga
              generalize V3.alloc (.cells #[] 5) = wga at *
              refine hK _ _ ⟨Sga.out.bel, ?_⟩
              clear hK K
              try simp only [Act.put, List.getElem_toArray, List.getElem_cons_zero, List.getElem_cons_succ, List.setIfInBounds_toArray, List.set_cons_zero, List.set_cons_succ]
              refine wpAnyH_all (rs := [3, 4]) (by kernel_rfl) (by simp) (AllH.cons rfl (fun K hK => ?_) (AllH.cons rfl (fun K hK => ?_) AllH.nil))
              · skip
                obtain ⟨vxa, wxa, hrxa, hsxa⟩ := (Sga.out).grow TO.out BO.out 70
                have Sxa := Hid.mk' hsxa
                obtain ⟨pxa, cxa, rfl⟩ := own_shape hsxa.a
                refine st_tx rfl _ _ rfl _ _ rfl rfl hrxa ?_
                clear hrxa hsxa
                refine hK _ _ ⟨Sxa.out.bel, ?_⟩
                clear hK K
                try simp only [Act.put, List.getElem_toArray, List.getElem_cons_zero, List.getElem_cons_succ, List.setIfInBounds_toArray, List.set_cons_zero, List.set_cons_succ]
                refine wpAnyH_all (rs := [4]) (by kernel_rfl) (by simp) (AllH.cons rfl (fun K hK => ?_) AllH.nil)
                go_simp
                obtain ⟨gb, hgb⟩ : ∃ x, x = wxa.heap.size := ⟨_, rfl⟩
                have Sgb := Hid.mk' (Sxa.out.add hgb)
                rw [← hgb]
                clear hgb
                generalize wxa.alloc (.cells #[] 5) = wgb at *
                refine hK _ _ ⟨Sgb.out.bel, ?_⟩
                clear hK K
                try simp only [Act.put, List.getElem_toArray, List.getElem_cons_zero, List.getElem_cons_succ, List.setIfInBounds_toArray, List.set_cons_zero, List.set_cons_succ]
                refine wpAnyH_all (rs := [7]) (by kernel_rfl) (by simp) (AllH.cons rfl (fun K hK => ?_) AllH.nil)
                obtain ⟨vxb, wxb, hrxb, hsxb⟩ := (Sgb.out.swap).grow TN.out BN.out 70
                replace hsxb := hsxb.swap
                have Sxb := Hid.mk' hsxb
                obtain ⟨pxb, cxb, rfl⟩ := own_shape hsxb.b
                refine st_tx rfl _ _ rfl _ _ rfl rfl hrxb ?_
                clear hrxb hsxb
                refine hK _ _ ⟨Sxb.out.bel, ?_⟩
                clear hK K
                try simp only [Act.put, List.getElem_toArray, List.getElem_cons_zero, List.getElem_cons_succ, List.setIfInBounds_toArray, List.set_cons_zero, List.set_cons_succ]
                refine wpAnyH_take (i := 8) (v := .agg #[.int .i64 (k1 : Int), .slice pxa k2 cxa, .slice pxb sl cxb]) rfl (by kernel_rfl) (by kernel_rfl) (by kernel_rfl) (fun _ _ _ h => h) (Yields.yieldsIf (Or.inl ⟨by rfl, fun w => by go_simp⟩)) Sxb.out.bel ?_
                try simp only [Act.put, List.getElem_toArray, List.getElem_cons_zero, List.getElem_cons_succ, List.setIfInBounds_toArray, List.set_cons_zero, List.set_cons_succ]
                refine wpAnyH_all (rs := [9]) (by kernel_rfl) (by simp) (AllH.cons rfl (fun K hK => ?_) AllH.nil)
                go_simp
                have B6 : Hid (Below V3.heap.size V3 (wxb.alloc (.cells #[.int .i64 (k1 : Int), .slice pxa k2 cxa, .slice pxb sl cxb] 77))) := bT Sxb.out.bel (bAlloc (Below.refl _ _) _)
                have O6 : Hid (Oe (wxb.alloc (.cells #[.int .i64 (k1 : Int), .slice pxa k2 cxa, .slice pxb sl cxb] 77)) V3.heap.size ⟨(k1 : Int), pxa, k2, cxa, OO, pxb, sl, cxb, SS⟩) := (Sxb.out.oe (k1 : Int) BO.out BN.out).keep (bAlloc (Below.refl _ _) _)
                have K6 : Hid (Blk (wxb.alloc (.cells #[.int .i64 (k1 : Int), .slice pxa k2 cxa, .slice pxb sl cxb] 77)) wxb.heap.size 77 #[.int .i64 (k1 : Int), .slice pxa k2 cxa, .slice pxb sl cxb]) := Blk.new wxb 77 _
                obtain ⟨g5, hg5⟩ : ∃ g5, g5 = wxb.heap.size := ⟨_, rfl⟩
                rw [← hg5] at K6 ⊢
                clear hg5
                generalize wxb.alloc (.cells #[.int .i64 (k1 : Int), .slice pxa k2 cxa, .slice pxb sl cxb] 77) = w6 at *
                refine hK _ _ ⟨B6.out, ?_⟩
                clear hK K
                try simp only [Act.put, List.getElem_toArray, List.getElem_cons_zero, List.getElem_cons_succ, List.setIfInBounds_toArray, List.set_cons_zero, List.set_cons_succ]
                refine wpAnyH_take (i := 10) (v := .slice (some ⟨g5, 0, none⟩) 1 1) rfl (by kernel_rfl) (by kernel_rfl) (by kernel_rfl) (fun _ _ _ h => h) (Yields.yieldsIf (Or.inl ⟨by rfl, fun w => by go_simp⟩)) B6.out ?_
                try simp only [Act.put, List.getElem_toArray, List.getElem_cons_zero, List.getElem_cons_succ, List.setIfInBounds_toArray, List.set_cons_zero, List.set_cons_succ]
                refine wpAnyH_done (by kernel_rfl) ?_ _
                go_wp2_with fail
                go_meet
                exact ⟨g5, ⟨(k1 : Int), pxa, k2, cxa, OO, pxb, sl, cxb, SS⟩, rfl, ⟨⟨K6.out, O6.out⟩, rfl⟩, bT D3.out B6.out⟩
              · skip
                go_simp
                obtain ⟨gb, hgb⟩ : ∃ x, x = wga.heap.size := ⟨_, rfl⟩
                have Sgb := Hid.mk' (Sga.out.add hgb)
                rw [← hgb]
                clear hgb
                generalize wga.alloc (.cells #[] 5) = wgb at *
                refine hK _ _ ⟨Sgb.out.bel, ?_⟩
                clear hK K
                try simp only [Act.put, List.getElem_toArray, List.getElem_cons_zero, List.getElem_cons_succ, List.setIfInBounds_toArray, List.set_cons_zero, List.set_cons_succ]
                refine wpAnyH_all (rs := [3]) (by kernel_rfl) (by simp) (AllH.cons rfl (fun K hK => ?_) AllH.nil)
                obtain ⟨vxa, wxa, hrxa, hsxa⟩ := (Sgb.out).grow TO.out BO.out 70
                have Sxa := Hid.mk' hsxa
                obtain ⟨pxa, cxa, rfl⟩ := own_shape hsxa.a
                refine st_tx rfl _ _ rfl _ _ rfl rfl hrxa ?_
                clear hrxa hsxa
                refine hK _ _ ⟨Sxa.out.bel, ?_⟩
                clear hK K
                try simp only [Act.put, List.getElem_toArray, List.getElem_cons_zero, List.getElem_cons_succ, List.setIfInBounds_toArray, List.set_cons_zero, List.set_cons_succ]
                refine wpAnyH_all (rs := [7]) (by kernel_rfl) (by simp) (AllH.cons rfl (fun K hK => ?_) AllH.nil)
                obtain ⟨vxb, wxb, hrxb, hsxb⟩ := (Sxa.out.swap).grow TN.out BN.out 70
                replace hsxb := hsxb.swap
                have Sxb := Hid.mk' hsxb
                obtain ⟨pxb, cxb, rfl⟩ := own_shape hsxb.b
                refine st_tx rfl _ _ rfl _ _ rfl rfl hrxb ?_
                clear hrxb hsxb
                refine hK _ _ ⟨Sxb.out.bel, ?_⟩
                clear hK K
                try simp only [Act.put, List.getElem_toArray, List.getElem_cons_zero, List.getElem_cons_succ, List.setIfInBounds_toArray, List.set_cons_zero, List.set_cons_succ]
                refine wpAnyH_take (i := 8) (v := .agg #[.int .i64 (k1 : Int), .slice pxa k2 cxa, .slice pxb sl cxb]) rfl (by kernel_rfl) (by kernel_rfl) (by kernel_rfl) (fun _ _ _ h => h) (Yields.yieldsIf (Or.inl ⟨by rfl, fun w => by go_simp⟩)) Sxb.out.bel ?_
                try simp only [Act.put, List.getElem_toArray, List.getElem_cons_zero, List.getElem_cons_succ, List.setIfInBounds_toArray, List.set_cons_zero, List.set_cons_succ]
                refine wpAnyH_all (rs := [9]) (by kernel_rfl) (by simp) (AllH.cons rfl (fun K hK => ?_) AllH.nil)
                go_simp
                have B6 : Hid (Below V3.heap.size V3 (wxb.alloc (.cells #[.int .i64 (k1 : Int), .slice pxa k2 cxa, .slice pxb sl cxb] 77))) := bT Sxb.out.bel (bAlloc (Below.refl _ _) _)
                have O6 : Hid (Oe (wxb.alloc (.cells #[.int .i64 (k1 : Int), .slice pxa k2 cxa, .slice pxb sl cxb] 77)) V3.heap.size ⟨(k1 : Int), pxa, k2, cxa, OO, pxb, sl, cxb, SS⟩) := (Sxb.out.oe (k1 : Int) BO.out BN.out).keep (bAlloc (Below.refl _ _) _)
                have K6 : Hid (Blk (wxb.alloc (.cells #[.int .i64 (k1 : Int), .slice pxa k2 cxa, .slice pxb sl cxb] 77)) wxb.heap.size 77 #[.int .i64 (k1 : Int), .slice pxa k2 cxa, .slice pxb sl cxb]) := Blk.new wxb 77 _
                obtain ⟨g5, hg5⟩ : ∃ g5, g5 = wxb.heap.size := ⟨_, rfl⟩
                rw [← hg5] at K6 ⊢
                clear hg5
                generalize wxb.alloc (.cells #[.int .i64 (k1 : Int), .slice pxa k2 cxa, .slice pxb sl cxb] 77) = w6 at *
                refine hK _ _ ⟨B6.out, ?_⟩
                clear hK K
                try simp only [Act.put, List.getElem_toArray, List.getElem_cons_zero, List.getElem_cons_succ, List.setIfInBounds_toArray, List.set_cons_zero, List.set_cons_succ]
                refine wpAnyH_take (i := 10) (v := .slice (some ⟨g5, 0, none⟩) 1 1) rfl (by kernel_rfl) (by kernel_rfl) (by kernel_rfl) (fun _ _ _ h => h) (Yields.yieldsIf (Or.inl ⟨by rfl, fun w => by go_simp⟩)) B6.out ?_
                try simp only [Act.put, List.getElem_toArray, List.getElem_cons_zero, List.getElem_cons_succ, List.setIfInBounds_toArray, List.set_cons_zero, List.set_cons_succ]
                refine wpAnyH_done (by kernel_rfl) ?_ _
                go_wp2_with fail
                go_meet
                exact ⟨g5, ⟨(k1 : Int), pxa, k2, cxa, OO, pxb, sl, cxb, SS⟩, rfl, ⟨⟨K6.out, O6.out⟩, rfl⟩, bT D3.out B6.out⟩
            · skip
              go_simp
              obtain ⟨gb, hgb⟩ : ∃ x, x = V3.heap.size := ⟨_, rfl⟩
              have Sgb := Hid.mk' (E1.new (V := V3) (W := V3) (Below.refl _ _) hgb)
              rw [← hgb]
              clear hgb
              generalize V3.alloc (.cells #[] 5) = wgb at *
              refine hK _ _ ⟨Sgb.out.bel, ?_⟩
              clear hK K
              try simp only [Act.put, List.getElem_toArray, List.getElem_cons_zero, List.getElem_cons_succ, List.setIfInBounds_toArray, List.set_cons_zero, List.set_cons_succ]
              refine wpAnyH_all (rs := [1]) (by kernel_rfl) (by simp) (AllH.cons rfl (fun K hK => ?_) AllH.nil)
              go_simp
              obtain ⟨ga, hga⟩ : ∃ x, x = wgb.heap.size := ⟨_, rfl⟩
              have Sga := Hid.mk' (Sgb.out.add hga)
              replace Sga := Hid.mk' (Sga.out.swap)
              rw [← hga]
              clear hga
              generalize wgb.alloc (.cells #[] 5) = wga at *
              refine hK _ _ ⟨Sga.out.bel, ?_⟩
              clear hK K
              try simp only [Act.put, List.getElem_toArray, List.getElem_cons_zero, List.getElem_cons_succ, List.setIfInBounds_toArray, List.set_cons_zero, List.set_cons_succ]
              refine wpAnyH_all (rs := [3]) (by kernel_rfl) (by simp) (AllH.cons rfl (fun K hK => ?_) AllH.nil)
              obtain ⟨vxa, wxa, hrxa, hsxa⟩ := (Sga.out).grow TO.out BO.out 70
              have Sxa := Hid.mk' hsxa
              obtain ⟨pxa, cxa, rfl⟩ := own_shape hsxa.a
              refine st_tx rfl _ _ rfl _ _ rfl rfl hrxa ?_
              clear hrxa hsxa
              refine hK _ _ ⟨Sxa.out.bel, ?_⟩
              clear hK K
              try simp only [Act.put, List.getElem_toArray, List.getElem_cons_zero, List.getElem_cons_succ, List.setIfInBounds_toArray, List.set_cons_zero, List.set_cons_succ]
              refine wpAnyH_all (rs := [7]) (by kernel_rfl) (by simp) (AllH.cons rfl (fun K hK => ?_) AllH.nil)
              obtain ⟨vxb, wxb, hrxb, hsxb⟩ := (Sxa.out.swap).grow TN.out BN.out 70
              replace hsxb := hsxb.swap
              have Sxb := Hid.mk' hsxb
              obtain ⟨pxb, cxb, rfl⟩ := own_shape hsxb.b
              refine st_tx rfl _ _ rfl _ _ rfl rfl hrxb ?_
              clear hrxb hsxb
              refine hK _ _ ⟨Sxb.out.bel, ?_⟩
              clear hK K
              try simp only [Act.put, List.getElem_toArray, List.getElem_cons_zero, List.getElem_cons_succ, List.setIfInBounds_toArray, List.set_cons_zero, List.set_cons_succ]
              refine wpAnyH_take (i := 8) (v := .agg #[.int .i64 (k1 : Int), .slice pxa k2 cxa, .slice pxb sl cxb]) rfl (by kernel_rfl) (by kernel_rfl) (by kernel_rfl) (fun _ _ _ h => h) (Yields.yieldsIf (Or.inl ⟨by rfl, fun w => by go_simp⟩)) Sxb.out.bel ?_
              try simp only [Act.put, List.getElem_toArray, List.getElem_cons_zero, List.getElem_cons_succ, List.setIfInBounds_toArray, List.set_cons_zero, List.set_cons_succ]
              refine wpAnyH_all (rs := [9]) (by kernel_rfl) (by simp) (AllH.cons rfl (fun K hK => ?_) AllH.nil)
              go_simp
              have B6 : Hid (Below V3.heap.size V3 (wxb.alloc (.cells #[.int .i64 (k1 : Int), .slice pxa k2 cxa, .slice pxb sl cxb] 77))) := bT Sxb.out.bel (bAlloc (Below.refl _ _) _)
              have O6 : Hid (Oe (wxb.alloc (.cells #[.int .i64 (k1 : Int), .slice pxa k2 cxa, .slice pxb sl cxb] 77)) V3.heap.size ⟨(k1 : Int), pxa, k2, cxa, OO, pxb, sl, cxb, SS⟩) := (Sxb.out.oe (k1 : Int) BO.out BN.out).keep (bAlloc (Below.refl _ _) _)
              have K6 : Hid (Blk (wxb.alloc (.cells #[.int .i64 (k1 : Int), .slice pxa k2 cxa, .slice pxb sl cxb] 77)) wxb.heap.size 77 #[.int .i64 (k1 : Int), .slice pxa k2 cxa, .slice pxb sl cxb]) := Blk.new wxb 77 _
              obtain ⟨g5, hg5⟩ : ∃ g5, g5 = wxb.heap.size := ⟨_, rfl⟩
              rw [← hg5] at K6 ⊢
              clear hg5
              generalize wxb.alloc (.cells #[.int .i64 (k1 : Int), .slice pxa k2 cxa, .slice pxb sl cxb] 77) = w6 at *
              refine hK _ _ ⟨B6.out, ?_⟩
              clear hK K
              try simp only [Act.put, List.getElem_toArray, List.getElem_cons_zero, List.getElem_cons_succ, List.setIfInBounds_toArray, List.set_cons_zero, List.set_cons_succ]
              refine wpAnyH_take (i := 10) (v := .slice (some ⟨g5, 0, none⟩) 1 1) rfl (by kernel_rfl) (by kernel_rfl) (by kernel_rfl) (fun _ _ _ h => h) (Yields.yieldsIf (Or.inl ⟨by rfl, fun w => by go_simp⟩)) B6.out ?_
              try simp only [Act.put, List.getElem_toArray, List.getElem_cons_zero, List.getElem_cons_succ, List.setIfInBounds_toArray, List.set_cons_zero, List.set_cons_succ]
              refine wpAnyH_done (by kernel_rfl) ?_ _
              go_wp2_with fail
              go_meet
              exact ⟨g5, ⟨(k1 : Int), pxa, k2, cxa, OO, pxb, sl, cxb, SS⟩, rfl, ⟨⟨K6.out, O6.out⟩, rfl⟩, bT D3.out B6.out⟩
          case rest =>
            obtain ⟨g1, R, rfl, KE, KB⟩ := hcut
            have G5 := Hid.mk' (G3.out.keep KB.out)
            have P05 := Hid.mk' (P0.out.keep KB.out)
            have P25 := Hid.mk' (P2.out.keep KB.out)
            have v1 := conv_tx (HTO.out.keep KB.out)
            have v2 := conv_tx (TS.out.keep KB.out)
            have s4 : wc.cell? ⟨p0, 4, none⟩ = some (.slice sp sl sd) := P05.out.cell rfl
            have KE5 := Hid.mk' KE.out.1
            have KD5 := Hid.mk' KE.out.2
            have HSX : Hid (SS.length = sl) := TS.out.len
            clear D3 TO TN P0d BO BN KE G3 P0 P1 P2 TS HTO HTx
            by_cases hos : OO = SS
            · have q1 : ∀ W, (binOp .eql 9 (.string ⟨OO.toArray⟩) (.string ⟨SS.toArray⟩)).run Try.prog W = .ok (.bool true) W := fun W => by rw [eq9]; simp [hos]
              go_wp2
              go_roundg go
              case measure => omega
              case rel => exact ⟨i + 1, ta, tn, tc, xg, n, xc, B, k, now, lo, hi, H, X, S, t, T, mm, rfl, rfl, by go_num, by omega, G5.out.next⟩
            have q1 : ∀ W, (binOp .eql 9 (.string ⟨OO.toArray⟩) (.string ⟨SS.toArray⟩)).run Try.prog W = .ok (.bool false) W := fun W => by rw [eq9]; simp [hos]
            have HOS := Hid.mk' hos
            have hb1 : (OO == SS) = false := beq_eq_false_iff_ne.2 hos
            go_upto_region 23 with fail
            clear hb1 hos q1 v1 v2 s4
            have hfit : fitB t ⟨(k1 : Int), OO, SS⟩ = true := fitB_iff.2 ⟨k1, rfl, by have := HK1.out; have := G5.out.tl; omega, by
              have h1 := HOO.out
              have h2 := HK2.out
              have h3 := G5.out.tl
              have h4 : OO.length = k2 := by rw [← h1, List.length_take, List.length_drop]; omega
              dsimp only
              rw [h4]; exact h1⟩
            have hSS : SS.length = sl := HSX.out
            obtain ⟨hz0, ha, hX⟩ := G5.out.p.add (q' := 2000 + 100 * (i + 1)) (d := ⟨(k1 : Int), OO, SS⟩) (by rw [List.length_map, G5.out.hn]; have := HLN.out; omega) hfit HOS.out (by omega) (by dsimp only; rw [hSS]; have := HSL.out; omega) (by have := HI.out; omega)
            have CA := add_walk zr rfl z63 (some ⟨B, 0, none⟩) n k now H (some ⟨g1, 0, none⟩) 1 1 [R] (k1 : Int) mm mm wc G5.out.hst.grz G5.out.hn G5.out.hk ⟨edz_one KE5.out.b KE5.out.o, rfl, Nat.le_refl _, (fun h => by cases h), by show 1 * 56 ≤ _; omega, G5.out.mw, G5.out.mw⟩
            dsimp only at hz0 hX
            rw [List.map_cons, List.map_nil, KD5.out, hz0] at CA
            rw [List.length_map, G5.out.hn] at hX
            obtain ⟨D2, hD2⟩ : ∃ x, addG (H.map Nr.d) now ⟨now, 0, [⟨(k1 : Int), OO, SS⟩], (k1 : Int), mm, mm⟩ = x := ⟨_, rfl⟩
            rw [hD2] at CA hX
            have hD2l : D2.length = n + 1 := by rw [← hD2]; unfold addG; rw [List.length_append, List.length_set, List.length_map, G5.out.hn]; rfl
            obtain ⟨u2, hu2⟩ : ∃ x, stp t ⟨(k1 : Int), OO, SS⟩ = x := ⟨_, rfl⟩
            rw [hu2] at ha hX
            have HCA := Hid.mk' CA
            have HAP := Hid.mk' ha
            have HX2 := Hid.mk' hX
            have HDL := Hid.mk' hD2l
            have HSS := Hid.mk' hSS
            have hml := G5.out.mw.len
            have a5 : wc.cell? ⟨b5, 0, none⟩ = some (.slice (some ⟨B, 0, none⟩) n k) := G5.out.k5.cell rfl
            have a6 : wc.cell? ⟨b5, 1, none⟩ = some (.int .i64 now) := G5.out.k5.cell rfl
            clear CA ha hX hD2 hu2 hD2l hz0 hfit hSS
            go_wp2_with (first | refine wl_ld41 (B := b8) (o := 0) (.tmp 8) rfl rfl rfl hml (range_blk G5.out.k8) ?_ | fail)
            refine HCA.out.mono ?_
            rintro e w6 hcr
            obtain ⟨B2, H2, X2, S2, k3, rfl, hG, hk3, hst, hb⟩ := hcr.1 rfl
            obtain ⟨n2, hn2⟩ : ∃ x, H2.length = x := ⟨_, rfl⟩
            rw [hn2] at hk3
            rw [hn2]
            have HN2 := Hid.mk' hn2
            have HK3 := Hid.mk' hk3
            have HE2 : Hid (n2 = n + 1) := by rw [← HDL.out, ← hG, List.length_map, hn2]; rfl
            have HG2 := Hid.mk' hG
            have H6 := Hid.mk' hst
            have G6 := Hid.mk' (G5.out.keep hb)
            have P26 := Hid.mk' (P25.out.keep hb)
            have KE6 := Hid.mk' (KE5.out.keep hb)
            obtain ⟨lo2, hlo2⟩ : ∃ x, wc.heap.size = x := ⟨_, rfl⟩
            obtain ⟨hi2, hhi2⟩ : ∃ x, w6.heap.size = x := ⟨_, rfl⟩
            rw [hlo2, hhi2] at H6
            clear hcr hn2 hk3 hG hst hb HCA a5 a6 hml G5 P25 KE5 P05 KB hlo2 hhi2
            dsimp only
            have y1 : w6.cell? ⟨p2, 0, none⟩ = some (.slice (some ⟨B, 0, none⟩) n k) := P26.out.cell rfl
            have y2 : w6.cell? ⟨p2, 1, none⟩ = some (.int .i64 now) := P26.out.cell rfl
            have y3 := P26.out.frozen
            go_upto_region 24 with fail
            have GA : Hid (w6.grownBy ((w6.setCell ⟨p2, 0, none⟩ (.slice (some ⟨B2, 0, none⟩) n2 k3)).setCell ⟨p2, 1, none⟩ (.int .i64 (n : Int))) (some p2)) := grown2 _ _ _ _
            have P27 : Hid (Blk ((w6.setCell ⟨p2, 0, none⟩ (.slice (some ⟨B2, 0, none⟩) n2 k3)).setCell ⟨p2, 1, none⟩ (.int .i64 (n : Int))) p2 24 #[.slice (some ⟨B2, 0, none⟩) n2 k3, .int .i64 (n : Int)]) := set24 P26.out
            have G7 := Hid.mk' (G6.out.one PN.out.2.2.2 PN.out.2.2.1 P26.out GA.out)
            have H7 := Hid.mk' (H6.out.wr (wr_blk P26.out GA.out) (by decide) (by decide) (by decide))
            have KE7 := Hid.mk' (KE6.out.wr (wr_blk P26.out GA.out) (by decide) (by decide))
            clear y1 y2 y3 GA P26 G6 H6 KE6
            generalize (w6.setCell ⟨p2, 0, none⟩ (.slice (some ⟨B2, 0, none⟩) n2 k3)).setCell ⟨p2, 1, none⟩ (.int .i64 (n : Int)) = w7 at *
            have CAp := Hid.mk' (apply_any ta tn tc t (some ⟨g1, 0, none⟩) 1 1 [R] w7 (own_tx' G7.out.tx (by have := HTN.out; omega)) (by have := HTN.out; omega) (edz_one KE7.out.b KE7.out.o) rfl (by omega) (by unfold Hid; rw [List.map_cons, List.map_nil, KD5.out]; exact mod_of (by simp only [nsum, List.map_cons, List.map_nil, List.sum_cons, List.sum_nil]; have := HSS.out; have := HSL.out; have := HTN.out; have := G7.out.tl; omega)))
            go_wp2_with fail
            refine CAp.out.mono ?_
            clear CAp
            rintro e w8 (⟨u3, v6, hu6, rfl, ho6, hb6⟩ | ⟨hu6, -, -⟩)
            case inr =>
              exfalso
              rw [List.map_cons, List.map_nil, KD5.out, HAP.out] at hu6
              cases hu6
            obtain rfl : u3 = u2 := by rw [List.map_cons, List.map_nil, KD5.out, HAP.out] at hu6; exact (Option.some.inj hu6).symm
            obtain ⟨ta2, tc2, rfl⟩ := own_shape ho6
            obtain ⟨tn2, htn2⟩ : ∃ x, u3.length = x := ⟨_, rfl⟩
            rw [htn2] at ho6
            rw [htn2]
            have HT2 := Hid.mk' htn2
            have OT : Hid (w8.ownsRow w.heap.size 5 1 (.slice ta2 tn2 tc2) tn2 (bv u3)) := own_lower ho6 G7.out.bel.size
            have G8 := Hid.mk' (G7.out.keep hb6)
            have P28 := Hid.mk' (P27.out.keep hb6)
            have H8 := Hid.mk' (H7.out.keep hb6)
            clear hu6 ho6 hb6 htn2 G7 P27 H7 KE7
            dsimp only
            obtain ⟨w9, hw9⟩ : ∃ x, (w8.setCell ⟨b5, 0, none⟩ (.slice (some ⟨B2, 0, none⟩) n2 k3)).setCell ⟨b5, 1, none⟩ (.int .i64 (n : Int)) = x := ⟨_, rfl⟩
            obtain ⟨W10, hW10⟩ : ∃ x, w9.alloc (.cells #[.string ⟨u3.toArray⟩] 9) = x := ⟨_, rfl⟩
            obtain ⟨q9, hq9⟩ : ∃ x, w9.heap.size = x := ⟨_, rfl⟩
            obtain ⟨xg2, xc2, w11, hrun, hG11⟩ := G8.out.added H8.out HN2.out HE2.out HK3.out OT.out HT2.out (by rw [HG2.out]; exact HX2.out.mono (Nat.le_refl _) (by omega)) HLN.out HTN.out.2.2 hw9.symm hW10.symm hq9.symm
            have HRUN := Hid.mk' hrun
            have G11 := Hid.mk' hG11
            have v5 : (convert 70 9 (.slice ta2 tn2 tc2)).run Try.prog w9 = .ok (.string ⟨u3.toArray⟩) w9 := by
              rw [← hw9]
              exact conv_tx (own_tx' (own_wr OT.out (wr_blk G8.out.k5 (grown2 w8 b5 _ _)) (by decide)) (by have := G11.out.p.tlen; have := HT2.out; have := HI.out; omega))
            clear hrun hG11
            have z1 : w8.cell? ⟨p2, 0, none⟩ = some (.slice (some ⟨B2, 0, none⟩) n2 k3) := P28.out.cell rfl
            have z2 : w8.cell? ⟨p2, 1, none⟩ = some (.int .i64 (n : Int)) := P28.out.cell rfl
            have z3 : w8.cell? ⟨b5, 0, none⟩ = some (.slice (some ⟨B, 0, none⟩) n k) := G8.out.k5.cell rfl
            have z4 : w8.cell? ⟨b5, 1, none⟩ = some (.int .i64 now) := G8.out.k5.cell rfl
            have z5 := G8.out.k5.frozen
            go_upto_region 28 with fail
            clear z1 z2 z3 z4 z5
            try rw [hw9]
            clear hw9
            go_wp2_with (first | (at_builtin; refine wl_app2 rfl (.tmp 122) (.tmp 125) 72 rfl rfl rfl HRUN.out ?_) | fail)
            go_roundg go
            case measure => omega
            case rel => exact ⟨i + 1, ta2, tn2, tc2, xg2, n2, xc2, B2, k3, (n : Int), lo2, hi2, H2, X2, S2, u3, T ++ [u3], mm, rfl, rfl, by go_num, by omega, G11.out⟩
      by_cases hk1 : sk = 1
      · subst hk1
        go_upto_region 30 with fail
        clear q0
        as_aux_lemma =>
          have a5 : w3.cell? ⟨b5, 0, none⟩ = some (.slice (some ⟨B, 0, none⟩) n k) := G3.out.k5.cell rfl
          have a6 : w3.cell? ⟨b5, 1, none⟩ = some (.int .i64 now) := G3.out.k5.cell rfl
          have hml := G3.out.mw.len
          have CU := undo_walk zm rfl z50 b50 (some ⟨B, 0, none⟩) n k now H mm w3 G3.out.hst.grz G3.out.hn G3.out.hk G3.out.mw
          have PU := fun (hz : undE (H.map Nr.d) now mm = 0) => G3.out.p.undo (by omega) (by have := HI.out; omega) hz _ rfl
          obtain ⟨z, hz⟩ : ∃ z, undE (H.map Nr.d) now mm = z := ⟨_, rfl⟩
          obtain ⟨S1, hS1⟩ : ∃ S, (Wk.new (H.map Nr.d) now mm).up now.toNat = S := ⟨_, rfl⟩
          rw [hz, hS1] at CU
          rw [hz, hS1] at PU
          rw [HZm.out] at CU
          have HCU := Hid.mk' CU
          have HPU := Hid.mk' PU
          clear CU PU hz hS1
          go_wp2_with (first | refine wl_ld41 (B := b8) (o := 0) (.tmp 8) rfl rfl rfl hml (range_blk G3.out.k8) ?_ | fail)
          refine HCU.out.mono ?_
          rintro e w4 hcr
          clear HCU a5 a6 hml
          by_cases hz : z = 0
          · obtain ⟨lo2, hi2, B2, k2, H2, X2, S2, va, vn, vc, F, rfl, hG, hE, hlo, hst, hls, hF, hmw, hk', hp, hb⟩ := hcr.1 hz
            obtain ⟨u, hU⟩ := HPU.out hz
            have HU0 := Hid.mk' hU
            have HHN : Hid (H2.length = n) := by
              have h1 := hU.2.2.2.2.2.len
              rw [← hG, List.length_map] at h1
              unfold Hid; rw [← h1]; exact HTN.out.2.1
            obtain ⟨j, hj⟩ : ∃ j : Nat, S1.now = (j : Int) := ⟨S1.now.toNat, by have := hU.2.2.1; omega⟩
            have HJ : Hid (j < n ∧ T[j]? = some u) := ⟨by have := hU.2.2.2.1; have := HTN.out; omega, by have := hU.2.1; rw [hj, Int.toNat_natCast] at this; exact this⟩
            obtain ⟨cu2, hcu⟩ : ∃ x, S1.cur = x := ⟨_, rfl⟩
            obtain ⟨mm2, hmm⟩ : ∃ x, S1.m = x := ⟨_, rfl⟩
            have HM2 : Hid (Mw mm2) := by unfold Hid; rw [← hmm]; exact hmw
            have hm2 := HM2.out.len
            have HPX : Hid (TxI (2000 + 100 * i) (((i + 1 : Nat) : Int) * 180268000) (H2.map Nr.d) (j : Int) u T mm2) := by
              have := hU.2.2.2.2.2.mono (b' := ((i + 1 : Nat) : Int) * 180268000) (Nat.le_refl _) (by have := HI.out; omega)
              rw [hG, ← hj, ← hmm]; exact this
            rw [hj, hcu, hmm, HHN.out]
            have HU := HU0
            have HFE := Hid.mk' hE
            have HF := Hid.mk' hF
            have HK2 : Hid (n ≤ k2) := by unfold Hid; rw [← HHN.out]; exact hk'
            have G4 := Hid.mk' (G3.out.keep hb)
            have P14 := Hid.mk' (P1.out.keep hb)
            have P24 := Hid.mk' (P2.out.keep hb)
            have H4 : Hid (Hst lo2 hi2 w4 B2 H2 X2 S2) := hst
            have E4 := Hid.mk' hls
            obtain ⟨y1, y2, y3, y4, y5, y6, y7, y8, y9⟩ := two_put (a' := .slice va vn vc) (c' := cu2) (m' := mm2) P24.out P14.out hZl hm2 (.slice (some ⟨B2, 0, none⟩) n k2) (.int .i64 (j : Int))
            have Y4 := Hid.mk' y4
            have Y5 := Hid.mk' y5
            have Y6 := Hid.mk' y6
            have Y7 := Hid.mk' y7
            have Y8 := Hid.mk' y8
            have Y9 := Hid.mk' y9
            clear hU hj hcu hmm hG hE hF hk' hst hls hb hlo hp hmw HU0 hcr HPU y4 y5 y6 y7 y8 y9 hz G3 P1 P2
            dsimp only
            go_upto_region 35 with (first | refine wl_st50 (B := p1) (o := 0) (.tmp 11) (.tmp 134) rfl rfl rfl rfl hm2 Y4.out ?_ | fail)
            clear y1 y2 y3
            have W1 := wr_blk P24.out Y5.out
            have W2 := wr_blk Y6.out Y7.out
            have G5 := Hid.mk' (G4.out.box PN.out.2.2.2 PN.out.2.2.1 PN.out.2.1 P24.out Y5.out Y6.out Y7.out)
            have H5 := Hid.mk' ((H4.out.wr W1 (by decide) (by decide) (by decide)).wr W2 (by decide) (by decide) (by decide))
            have E5 := Hid.mk' ((E4.out.wr W1 (by decide) (by decide)).wr W2 (by decide) (by decide))
            have P25 := Hid.mk' Y8.out
            have P15 := Hid.mk' Y9.out
            clear W1 W2 Y4 Y5 Y6 Y7 Y8 Y9 G4 H4 E4 P14 P24
            generalize ((w4.setCell ⟨p2, 0, none⟩ (.slice (some ⟨B2, 0, none⟩) n k2)).setCell ⟨p2, 1, none⟩ (.int .i64 (j : Int))).setCells p1 0 (cx (.slice va vn vc) cu2 mm2) = w5 at *
            go_upto_region 38 with fail
            have e0 : w5.cell? ⟨p1, 0, none⟩ = some (.slice va vn vc) := P15.out.cell rfl
            have CAp := Hid.mk' (apply_any ta tn tc t va vn vc F w5 (own_tx' G5.out.tx (by have := HTN.out; omega)) (by have := HTN.out; omega) E5.out.ez HF.out (by have := HU.out.2.2.2.2.1.2; have := HFE.out; have := HF.out; have := congrArg List.length HFE.out; rw [List.length_map] at this; omega) (by unfold Hid; rw [HFE.out]; exact mod_of (by have := HU.out.2.2.2.2.1.1; have := HTN.out; have := G5.out.tl; have := HI.out; omega)))
            go_wp2_with fail
            refine CAp.out.mono ?_
            clear CAp e0
            rintro e w6 (⟨u2, v6, hu6, rfl, ho6, hb6⟩ | ⟨hu6, -, -⟩)
            case inr =>
              exfalso
              rw [HFE.out, HU.out.1] at hu6
              cases hu6
            obtain rfl : u2 = u := by rw [HFE.out, HU.out.1] at hu6; exact (Option.some.inj hu6).symm
            obtain ⟨ta2, tc2, rfl⟩ := own_shape ho6
            obtain ⟨tn2, htn2⟩ : ∃ x, u2.length = x := ⟨_, rfl⟩
            rw [htn2] at ho6
            rw [htn2]
            have HT2 := Hid.mk' htn2
            have OT : Hid (w6.ownsRow w.heap.size 5 1 (.slice ta2 tn2 tc2) tn2 (bv u2)) := own_lower ho6 G5.out.bel.size
            have HT9 : Hid (tn2 ≤ 22000) := by
              have := HU.out.2.2.2.2.2.tlen
              have := HT2.out
              have := HI.out
              unfold Hid; omega
            have G6 := Hid.mk' (G5.out.keep hb6)
            have P16 := Hid.mk' (P15.out.keep hb6)
            have P26 := Hid.mk' (P25.out.keep hb6)
            have H6 := Hid.mk' (H5.out.keep hb6)
            clear hu6 ho6 hb6 htn2 G5 P15 P25 H5 E5 HF HFE HTx TS
            dsimp only
            have hj0 : ¬ (j : Int) < 0 := by omega
            have hjn0 : ¬ (n : Int) ≤ (j : Int) := by have := HJ.out; omega
            have hjz : (0 : Int) ≤ (j : Int) := by omega
            have hjz2 : (j : Int) < (n : Int) := by have := HJ.out; omega
            have qn := fun W => ne9_no u2 W
            go_upto_region 39 with fail
            have D6 : Hid (Below w6.heap.size w6 w6.drew) := (Below.refl _ _).drew
            have G7 := Hid.mk' (G6.out.keep D6.out)
            have P17 := Hid.mk' (P16.out.keep D6.out)
            have P27 := Hid.mk' (P26.out.keep D6.out)
            have H7 := Hid.mk' (H6.out.keep D6.out)
            have O7 := Hid.mk' (own_keep OT.out D6.out)
            have J7 : Hid (T[j]? = some u2) := HJ.out.2
            clear G6 P16 P26 H6 OT D6
            refine wp_region_held (S := fun w' => w' = w6.drew) (by kernel_rfl) ?_
            change wpAnyH _ _ _ _ _ _ _ _ (World.drew _)
            generalize w6.drew = V6 at *
            refine wpAnyH_take (i := 0) (v := .int .i64 0) rfl (by kernel_rfl) (by kernel_rfl) (by kernel_rfl) (fun _ _ _ h => h) (Yields.yieldsIf (Or.inl ⟨by rfl, fun w => by go_simp⟩)) rfl ?_
            try simp only [Act.put, List.getElem_toArray, List.getElem_cons_zero, List.getElem_cons_succ, List.setIfInBounds_toArray, List.set_cons_zero, List.set_cons_succ]
            refine wpAnyH_take (i := 1) (v := .bool false) rfl (by kernel_rfl) (by kernel_rfl) (by kernel_rfl) (fun _ _ _ h => h) (Yields.yieldsIf (Or.inl ⟨by rfl, fun w => by go_simp⟩)) rfl ?_
            try simp only [Act.put, List.getElem_toArray, List.getElem_cons_zero, List.getElem_cons_succ, List.setIfInBounds_toArray, List.set_cons_zero, List.set_cons_succ]
            refine wpAnyH_take (i := 2) (v := .bool false) rfl (by kernel_rfl) (by kernel_rfl) (by kernel_rfl) (fun _ _ _ h => h) (Yields.yieldsIf (Or.inl ⟨by rfl, fun w => by go_simp⟩)) rfl ?_
            try simp only [Act.put, List.getElem_toArray, List.getElem_cons_zero, List.getElem_cons_succ, List.setIfInBounds_toArray, List.set_cons_zero, List.set_cons_succ]
            refine wpAnyH_take (i := 3) (v := .pointer (some ⟨p2, 1, none⟩)) rfl (by kernel_rfl) (by kernel_rfl) (by kernel_rfl) (fun _ _ _ h => h) (Yields.yieldsIf (Or.inl ⟨by rfl, fun w => by go_simp⟩)) rfl ?_
            try simp only [Act.put, List.getElem_toArray, List.getElem_cons_zero, List.getElem_cons_succ, List.setIfInBounds_toArray, List.set_cons_zero, List.set_cons_succ]
            refine wpAnyH_take (i := 4) (v := .int .i64 (j : Int)) rfl (by kernel_rfl) (by kernel_rfl) (by kernel_rfl) (fun _ _ _ h => h) (Or.inl ⟨by rfl, fun w9 h9 => by subst h9; have h1 : w9.cell? ⟨p2, 1, none⟩ = some (.int .i64 (j : Int)) := P27.out.cell rfl; have h2 := G7.out.sv.cell J7.out; have h3 := conv_tx (own_tx' O7.out (by have := HT9.out; omega)); go_simp⟩) rfl ?_
            try simp only [Act.put, List.getElem_toArray, List.getElem_cons_zero, List.getElem_cons_succ, List.setIfInBounds_toArray, List.set_cons_zero, List.set_cons_succ]
            refine wpAnyH_take (i := 5) (v := .bool false) rfl (by kernel_rfl) (by kernel_rfl) (by kernel_rfl) (fun _ _ _ h => h) (Yields.yieldsIf (Or.inl ⟨by rfl, fun w => by go_simp⟩)) rfl ?_
            try simp only [Act.put, List.getElem_toArray, List.getElem_cons_zero, List.getElem_cons_succ, List.setIfInBounds_toArray, List.set_cons_zero, List.set_cons_succ]
            refine wpAnyH_take (i := 6) (v := .bool false) rfl (by kernel_rfl) (by kernel_rfl) (by kernel_rfl) (fun _ _ _ h => h) (Yields.yieldsIf (Or.inl ⟨by rfl, fun w => by go_simp⟩)) rfl ?_
            try simp only [Act.put, List.getElem_toArray, List.getElem_cons_zero, List.getElem_cons_succ, List.setIfInBounds_toArray, List.set_cons_zero, List.set_cons_succ]
            refine wpAnyH_take (i := 7) (v := .bool false) rfl (by kernel_rfl) (by kernel_rfl) (by kernel_rfl) (fun _ _ _ h => h) (Yields.yieldsIf (Or.inl ⟨by rfl, fun w => by go_simp⟩)) rfl ?_
            try simp only [Act.put, List.getElem_toArray, List.getElem_cons_zero, List.getElem_cons_succ, List.setIfInBounds_toArray, List.set_cons_zero, List.set_cons_succ]
            refine wpAnyH_take (i := 8) (v := .pointer (some ⟨p2, 1, none⟩)) rfl (by kernel_rfl) (by kernel_rfl) (by kernel_rfl) (fun _ _ _ h => h) (Yields.yieldsIf (Or.inl ⟨by rfl, fun w => by go_simp⟩)) rfl ?_
            try simp only [Act.put, List.getElem_toArray, List.getElem_cons_zero, List.getElem_cons_succ, List.setIfInBounds_toArray, List.set_cons_zero, List.set_cons_succ]
            refine wpAnyH_take (i := 9) (v := .int .i64 (j : Int)) rfl (by kernel_rfl) (by kernel_rfl) (by kernel_rfl) (fun _ _ _ h => h) (Or.inl ⟨by rfl, fun w9 h9 => by subst h9; have h1 : w9.cell? ⟨p2, 1, none⟩ = some (.int .i64 (j : Int)) := P27.out.cell rfl; have h2 := G7.out.sv.cell J7.out; have h3 := conv_tx (own_tx' O7.out (by have := HT9.out; omega)); go_simp⟩) rfl ?_
            try simp only [Act.put, List.getElem_toArray, List.getElem_cons_zero, List.getElem_cons_succ, List.setIfInBounds_toArray, List.set_cons_zero, List.set_cons_succ]
            refine wpAnyH_take (i := 10) (v := .slice (some ⟨xg, 0, none⟩) n xc) rfl (by kernel_rfl) (by kernel_rfl) (by kernel_rfl) (fun _ _ _ h => h) (Yields.yieldsIf (Or.inl ⟨by rfl, fun w => by go_simp⟩)) rfl ?_
            try simp only [Act.put, List.getElem_toArray, List.getElem_cons_zero, List.getElem_cons_succ, List.setIfInBounds_toArray, List.set_cons_zero, List.set_cons_succ]
            refine wpAnyH_take (i := 11) (v := .int .i64 ((n : Nat) : Int)) rfl (by kernel_rfl) (by kernel_rfl) (by kernel_rfl) (fun _ _ _ h => h) (Yields.yieldsIf (Or.inl ⟨by rfl, fun w => by go_simp⟩)) rfl ?_
            try simp only [Act.put, List.getElem_toArray, List.getElem_cons_zero, List.getElem_cons_succ, List.setIfInBounds_toArray, List.set_cons_zero, List.set_cons_succ]
            refine wpAnyH_take (i := 12) (v := .bool false) rfl (by kernel_rfl) (by kernel_rfl) (by kernel_rfl) (fun _ _ _ h => h) (Yields.yieldsIf (Or.inl ⟨by rfl, fun w => by go_simp⟩)) rfl ?_
            try simp only [Act.put, List.getElem_toArray, List.getElem_cons_zero, List.getElem_cons_succ, List.setIfInBounds_toArray, List.set_cons_zero, List.set_cons_succ]
            refine wpAnyH_take (i := 13) (v := .bool false) rfl (by kernel_rfl) (by kernel_rfl) (by kernel_rfl) (fun _ _ _ h => h) (Yields.yieldsIf (Or.inl ⟨by rfl, fun w => by go_simp⟩)) rfl ?_
            try simp only [Act.put, List.getElem_toArray, List.getElem_cons_zero, List.getElem_cons_succ, List.setIfInBounds_toArray, List.set_cons_zero, List.set_cons_succ]
            refine wpAnyH_take (i := 14) (v := .bool false) rfl (by kernel_rfl) (by kernel_rfl) (by kernel_rfl) (fun _ _ _ h => h) (Yields.yieldsIf (Or.inl ⟨by rfl, fun w => by go_simp⟩)) rfl ?_
            try simp only [Act.put, List.getElem_toArray, List.getElem_cons_zero, List.getElem_cons_succ, List.setIfInBounds_toArray, List.set_cons_zero, List.set_cons_succ]
            refine wpAnyH_take (i := 15) (v := .slice ta2 tn2 tc2) rfl (by kernel_rfl) (by kernel_rfl) (by kernel_rfl) (fun _ _ _ h => h) (Yields.yieldsIf (Or.inl ⟨by rfl, fun w => by go_simp⟩)) rfl ?_
            try simp only [Act.put, List.getElem_toArray, List.getElem_cons_zero, List.getElem_cons_succ, List.setIfInBounds_toArray, List.set_cons_zero, List.set_cons_succ]
            refine wpAnyH_take (i := 16) (v := .string ⟨u2.toArray⟩) rfl (by kernel_rfl) (by kernel_rfl) (by kernel_rfl) (fun _ _ _ h => h) (Or.inl ⟨by rfl, fun w9 h9 => by subst h9; have h1 : w9.cell? ⟨p2, 1, none⟩ = some (.int .i64 (j : Int)) := P27.out.cell rfl; have h2 := G7.out.sv.cell J7.out; have h3 := conv_tx (own_tx' O7.out (by have := HT9.out; omega)); go_simp⟩) rfl ?_
            try simp only [Act.put, List.getElem_toArray, List.getElem_cons_zero, List.getElem_cons_succ, List.setIfInBounds_toArray, List.set_cons_zero, List.set_cons_succ]
            refine wpAnyH_take (i := 17) (v := .slice (some ⟨xg, 0, none⟩) n xc) rfl (by kernel_rfl) (by kernel_rfl) (by kernel_rfl) (fun _ _ _ h => h) (Yields.yieldsIf (Or.inl ⟨by rfl, fun w => by go_simp⟩)) rfl ?_
            try simp only [Act.put, List.getElem_toArray, List.getElem_cons_zero, List.getElem_cons_succ, List.setIfInBounds_toArray, List.set_cons_zero, List.set_cons_succ]
            refine wpAnyH_take (i := 18) (v := .pointer (some ⟨p2, 1, none⟩)) rfl (by kernel_rfl) (by kernel_rfl) (by kernel_rfl) (fun _ _ _ h => h) (Yields.yieldsIf (Or.inl ⟨by rfl, fun w => by go_simp⟩)) rfl ?_
            try simp only [Act.put, List.getElem_toArray, List.getElem_cons_zero, List.getElem_cons_succ, List.setIfInBounds_toArray, List.set_cons_zero, List.set_cons_succ]
            refine wpAnyH_take (i := 19) (v := .int .i64 (j : Int)) rfl (by kernel_rfl) (by kernel_rfl) (by kernel_rfl) (fun _ _ _ h => h) (Or.inl ⟨by rfl, fun w9 h9 => by subst h9; have h1 : w9.cell? ⟨p2, 1, none⟩ = some (.int .i64 (j : Int)) := P27.out.cell rfl; have h2 := G7.out.sv.cell J7.out; have h3 := conv_tx (own_tx' O7.out (by have := HT9.out; omega)); go_simp⟩) rfl ?_
            try simp only [Act.put, List.getElem_toArray, List.getElem_cons_zero, List.getElem_cons_succ, List.setIfInBounds_toArray, List.set_cons_zero, List.set_cons_succ]
            refine wpAnyH_take (i := 20) (v := .pointer (some ⟨xg, j, none⟩)) rfl (by kernel_rfl) (by kernel_rfl) (by kernel_rfl) (fun _ _ _ h => h) (Yields.yieldsIf (Or.inl ⟨by rfl, fun w => by go_simp⟩)) rfl ?_
            try simp only [Act.put, List.getElem_toArray, List.getElem_cons_zero, List.getElem_cons_succ, List.setIfInBounds_toArray, List.set_cons_zero, List.set_cons_succ]
            refine wpAnyH_take (i := 21) (v := .string ⟨u2.toArray⟩) rfl (by kernel_rfl) (by kernel_rfl) (by kernel_rfl) (fun _ _ _ h => h) (Or.inl ⟨by rfl, fun w9 h9 => by subst h9; have h1 : w9.cell? ⟨p2, 1, none⟩ = some (.int .i64 (j : Int)) := P27.out.cell rfl; have h2 := G7.out.sv.cell J7.out; have h3 := conv_tx (own_tx' O7.out (by have := HT9.out; omega)); go_simp⟩) rfl ?_
            try simp only [Act.put, List.getElem_toArray, List.getElem_cons_zero, List.getElem_cons_succ, List.setIfInBounds_toArray, List.set_cons_zero, List.set_cons_succ]
            refine wpAnyH_take (i := 22) (v := .bool false) rfl (by kernel_rfl) (by kernel_rfl) (by kernel_rfl) (fun _ _ _ h => h) (Yields.yieldsIf (Or.inl ⟨by rfl, fun w => by go_simp⟩)) rfl ?_
            try simp only [Act.put, List.getElem_toArray, List.getElem_cons_zero, List.getElem_cons_succ, List.setIfInBounds_toArray, List.set_cons_zero, List.set_cons_succ]
            refine wpAnyH_take (i := 23) (v := .bool false) rfl (by kernel_rfl) (by kernel_rfl) (by kernel_rfl) (fun _ _ _ h => h) (Yields.yieldsIf (Or.inl ⟨by rfl, fun w => by go_simp⟩)) rfl ?_
            try simp only [Act.put, List.getElem_toArray, List.getElem_cons_zero, List.getElem_cons_succ, List.setIfInBounds_toArray, List.set_cons_zero, List.set_cons_succ]
            refine wpAnyH_done (by kernel_rfl) ?_ _
            clear hj0 hjn0 qn
            go_upto_region 41 with fail
            have D6 : Hid (Below V6.heap.size V6 V6.drew) := (Below.refl _ _).drew
            have G8 := Hid.mk' (G7.out.keep D6.out)
            have P18 := Hid.mk' (P17.out.keep D6.out)
            have P28 := Hid.mk' (P27.out.keep D6.out)
            have H8 := Hid.mk' (H7.out.keep D6.out)
            have O8 := Hid.mk' (own_keep O7.out D6.out)
            clear G7 P17 P27 H7 O7 D6
            refine wp_region_held (S := fun w' => Blk w' p1 50 (cxa (.slice va vn vc) cu2 mm2) ∧ Blk w' p2 24 #[.slice (some ⟨B2, 0, none⟩) n k2, .int .i64 (j : Int)]) (by kernel_rfl) ?_
            change wpAnyH _ _ _ _ _ _ _ _ (World.drew _)
            generalize V6.drew = V8 at *
            refine wpAnyH_take (i := 0) (v := .agg #[.slice (some ⟨B2, 0, none⟩) n k2, .int .i64 (j : Int)]) rfl (by kernel_rfl) (by kernel_rfl) (by kernel_rfl) (fun _ _ _ h => h) (Or.inl ⟨by rfl, fun w9 h9 => by obtain ⟨h1, h2⟩ := h9; have h3 : w9.cell? ⟨p2, 0, none⟩ = some (.slice (some ⟨B2, 0, none⟩) n k2) := h2.cell rfl; have h4 : w9.cell? ⟨p2, 1, none⟩ = some (.int .i64 (j : Int)) := h2.cell rfl; go_simp⟩) ⟨P18.out, P28.out⟩ ?_
            try simp only [Act.put, List.getElem_toArray, List.getElem_cons_zero, List.getElem_cons_succ, List.setIfInBounds_toArray, List.set_cons_zero, List.set_cons_succ]
            refine wpAnyH_take (i := 1) (v := .slice ta2 tn2 tc2) rfl (by kernel_rfl) (by kernel_rfl) (by kernel_rfl) (fun _ _ _ h => h) (Yields.yieldsIf (Or.inl ⟨by rfl, fun w => by go_simp⟩)) ⟨P18.out, P28.out⟩ ?_
            try simp only [Act.put, List.getElem_toArray, List.getElem_cons_zero, List.getElem_cons_succ, List.setIfInBounds_toArray, List.set_cons_zero, List.set_cons_succ]
            refine wpAnyH_take (i := 2) (v := .pointer (some ⟨p1, 2, none⟩)) rfl (by kernel_rfl) (by kernel_rfl) (by kernel_rfl) (fun _ _ _ h => h) (Yields.yieldsIf (Or.inl ⟨by rfl, fun w => by go_simp⟩)) ⟨P18.out, P28.out⟩ ?_
            try simp only [Act.put, List.getElem_toArray, List.getElem_cons_zero, List.getElem_cons_succ, List.setIfInBounds_toArray, List.set_cons_zero, List.set_cons_succ]
            refine wpAnyH_take (i := 3) (v := .agg (mk mm2)) rfl (by kernel_rfl) (by kernel_rfl) (by kernel_rfl) (fun _ _ _ h => h) (yi_ld ty41 rfl (.tmp 197) rfl rfl (ml mm2) (by rw [ml_len, hm2]) (fun _ h => (Cb.of h.1).mr)) ⟨P18.out, P28.out⟩ ?_
            try simp only [Act.put, List.getElem_toArray, List.getElem_cons_zero, List.getElem_cons_succ, List.setIfInBounds_toArray, List.set_cons_zero, List.set_cons_succ]
            refine wpAnyH_all (rs := [4]) (by kernel_rfl) (by simp) (AllH.cons rfl (fun K hK => ?_) AllH.nil)
            have q5 : Hid (V8.there b5 0 2) := there_blk (cs := [.slice (some ⟨B, 0, none⟩) n k, .int .i64 now]) G8.out.k5
            have D1 : Hid (Blk (V8.setCells b5 0 [.slice (some ⟨B2, 0, none⟩) n k2, .int .i64 (j : Int)]) p1 50 (cxa (.slice va vn vc) cu2 mm2)) := P18.out.wr (wr_blk G8.out.k5 (grown_setCells _ _ _)) (by decide)
            have D2 : Hid (Blk (V8.setCells b5 0 [.slice (some ⟨B2, 0, none⟩) n k2, .int .i64 (j : Int)]) p2 24 #[.slice (some ⟨B2, 0, none⟩) n k2, .int .i64 (j : Int)]) := blk_setCells_off PN.out.2.2.2.symm _ _ P28.out
            have D3 : Hid (Blk (V8.setCells b5 0 [.slice (some ⟨B2, 0, none⟩) n k2, .int .i64 (j : Int)]) b8 41 (mk mm)) := G8.out.k8.wr (wr_blk G8.out.k5 (grown_setCells _ _ _)) (by decide)
            refine do_st ty24 rfl (.tmp 5) (.tmp 195) rfl rfl [.slice (some ⟨B2, 0, none⟩) n k2, .int .i64 (j : Int)] rfl rfl q5.out (fun v hv => by simp at hv; rcases hv with rfl | rfl <;> rfl) ?_
            obtain ⟨w7, hw7⟩ : ∃ x, V8.setCells b5 0 [.slice (some ⟨B2, 0, none⟩) n k2, .int .i64 (j : Int)] = x := ⟨_, rfl⟩
            rw [hw7] at D1 D2 D3
            rw [hw7]
            have HW7 := Hid.mk' hw7
            clear hw7 q5
            refine hK _ _ ⟨⟨D1.out, D2.out⟩, ?_⟩
            clear hK K
            try simp only [Act.put, List.getElem_toArray, List.getElem_cons_zero, List.getElem_cons_succ, List.setIfInBounds_toArray, List.set_cons_zero, List.set_cons_succ]
            refine wpAnyH_take (i := 5) (v := .slice ta2 tn2 tc2) rfl (by kernel_rfl) (by kernel_rfl) (by kernel_rfl) (fun _ _ _ h => h) (Yields.yieldsIf (Or.inl ⟨by rfl, fun w => by go_simp⟩)) ⟨D1.out, D2.out⟩ ?_
            try simp only [Act.put, List.getElem_toArray, List.getElem_cons_zero, List.getElem_cons_succ, List.setIfInBounds_toArray, List.set_cons_zero, List.set_cons_succ]
            refine wpAnyH_all (rs := [6]) (by kernel_rfl) (by simp) (AllH.cons rfl (fun K hK => ?_) AllH.nil)
            have D4 : Hid (Blk (w7.setCells b8 0 (ml mm2)) p1 50 (cxa (.slice va vn vc) cu2 mm2)) := D1.out.wr (wr_blk D3.out (grown_setCells _ _ _)) (by decide)
            have D5 : Hid (Blk (w7.setCells b8 0 (ml mm2)) p2 24 #[.slice (some ⟨B2, 0, none⟩) n k2, .int .i64 (j : Int)]) := D2.out.wr (wr_blk D3.out (grown_setCells _ _ _)) (by decide)
            have q8 : Hid (w7.there b8 0 27) := by have := there_blk (cs := ml mm) D3.out; rwa [ml_len, G8.out.mw.len] at this
            refine do_st ty41 rfl (.tmp 8) (.tmp 198) rfl rfl (ml mm2) rfl (by rw [ml_len, hm2]) q8.out (ml_one _) ?_
            obtain ⟨w8, hw8x⟩ : ∃ x, w7.setCells b8 0 (ml mm2) = x := ⟨_, rfl⟩
            rw [hw8x] at D4 D5
            rw [hw8x]
            have e9 : w8 = (V8.setCells b5 0 [.slice (some ⟨B2, 0, none⟩) n k2, .int .i64 (j : Int)]).setCells b8 0 (ml mm2) := by rw [HW7.out, hw8x]
            have G9 := Hid.mk' (G8.out.cross H8.out HHN.out HK2.out O8.out HT2.out HPX.out HM2.out e9)
            clear e9 hw8x q8
            refine hK _ _ ⟨⟨D4.out, D5.out⟩, ?_⟩
            clear hK K
            try simp only [Act.put, List.getElem_toArray, List.getElem_cons_zero, List.getElem_cons_succ, List.setIfInBounds_toArray, List.set_cons_zero, List.set_cons_succ]
            refine wpAnyH_done (by kernel_rfl) ?_ _
            go_wp2
            go_roundg go
            case measure => omega
            case rel => exact ⟨i + 1, ta2, tn2, tc2, xg, n, xc, B2, k2, (j : Int), lo2, hi2, H2, X2, S2, u2, T, mm2, rfl, rfl, by go_num, by omega, G9.out⟩
          · obtain ⟨rfl, hb⟩ := hcr.2 hz
            have G4 := Hid.mk' (G3.out.keep hb)
            have P14 := Hid.mk' (P1.out.keep hb)
            have P24 := Hid.mk' (P2.out.keep hb)
            obtain ⟨y1, y2, y3, y4, y5, y6, y7, y8, y9⟩ := two_put (a' := .slice none 0 0) (c' := 0) (m' := Z) P24.out P14.out hZl hZl (.slice none 0 0) (.int .i64 0)
            have Y4 := Hid.mk' y4
            have G5 := Hid.mk' (G4.out.box PN.out.2.2.2 PN.out.2.2.1 PN.out.2.1 P24.out y5 y6 y7)
            have P05 : Hid ((((w4.setCell ⟨p2, 0, none⟩ (.slice none 0 0)).setCell ⟨p2, 1, none⟩ (.int .i64 0)).setCells p1 0 (cx (.slice none 0 0) 0 Z)).cell? ⟨p0, 0, none⟩ = some (.int .i64 1)) := (((P0.out.keep hb).wr (wr_blk P24.out y5) (by decide)).wr (wr_blk y6 y7) (by decide)).cell rfl
            clear hb hcr HPU y4 y5 y6 y7 y8 y9 G3 P1 P2 G4 P14 P24
            have hz1 : (z == 0) = false := by simpa using hz
            dsimp only
            go_upto_region 35 with (first | refine wl_st50 (B := p1) (o := 0) (.tmp 11) (.tmp 134) rfl rfl rfl rfl hZl Y4.out ?_ | fail)
            clear y1 y2 y3 Y4
            generalize ((w4.setCell ⟨p2, 0, none⟩ (.slice none 0 0)).setCell ⟨p2, 1, none⟩ (.int .i64 0)).setCells p1 0 (cx (.slice none 0 0) 0 Z) = w5 at *
            have p05 := P05.out
            go_wp2
            go_roundg go
            case measure => omega
            case rel => exact ⟨i + 1, ta, tn, tc, xg, n, xc, B, k, now, lo, hi, H, X, S, t, T, mm, rfl, rfl, by go_num, by omega, G5.out.next⟩
      by_cases hk2 : sk = 2
      · subst hk2
        go_upto_region 32 with fail
        clear q0
        as_aux_lemma =>
          have a5 : w3.cell? ⟨b5, 0, none⟩ = some (.slice (some ⟨B, 0, none⟩) n k) := G3.out.k5.cell rfl
          have a6 : w3.cell? ⟨b5, 1, none⟩ = some (.int .i64 now) := G3.out.k5.cell rfl
          have hml := G3.out.mw.len
          have CU := redo_walk zm rfl z50 b50 (some ⟨B, 0, none⟩) n k now H mm w3 G3.out.hst.grz G3.out.hn G3.out.hk G3.out.mw
          have PU := fun (hz : redE (H.map Nr.d) now mm = 0) => G3.out.p.redo (by omega) (by have := HI.out; omega) hz _ rfl
          obtain ⟨z, hz⟩ : ∃ z, redE (H.map Nr.d) now mm = z := ⟨_, rfl⟩
          obtain ⟨S1, hS1⟩ : ∃ S, (Wk.new (H.map Nr.d) now mm).down (at' (H.map Nr.d) now.toNat).nxt.toNat = S := ⟨_, rfl⟩
          rw [hz, hS1] at CU
          rw [hz, hS1] at PU
          rw [HZm.out] at CU
          have HCU := Hid.mk' CU
          have HPU := Hid.mk' PU
          clear CU PU hz hS1
          go_wp2_with (first | refine wl_ld41 (B := b8) (o := 0) (.tmp 8) rfl rfl rfl hml (range_blk G3.out.k8) ?_ | fail)
          refine HCU.out.mono ?_
          rintro e w4 hcr
          clear HCU a5 a6 hml
          by_cases hz : z = 0
          · obtain ⟨lo2, hi2, B2, k2, H2, X2, S2, va, vn, vc, F, rfl, hG, hE, hlo, hst, hls, hF, hmw, hk', hp, hb⟩ := hcr.1 hz
            obtain ⟨u, hU⟩ := HPU.out hz
            have HU0 := Hid.mk' hU
            have HHN : Hid (H2.length = n) := by
              have h1 := hU.2.2.2.2.2.len
              rw [← hG, List.length_map] at h1
              unfold Hid; rw [← h1]; exact HTN.out.2.1
            obtain ⟨j, hj⟩ : ∃ j : Nat, S1.now = (j : Int) := ⟨S1.now.toNat, by have := hU.2.2.1; omega⟩
            have HJ : Hid (j < n ∧ T[j]? = some u) := ⟨by have := hU.2.2.2.1; have := HTN.out; omega, by have := hU.2.1; rw [hj, Int.toNat_natCast] at this; exact this⟩
            obtain ⟨cu2, hcu⟩ : ∃ x, S1.cur = x := ⟨_, rfl⟩
            obtain ⟨mm2, hmm⟩ : ∃ x, S1.m = x := ⟨_, rfl⟩
            have HM2 : Hid (Mw mm2) := by unfold Hid; rw [← hmm]; exact hmw
            have hm2 := HM2.out.len
            have HPX : Hid (TxI (2000 + 100 * i) (((i + 1 : Nat) : Int) * 180268000) (H2.map Nr.d) (j : Int) u T mm2) := by
              have := hU.2.2.2.2.2.mono (b' := ((i + 1 : Nat) : Int) * 180268000) (Nat.le_refl _) (by have := HI.out; omega)
              rw [hG, ← hj, ← hmm]; exact this
            rw [hj, hcu, hmm, HHN.out]
            have HU := HU0
            have HFE := Hid.mk' hE
            have HF := Hid.mk' hF
            have HK2 : Hid (n ≤ k2) := by unfold Hid; rw [← HHN.out]; exact hk'
            have G4 := Hid.mk' (G3.out.keep hb)
            have P14 := Hid.mk' (P1.out.keep hb)
            have P24 := Hid.mk' (P2.out.keep hb)
            have H4 : Hid (Hst lo2 hi2 w4 B2 H2 X2 S2) := hst
            have E4 := Hid.mk' hls
            obtain ⟨y1, y2, y3, y4, y5, y6, y7, y8, y9⟩ := two_put (a' := .slice va vn vc) (c' := cu2) (m' := mm2) P24.out P14.out hZl hm2 (.slice (some ⟨B2, 0, none⟩) n k2) (.int .i64 (j : Int))
            have Y4 := Hid.mk' y4
            have Y5 := Hid.mk' y5
            have Y6 := Hid.mk' y6
            have Y7 := Hid.mk' y7
            have Y8 := Hid.mk' y8
            have Y9 := Hid.mk' y9
            clear hU hj hcu hmm hG hE hF hk' hst hls hb hlo hp hmw HU0 hcr HPU y4 y5 y6 y7 y8 y9 hz G3 P1 P2
            dsimp only
            go_upto_region 35 with (first | refine wl_st50 (B := p1) (o := 0) (.tmp 11) (.tmp 143) rfl rfl rfl rfl hm2 Y4.out ?_ | fail)
            clear y1 y2 y3
            have W1 := wr_blk P24.out Y5.out
            have W2 := wr_blk Y6.out Y7.out
            have G5 := Hid.mk' (G4.out.box PN.out.2.2.2 PN.out.2.2.1 PN.out.2.1 P24.out Y5.out Y6.out Y7.out)
            have H5 := Hid.mk' ((H4.out.wr W1 (by decide) (by decide) (by decide)).wr W2 (by decide) (by decide) (by decide))
            have E5 := Hid.mk' ((E4.out.wr W1 (by decide) (by decide)).wr W2 (by decide) (by decide))
            have P25 := Hid.mk' Y8.out
            have P15 := Hid.mk' Y9.out
            clear W1 W2 Y4 Y5 Y6 Y7 Y8 Y9 G4 H4 E4 P14 P24
            generalize ((w4.setCell ⟨p2, 0, none⟩ (.slice (some ⟨B2, 0, none⟩) n k2)).setCell ⟨p2, 1, none⟩ (.int .i64 (j : Int))).setCells p1 0 (cx (.slice va vn vc) cu2 mm2) = w5 at *
            go_upto_region 38 with fail
            have e0 : w5.cell? ⟨p1, 0, none⟩ = some (.slice va vn vc) := P15.out.cell rfl
            have CAp := Hid.mk' (apply_any ta tn tc t va vn vc F w5 (own_tx' G5.out.tx (by have := HTN.out; omega)) (by have := HTN.out; omega) E5.out.ez HF.out (by have := HU.out.2.2.2.2.1.2; have := HFE.out; have := HF.out; have := congrArg List.length HFE.out; rw [List.length_map] at this; omega) (by unfold Hid; rw [HFE.out]; exact mod_of (by have := HU.out.2.2.2.2.1.1; have := HTN.out; have := G5.out.tl; have := HI.out; omega)))
            go_wp2_with fail
            refine CAp.out.mono ?_
            clear CAp e0
            rintro e w6 (⟨u2, v6, hu6, rfl, ho6, hb6⟩ | ⟨hu6, -, -⟩)
            case inr =>
              exfalso
              rw [HFE.out, HU.out.1] at hu6
              cases hu6
            obtain rfl : u2 = u := by rw [HFE.out, HU.out.1] at hu6; exact (Option.some.inj hu6).symm
            obtain ⟨ta2, tc2, rfl⟩ := own_shape ho6
            obtain ⟨tn2, htn2⟩ : ∃ x, u2.length = x := ⟨_, rfl⟩
            rw [htn2] at ho6
            rw [htn2]
            have HT2 := Hid.mk' htn2
            have OT : Hid (w6.ownsRow w.heap.size 5 1 (.slice ta2 tn2 tc2) tn2 (bv u2)) := own_lower ho6 G5.out.bel.size
            have HT9 : Hid (tn2 ≤ 22000) := by
              have := HU.out.2.2.2.2.2.tlen
              have := HT2.out
              have := HI.out
              unfold Hid; omega
            have G6 := Hid.mk' (G5.out.keep hb6)
            have P16 := Hid.mk' (P15.out.keep hb6)
            have P26 := Hid.mk' (P25.out.keep hb6)
            have H6 := Hid.mk' (H5.out.keep hb6)
            clear hu6 ho6 hb6 htn2 G5 P15 P25 H5 E5 HF HFE HTx TS
            dsimp only
            have hj0 : ¬ (j : Int) < 0 := by omega
            have hjn0 : ¬ (n : Int) ≤ (j : Int) := by have := HJ.out; omega
            have hjz : (0 : Int) ≤ (j : Int) := by omega
            have hjz2 : (j : Int) < (n : Int) := by have := HJ.out; omega
            have qn := fun W => ne9_no u2 W
            go_upto_region 39 with fail
            have D6 : Hid (Below w6.heap.size w6 w6.drew) := (Below.refl _ _).drew
            have G7 := Hid.mk' (G6.out.keep D6.out)
            have P17 := Hid.mk' (P16.out.keep D6.out)
            have P27 := Hid.mk' (P26.out.keep D6.out)
            have H7 := Hid.mk' (H6.out.keep D6.out)
            have O7 := Hid.mk' (own_keep OT.out D6.out)
            have J7 : Hid (T[j]? = some u2) := HJ.out.2
            clear G6 P16 P26 H6 OT D6
            refine wp_region_held (S := fun w' => w' = w6.drew) (by kernel_rfl) ?_
            change wpAnyH _ _ _ _ _ _ _ _ (World.drew _)
            generalize w6.drew = V6 at *
            refine wpAnyH_take (i := 0) (v := .int .i64 0) rfl (by kernel_rfl) (by kernel_rfl) (by kernel_rfl) (fun _ _ _ h => h) (Yields.yieldsIf (Or.inl ⟨by rfl, fun w => by go_simp⟩)) rfl ?_
            try simp only [Act.put, List.getElem_toArray, List.getElem_cons_zero, List.getElem_cons_succ, List.setIfInBounds_toArray, List.set_cons_zero, List.set_cons_succ]
            refine wpAnyH_take (i := 1) (v := .bool false) rfl (by kernel_rfl) (by kernel_rfl) (by kernel_rfl) (fun _ _ _ h => h) (Yields.yieldsIf (Or.inl ⟨by rfl, fun w => by go_simp⟩)) rfl ?_
            try simp only [Act.put, List.getElem_toArray, List.getElem_cons_zero, List.getElem_cons_succ, List.setIfInBounds_toArray, List.set_cons_zero, List.set_cons_succ]
            refine wpAnyH_take (i := 2) (v := .bool false) rfl (by kernel_rfl) (by kernel_rfl) (by kernel_rfl) (fun _ _ _ h => h) (Yields.yieldsIf (Or.inl ⟨by rfl, fun w => by go_simp⟩)) rfl ?_
            try simp only [Act.put, List.getElem_toArray, List.getElem_cons_zero, List.getElem_cons_succ, List.setIfInBounds_toArray, List.set_cons_zero, List.set_cons_succ]
            refine wpAnyH_take (i := 3) (v := .pointer (some ⟨p2, 1, none⟩)) rfl (by kernel_rfl) (by kernel_rfl) (by kernel_rfl) (fun _ _ _ h => h) (Yields.yieldsIf (Or.inl ⟨by rfl, fun w => by go_simp⟩)) rfl ?_
            try simp only [Act.put, List.getElem_toArray, List.getElem_cons_zero, List.getElem_cons_succ, List.setIfInBounds_toArray, List.set_cons_zero, List.set_cons_succ]
            refine wpAnyH_take (i := 4) (v := .int .i64 (j : Int)) rfl (by kernel_rfl) (by kernel_rfl) (by kernel_rfl) (fun _ _ _ h => h) (Or.inl ⟨by rfl, fun w9 h9 => by subst h9; have h1 : w9.cell? ⟨p2, 1, none⟩ = some (.int .i64 (j : Int)) := P27.out.cell rfl; have h2 := G7.out.sv.cell J7.out; have h3 := conv_tx (own_tx' O7.out (by have := HT9.out; omega)); go_simp⟩) rfl ?_
            try simp only [Act.put, List.getElem_toArray, List.getElem_cons_zero, List.getElem_cons_succ, List.setIfInBounds_toArray, List.set_cons_zero, List.set_cons_succ]
            refine wpAnyH_take (i := 5) (v := .bool false) rfl (by kernel_rfl) (by kernel_rfl) (by kernel_rfl) (fun _ _ _ h => h) (Yields.yieldsIf (Or.inl ⟨by rfl, fun w => by go_simp⟩)) rfl ?_
            try simp only [Act.put, List.getElem_toArray, List.getElem_cons_zero, List.getElem_cons_succ, List.setIfInBounds_toArray, List.set_cons_zero, List.set_cons_succ]
            refine wpAnyH_take (i := 6) (v := .bool false) rfl (by kernel_rfl) (by kernel_rfl) (by kernel_rfl) (fun _ _ _ h => h) (Yields.yieldsIf (Or.inl ⟨by rfl, fun w => by go_simp⟩)) rfl ?_
            try simp only [Act.put, List.getElem_toArray, List.getElem_cons_zero, List.getElem_cons_succ, List.setIfInBounds_toArray, List.set_cons_zero, List.set_cons_succ]
            refine wpAnyH_take (i := 7) (v := .bool false) rfl (by kernel_rfl) (by kernel_rfl) (by kernel_rfl) (fun _ _ _ h => h) (Yields.yieldsIf (Or.inl ⟨by rfl, fun w => by go_simp⟩)) rfl ?_
            try simp only [Act.put, List.getElem_toArray, List.getElem_cons_zero, List.getElem_cons_succ, List.setIfInBounds_toArray, List.set_cons_zero, List.set_cons_succ]
            refine wpAnyH_take (i := 8) (v := .pointer (some ⟨p2, 1, none⟩)) rfl (by kernel_rfl) (by kernel_rfl) (by kernel_rfl) (fun _ _ _ h => h) (Yields.yieldsIf (Or.inl ⟨by rfl, fun w => by go_simp⟩)) rfl ?_
            try simp only [Act.put, List.getElem_toArray, List.getElem_cons_zero, List.getElem_cons_succ, List.setIfInBounds_toArray, List.set_cons_zero, List.set_cons_succ]
            refine wpAnyH_take (i := 9) (v := .int .i64 (j : Int)) rfl (by kernel_rfl) (by kernel_rfl) (by kernel_rfl) (fun _ _ _ h => h) (Or.inl ⟨by rfl, fun w9 h9 => by subst h9; have h1 : w9.cell? ⟨p2, 1, none⟩ = some (.int .i64 (j : Int)) := P27.out.cell rfl; have h2 := G7.out.sv.cell J7.out; have h3 := conv_tx (own_tx' O7.out (by have := HT9.out; omega)); go_simp⟩) rfl ?_
            try simp only [Act.put, List.getElem_toArray, List.getElem_cons_zero, List.getElem_cons_succ, List.setIfInBounds_toArray, List.set_cons_zero, List.set_cons_succ]
            refine wpAnyH_take (i := 10) (v := .slice (some ⟨xg, 0, none⟩) n xc) rfl (by kernel_rfl) (by kernel_rfl) (by kernel_rfl) (fun _ _ _ h => h) (Yields.yieldsIf (Or.inl ⟨by rfl, fun w => by go_simp⟩)) rfl ?_
            try simp only [Act.put, List.getElem_toArray, List.getElem_cons_zero, List.getElem_cons_succ, List.setIfInBounds_toArray, List.set_cons_zero, List.set_cons_succ]
            refine wpAnyH_take (i := 11) (v := .int .i64 ((n : Nat) : Int)) rfl (by kernel_rfl) (by kernel_rfl) (by kernel_rfl) (fun _ _ _ h => h) (Yields.yieldsIf (Or.inl ⟨by rfl, fun w => by go_simp⟩)) rfl ?_
            try simp only [Act.put, List.getElem_toArray, List.getElem_cons_zero, List.getElem_cons_succ, List.setIfInBounds_toArray, List.set_cons_zero, List.set_cons_succ]
            refine wpAnyH_take (i := 12) (v := .bool false) rfl (by kernel_rfl) (by kernel_rfl) (by kernel_rfl) (fun _ _ _ h => h) (Yields.yieldsIf (Or.inl ⟨by rfl, fun w => by go_simp⟩)) rfl ?_
            try simp only [Act.put, List.getElem_toArray, List.getElem_cons_zero, List.getElem_cons_succ, List.setIfInBounds_toArray, List.set_cons_zero, List.set_cons_succ]
            refine wpAnyH_take (i := 13) (v := .bool false) rfl (by kernel_rfl) (by kernel_rfl) (by kernel_rfl) (fun _ _ _ h => h) (Yields.yieldsIf (Or.inl ⟨by rfl, fun w => by go_simp⟩)) rfl ?_
            try simp only [Act.put, List.getElem_toArray, List.getElem_cons_zero, List.getElem_cons_succ, List.setIfInBounds_toArray, List.set_cons_zero, List.set_cons_succ]
            refine wpAnyH_take (i := 14) (v := .bool false) rfl (by kernel_rfl) (by kernel_rfl) (by kernel_rfl) (fun _ _ _ h => h) (Yields.yieldsIf (Or.inl ⟨by rfl, fun w => by go_simp⟩)) rfl ?_
            try simp only [Act.put, List.getElem_toArray, List.getElem_cons_zero, List.getElem_cons_succ, List.setIfInBounds_toArray, List.set_cons_zero, List.set_cons_succ]
            refine wpAnyH_take (i := 15) (v := .slice ta2 tn2 tc2) rfl (by kernel_rfl) (by kernel_rfl) (by kernel_rfl) (fun _ _ _ h => h) (Yields.yieldsIf (Or.inl ⟨by rfl, fun w => by go_simp⟩)) rfl ?_
            try simp only [Act.put, List.getElem_toArray, List.getElem_cons_zero, List.getElem_cons_succ, List.setIfInBounds_toArray, List.set_cons_zero, List.set_cons_succ]
            refine wpAnyH_take (i := 16) (v := .string ⟨u2.toArray⟩) rfl (by kernel_rfl) (by kernel_rfl) (by kernel_rfl) (fun _ _ _ h => h) (Or.inl ⟨by rfl, fun w9 h9 => by subst h9; have h1 : w9.cell? ⟨p2, 1, none⟩ = some (.int .i64 (j : Int)) := P27.out.cell rfl; have h2 := G7.out.sv.cell J7.out; have h3 := conv_tx (own_tx' O7.out (by have := HT9.out; omega)); go_simp⟩) rfl ?_
            try simp only [Act.put, List.getElem_toArray, List.getElem_cons_zero, List.getElem_cons_succ, List.setIfInBounds_toArray, List.set_cons_zero, List.set_cons_succ]
            refine wpAnyH_take (i := 17) (v := .slice (some ⟨xg, 0, none⟩) n xc) rfl (by kernel_rfl) (by kernel_rfl) (by kernel_rfl) (fun _ _ _ h => h) (Yields.yieldsIf (Or.inl ⟨by rfl, fun w => by go_simp⟩)) rfl ?_
            try simp only [Act.put, List.getElem_toArray, List.getElem_cons_zero, List.getElem_cons_succ, List.setIfInBounds_toArray, List.set_cons_zero, List.set_cons_succ]
            refine wpAnyH_take (i := 18) (v := .pointer (some ⟨p2, 1, none⟩)) rfl (by kernel_rfl) (by kernel_rfl) (by kernel_rfl) (fun _ _ _ h => h) (Yields.yieldsIf (Or.inl ⟨by rfl, fun w => by go_simp⟩)) rfl ?_
            try simp only [Act.put, List.getElem_toArray, List.getElem_cons_zero, List.getElem_cons_succ, List.setIfInBounds_toArray, List.set_cons_zero, List.set_cons_succ]
            refine wpAnyH_take (i := 19) (v := .int .i64 (j : Int)) rfl (by kernel_rfl) (by kernel_rfl) (by kernel_rfl) (fun _ _ _ h => h) (Or.inl ⟨by rfl, fun w9 h9 => by subst h9; have h1 : w9.cell? ⟨p2, 1, none⟩ = some (.int .i64 (j : Int)) := P27.out.cell rfl; have h2 := G7.out.sv.cell J7.out; have h3 := conv_tx (own_tx' O7.out (by have := HT9.out; omega)); go_simp⟩) rfl ?_
            try simp only [Act.put, List.getElem_toArray, List.getElem_cons_zero, List.getElem_cons_succ, List.setIfInBounds_toArray, List.set_cons_zero, List.set_cons_succ]
            refine wpAnyH_take (i := 20) (v := .pointer (some ⟨xg, j, none⟩)) rfl (by kernel_rfl) (by kernel_rfl) (by kernel_rfl) (fun _ _ _ h => h) (Yields.yieldsIf (Or.inl ⟨by rfl, fun w => by go_simp⟩)) rfl ?_
            try simp only [Act.put, List.getElem_toArray, List.getElem_cons_zero, List.getElem_cons_succ, List.setIfInBounds_toArray, List.set_cons_zero, List.set_cons_succ]
            refine wpAnyH_take (i := 21) (v := .string ⟨u2.toArray⟩) rfl (by kernel_rfl) (by kernel_rfl) (by kernel_rfl) (fun _ _ _ h => h) (Or.inl ⟨by rfl, fun w9 h9 => by subst h9; have h1 : w9.cell? ⟨p2, 1, none⟩ = some (.int .i64 (j : Int)) := P27.out.cell rfl; have h2 := G7.out.sv.cell J7.out; have h3 := conv_tx (own_tx' O7.out (by have := HT9.out; omega)); go_simp⟩) rfl ?_
            try simp only [Act.put, List.getElem_toArray, List.getElem_cons_zero, List.getElem_cons_succ, List.setIfInBounds_toArray, List.set_cons_zero, List.set_cons_succ]
            refine wpAnyH_take (i := 22) (v := .bool false) rfl (by kernel_rfl) (by kernel_rfl) (by kernel_rfl) (fun _ _ _ h => h) (Yields.yieldsIf (Or.inl ⟨by rfl, fun w => by go_simp⟩)) rfl ?_
            try simp only [Act.put, List.getElem_toArray, List.getElem_cons_zero, List.getElem_cons_succ, List.setIfInBounds_toArray, List.set_cons_zero, List.set_cons_succ]
            refine wpAnyH_take (i := 23) (v := .bool false) rfl (by kernel_rfl) (by kernel_rfl) (by kernel_rfl) (fun _ _ _ h => h) (Yields.yieldsIf (Or.inl ⟨by rfl, fun w => by go_simp⟩)) rfl ?_
            try simp only [Act.put, List.getElem_toArray, List.getElem_cons_zero, List.getElem_cons_succ, List.setIfInBounds_toArray, List.set_cons_zero, List.set_cons_succ]
            refine wpAnyH_done (by kernel_rfl) ?_ _
            clear hj0 hjn0 qn
            go_upto_region 41 with fail
            have D6 : Hid (Below V6.heap.size V6 V6.drew) := (Below.refl _ _).drew
            have G8 := Hid.mk' (G7.out.keep D6.out)
            have P18 := Hid.mk' (P17.out.keep D6.out)
            have P28 := Hid.mk' (P27.out.keep D6.out)
            have H8 := Hid.mk' (H7.out.keep D6.out)
            have O8 := Hid.mk' (own_keep O7.out D6.out)
            clear G7 P17 P27 H7 O7 D6
            refine wp_region_held (S := fun w' => Blk w' p1 50 (cxa (.slice va vn vc) cu2 mm2) ∧ Blk w' p2 24 #[.slice (some ⟨B2, 0, none⟩) n k2, .int .i64 (j : Int)]) (by kernel_rfl) ?_
            change wpAnyH _ _ _ _ _ _ _ _ (World.drew _)
            generalize V6.drew = V8 at *
            refine wpAnyH_take (i := 0) (v := .agg #[.slice (some ⟨B2, 0, none⟩) n k2, .int .i64 (j : Int)]) rfl (by kernel_rfl) (by kernel_rfl) (by kernel_rfl) (fun _ _ _ h => h) (Or.inl ⟨by rfl, fun w9 h9 => by obtain ⟨h1, h2⟩ := h9; have h3 : w9.cell? ⟨p2, 0, none⟩ = some (.slice (some ⟨B2, 0, none⟩) n k2) := h2.cell rfl; have h4 : w9.cell? ⟨p2, 1, none⟩ = some (.int .i64 (j : Int)) := h2.cell rfl; go_simp⟩) ⟨P18.out, P28.out⟩ ?_
            try simp only [Act.put, List.getElem_toArray, List.getElem_cons_zero, List.getElem_cons_succ, List.setIfInBounds_toArray, List.set_cons_zero, List.set_cons_succ]
            refine wpAnyH_take (i := 1) (v := .slice ta2 tn2 tc2) rfl (by kernel_rfl) (by kernel_rfl) (by kernel_rfl) (fun _ _ _ h => h) (Yields.yieldsIf (Or.inl ⟨by rfl, fun w => by go_simp⟩)) ⟨P18.out, P28.out⟩ ?_
            try simp only [Act.put, List.getElem_toArray, List.getElem_cons_zero, List.getElem_cons_succ, List.setIfInBounds_toArray, List.set_cons_zero, List.set_cons_succ]
            refine wpAnyH_take (i := 2) (v := .pointer (some ⟨p1, 2, none⟩)) rfl (by kernel_rfl) (by kernel_rfl) (by kernel_rfl) (fun _ _ _ h => h) (Yields.yieldsIf (Or.inl ⟨by rfl, fun w => by go_simp⟩)) ⟨P18.out, P28.out⟩ ?_
            try simp only [Act.put, List.getElem_toArray, List.getElem_cons_zero, List.getElem_cons_succ, List.setIfInBounds_toArray, List.set_cons_zero, List.set_cons_succ]
            refine wpAnyH_take (i := 3) (v := .agg (mk mm2)) rfl (by kernel_rfl) (by kernel_rfl) (by kernel_rfl) (fun _ _ _ h => h) (yi_ld ty41 rfl (.tmp 197) rfl rfl (ml mm2) (by rw [ml_len, hm2]) (fun _ h => (Cb.of h.1).mr)) ⟨P18.out, P28.out⟩ ?_
            try simp only [Act.put, List.getElem_toArray, List.getElem_cons_zero, List.getElem_cons_succ, List.setIfInBounds_toArray, List.set_cons_zero, List.set_cons_succ]
            refine wpAnyH_all (rs := [4]) (by kernel_rfl) (by simp) (AllH.cons rfl (fun K hK => ?_) AllH.nil)
            have q5 : Hid (V8.there b5 0 2) := there_blk (cs := [.slice (some ⟨B, 0, none⟩) n k, .int .i64 now]) G8.out.k5
            have D1 : Hid (Blk (V8.setCells b5 0 [.slice (some ⟨B2, 0, none⟩) n k2, .int .i64 (j : Int)]) p1 50 (cxa (.slice va vn vc) cu2 mm2)) := P18.out.wr (wr_blk G8.out.k5 (grown_setCells _ _ _)) (by decide)
            have D2 : Hid (Blk (V8.setCells b5 0 [.slice (some ⟨B2, 0, none⟩) n k2, .int .i64 (j : Int)]) p2 24 #[.slice (some ⟨B2, 0, none⟩) n k2, .int .i64 (j : Int)]) := blk_setCells_off PN.out.2.2.2.symm _ _ P28.out
            have D3 : Hid (Blk (V8.setCells b5 0 [.slice (some ⟨B2, 0, none⟩) n k2, .int .i64 (j : Int)]) b8 41 (mk mm)) := G8.out.k8.wr (wr_blk G8.out.k5 (grown_setCells _ _ _)) (by decide)
            refine do_st ty24 rfl (.tmp 5) (.tmp 195) rfl rfl [.slice (some ⟨B2, 0, none⟩) n k2, .int .i64 (j : Int)] rfl rfl q5.out (fun v hv => by simp at hv; rcases hv with rfl | rfl <;> rfl) ?_
            obtain ⟨w7, hw7⟩ : ∃ x, V8.setCells b5 0 [.slice (some ⟨B2, 0, none⟩) n k2, .int .i64 (j : Int)] = x := ⟨_, rfl⟩
            rw [hw7] at D1 D2 D3
            rw [hw7]
            have HW7 := Hid.mk' hw7
            clear hw7 q5
            refine hK _ _ ⟨⟨D1.out, D2.out⟩, ?_⟩
            clear hK K
            try simp only [Act.put, List.getElem_toArray, List.getElem_cons_zero, List.getElem_cons_succ, List.setIfInBounds_toArray, List.set_cons_zero, List.set_cons_succ]
            refine wpAnyH_take (i := 5) (v := .slice ta2 tn2 tc2) rfl (by kernel_rfl) (by kernel_rfl) (by kernel_rfl) (fun _ _ _ h => h) (Yields.yieldsIf (Or.inl ⟨by rfl, fun w => by go_simp⟩)) ⟨D1.out, D2.out⟩ ?_
            try simp only [Act.put, List.getElem_toArray, List.getElem_cons_zero, List.getElem_cons_succ, List.setIfInBounds_toArray, List.set_cons_zero, List.set_cons_succ]
            refine wpAnyH_all (rs := [6]) (by kernel_rfl) (by simp) (AllH.cons rfl (fun K hK => ?_) AllH.nil)
            have D4 : Hid (Blk (w7.setCells b8 0 (ml mm2)) p1 50 (cxa (.slice va vn vc) cu2 mm2)) := D1.out.wr (wr_blk D3.out (grown_setCells _ _ _)) (by decide)
            have D5 : Hid (Blk (w7.setCells b8 0 (ml mm2)) p2 24 #[.slice (some ⟨B2, 0, none⟩) n k2, .int .i64 (j : Int)]) := D2.out.wr (wr_blk D3.out (grown_setCells _ _ _)) (by decide)
            have q8 : Hid (w7.there b8 0 27) := by have := there_blk (cs := ml mm) D3.out; rwa [ml_len, G8.out.mw.len] at this
            refine do_st ty41 rfl (.tmp 8) (.tmp 198) rfl rfl (ml mm2) rfl (by rw [ml_len, hm2]) q8.out (ml_one _) ?_
            obtain ⟨w8, hw8x⟩ : ∃ x, w7.setCells b8 0 (ml mm2) = x := ⟨_, rfl⟩
            rw [hw8x] at D4 D5
            rw [hw8x]
            have e9 : w8 = (V8.setCells b5 0 [.slice (some ⟨B2, 0, none⟩) n k2, .int .i64 (j : Int)]).setCells b8 0 (ml mm2) := by rw [HW7.out, hw8x]
            have G9 := Hid.mk' (G8.out.cross H8.out HHN.out HK2.out O8.out HT2.out HPX.out HM2.out e9)
            clear e9 hw8x q8
            refine hK _ _ ⟨⟨D4.out, D5.out⟩, ?_⟩
            clear hK K
            try simp only [Act.put, List.getElem_toArray, List.getElem_cons_zero, List.getElem_cons_succ, List.setIfInBounds_toArray, List.set_cons_zero, List.set_cons_succ]
            refine wpAnyH_done (by kernel_rfl) ?_ _
            go_wp2
            go_roundg go
            case measure => omega
            case rel => exact ⟨i + 1, ta2, tn2, tc2, xg, n, xc, B2, k2, (j : Int), lo2, hi2, H2, X2, S2, u2, T, mm2, rfl, rfl, by go_num, by omega, G9.out⟩
          · obtain ⟨rfl, hb⟩ := hcr.2 hz
            have G4 := Hid.mk' (G3.out.keep hb)
            have P14 := Hid.mk' (P1.out.keep hb)
            have P24 := Hid.mk' (P2.out.keep hb)
            obtain ⟨y1, y2, y3, y4, y5, y6, y7, y8, y9⟩ := two_put (a' := .slice none 0 0) (c' := 0) (m' := Z) P24.out P14.out hZl hZl (.slice none 0 0) (.int .i64 0)
            have Y4 := Hid.mk' y4
            have G5 := Hid.mk' (G4.out.box PN.out.2.2.2 PN.out.2.2.1 PN.out.2.1 P24.out y5 y6 y7)
            have P05 : Hid ((((w4.setCell ⟨p2, 0, none⟩ (.slice none 0 0)).setCell ⟨p2, 1, none⟩ (.int .i64 0)).setCells p1 0 (cx (.slice none 0 0) 0 Z)).cell? ⟨p0, 0, none⟩ = some (.int .i64 2)) := (((P0.out.keep hb).wr (wr_blk P24.out y5) (by decide)).wr (wr_blk y6 y7) (by decide)).cell rfl
            clear hb hcr HPU y4 y5 y6 y7 y8 y9 G3 P1 P2 G4 P14 P24
            have hz1 : (z == 0) = false := by simpa using hz
            dsimp only
            go_upto_region 35 with (first | refine wl_st50 (B := p1) (o := 0) (.tmp 11) (.tmp 143) rfl rfl rfl rfl hZl Y4.out ?_ | fail)
            clear y1 y2 y3 Y4
            generalize ((w4.setCell ⟨p2, 0, none⟩ (.slice none 0 0)).setCell ⟨p2, 1, none⟩ (.int .i64 0)).setCells p1 0 (cx (.slice none 0 0) 0 Z) = w5 at *
            have p05 := P05.out
            go_wp2
            go_roundg go
            case measure => omega
            case rel => exact ⟨i + 1, ta, tn, tc, xg, n, xc, B, k, now, lo, hi, H, X, S, t, T, mm, rfl, rfl, by go_num, by omega, G5.out.next⟩
      by_cases hk3 : sk = 3
      · subst hk3
        go_upto_region 34 with fail
        clear q0
        as_aux_lemma =>
          have HLN : Hid (n ≤ 201) := by have := G3.out.ln; have := HI.out; unfold Hid; omega
          obtain ⟨tj, htj, CP⟩ := place_any st (n : Int) HST.out (by have := HTN.out; omega) (by have := HLN.out; omega)
          have HCP := Hid.mk' CP
          have HTJ : Hid (tj < n) := by unfold Hid; omega
          obtain ⟨hz0, PU⟩ := G3.out.p.go (j := tj) (by omega) (by have := HI.out; omega) (by have := HTN.out; omega)
          have D3 : Hid (Below w3.heap.size w3 w3.drew) := (Below.refl _ _).drew
          have Gd := Hid.mk' (G3.out.keep D3.out)
          have P0d := Hid.mk' (P0.out.keep D3.out)
          have P1d := Hid.mk' (P1.out.keep D3.out)
          have P2d := Hid.mk' (P2.out.keep D3.out)
          have CU := go_walk zm rfl z50 b50 (some ⟨B, 0, none⟩) n k now (tj : Int) H mm w3.drew Gd.out.hst.grz Gd.out.hn Gd.out.hk Gd.out.mw (fun d hd => by
            obtain ⟨x, hx⟩ := List.getElem?_of_mem hd
            have h1 := Gd.out.p.one x (List.getElem?_eq_some_iff.1 hx).1
            rw [at'_eq hx] at h1
            omega)
          obtain ⟨S1, hS1⟩ : ∃ S, (Wk.new (H.map Nr.d) now mm).go (pathU (H.map Nr.d) now.toNat ((tj : Int)).toNat) (pathD (H.map Nr.d) now.toNat ((tj : Int)).toNat) = S := ⟨_, rfl⟩
          rw [hz0, hS1] at CU
          have PU1 := PU S1 hS1.symm
          have HCU := Hid.mk' CU
          have HPU := Hid.mk' PU1
          have hml := Gd.out.mw.len
          have SB : Hid (Blk w3.drew b5 24 #[.slice (some ⟨B, 0, none⟩) n k, .int .i64 now] ∧ Blk w3.drew b8 41 (mk mm) ∧ Blk w3.drew p0 74 #[.int .i64 3, .int .i64 sa, .int .i64 sm, .int .i64 st, .slice sp sl sd]) := ⟨Gd.out.k5, Gd.out.k8, P0d.out⟩
          clear CU PU PU1 hz0 hS1 CP htj D3 G3 P0 P1 P2 TS
          refine wp_region_held (S := fun w' => Blk w' b5 24 #[.slice (some ⟨B, 0, none⟩) n k, .int .i64 now] ∧ Blk w' b8 41 (mk mm) ∧ Blk w' p0 74 #[.int .i64 3, .int .i64 sa, .int .i64 sm, .int .i64 st, .slice sp sl sd]) (by kernel_rfl) ?_
          change wpAnyH _ _ _ _ _ _ _ _ (World.drew _)
          generalize w3.drew = V3 at *
          refine wpAnyH_take (i := 0) (v := .agg #[.slice (some ⟨B, 0, none⟩) n k, .int .i64 now]) rfl (by kernel_rfl) (by kernel_rfl) (by kernel_rfl) (fun _ _ _ h => h) (Or.inl ⟨by rfl, fun w9 h9 => by obtain ⟨h1, h2, h3⟩ := h9; have h4 : w9.cell? ⟨b5, 0, none⟩ = some (.slice (some ⟨B, 0, none⟩) n k) := h1.cell rfl; have h5 : w9.cell? ⟨b5, 1, none⟩ = some (.int .i64 now) := h1.cell rfl; have h6 : w9.cell? ⟨p0, 3, none⟩ = some (.int .i64 st) := h3.cell rfl; go_simp⟩) SB.out ?_
          try simp only [Act.put, List.getElem_toArray, List.getElem_cons_zero, List.getElem_cons_succ, List.setIfInBounds_toArray, List.set_cons_zero, List.set_cons_succ]
          refine wpAnyH_take (i := 1) (v := .pointer (some ⟨p0, 3, none⟩)) rfl (by kernel_rfl) (by kernel_rfl) (by kernel_rfl) (fun _ _ _ h => h) (Yields.yieldsIf (Or.inl ⟨by rfl, fun w => by go_simp⟩)) SB.out ?_
          try simp only [Act.put, List.getElem_toArray, List.getElem_cons_zero, List.getElem_cons_succ, List.setIfInBounds_toArray, List.set_cons_zero, List.set_cons_succ]
          refine wpAnyH_take (i := 2) (v := .int .i64 st) rfl (by kernel_rfl) (by kernel_rfl) (by kernel_rfl) (fun _ _ _ h => h) (Or.inl ⟨by rfl, fun w9 h9 => by obtain ⟨h1, h2, h3⟩ := h9; have h4 : w9.cell? ⟨b5, 0, none⟩ = some (.slice (some ⟨B, 0, none⟩) n k) := h1.cell rfl; have h5 : w9.cell? ⟨b5, 1, none⟩ = some (.int .i64 now) := h1.cell rfl; have h6 : w9.cell? ⟨p0, 3, none⟩ = some (.int .i64 st) := h3.cell rfl; go_simp⟩) SB.out ?_
          try simp only [Act.put, List.getElem_toArray, List.getElem_cons_zero, List.getElem_cons_succ, List.setIfInBounds_toArray, List.set_cons_zero, List.set_cons_succ]
          refine wpAnyH_take (i := 3) (v := .slice (some ⟨xg, 0, none⟩) n xc) rfl (by kernel_rfl) (by kernel_rfl) (by kernel_rfl) (fun _ _ _ h => h) (Yields.yieldsIf (Or.inl ⟨by rfl, fun w => by go_simp⟩)) SB.out ?_
          try simp only [Act.put, List.getElem_toArray, List.getElem_cons_zero, List.getElem_cons_succ, List.setIfInBounds_toArray, List.set_cons_zero, List.set_cons_succ]
          refine wpAnyH_take (i := 4) (v := .int .i64 ((n : Nat) : Int)) rfl (by kernel_rfl) (by kernel_rfl) (by kernel_rfl) (fun _ _ _ h => h) (Yields.yieldsIf (Or.inl ⟨by rfl, fun w => by go_simp⟩)) SB.out ?_
          try simp only [Act.put, List.getElem_toArray, List.getElem_cons_zero, List.getElem_cons_succ, List.setIfInBounds_toArray, List.set_cons_zero, List.set_cons_succ]
          refine wpAnyH_take (i := 6) (v := .agg (mk mm)) rfl (by kernel_rfl) (by kernel_rfl) (by kernel_rfl) (fun _ _ _ h => h) (yi_ld ty41 rfl (.tmp 8) rfl rfl (ml mm) (by rw [ml_len, hml]) (fun _ h => range_blk h.2.1)) SB.out ?_
          try simp only [Act.put, List.getElem_toArray, List.getElem_cons_zero, List.getElem_cons_succ, List.setIfInBounds_toArray, List.set_cons_zero, List.set_cons_succ]
          refine wpAnyH_all (rs := [5]) (by kernel_rfl) (by simp) (AllH.cons rfl (fun K hK => ?_) AllH.nil)
          go_simp
          refine (HCP.out V3).mono ?_
          rintro e wq ⟨rfl, hwq⟩
          have hwq2 := hwq.symm
          subst hwq2
          clear hwq
          dsimp only
          refine hK _ _ ⟨SB.out, ?_⟩
          clear hK K
          try simp only [Act.put, List.getElem_toArray, List.getElem_cons_zero, List.getElem_cons_succ, List.setIfInBounds_toArray, List.set_cons_zero, List.set_cons_succ]
          refine wpAnyH_all (rs := [7]) (by kernel_rfl) (by simp) (AllH.cons rfl (fun K hK => ?_) AllH.nil)
          go_simp
          refine HCU.out.mono ?_
          rintro e w4 hcr
          clear HCU HCP
          obtain ⟨lo2, hi2, B2, k2, H2, X2, S2, va, vn, vc, F, rfl, hG, hE, hlo, hst, hls, hF, hmw, hk', hp, hb⟩ := hcr.1 rfl
          obtain ⟨u, hU⟩ := HPU.out
          have HU0 := Hid.mk' hU
          have HHN : Hid (H2.length = n) := by
            have h1 := hU.2.2.2.2.2.len
            rw [← hG, List.length_map] at h1
            unfold Hid; rw [← h1]; exact HTN.out.2.1
          obtain ⟨j, hj⟩ : ∃ j : Nat, S1.now = (j : Int) := ⟨S1.now.toNat, by have := hU.2.2.1; omega⟩
          have HJ : Hid (j < n ∧ T[j]? = some u) := ⟨by have := hU.2.2.2.1; have := HTN.out; omega, by have := hU.2.1; rw [hj, Int.toNat_natCast] at this; exact this⟩
          obtain ⟨cu2, hcu⟩ : ∃ x, S1.cur = x := ⟨_, rfl⟩
          obtain ⟨mm2, hmm⟩ : ∃ x, S1.m = x := ⟨_, rfl⟩
          have HM2 : Hid (Mw mm2) := by unfold Hid; rw [← hmm]; exact hmw
          have hm2 := HM2.out.len
          have HPX : Hid (TxI (2000 + 100 * i) (((i + 1 : Nat) : Int) * 180268000) (H2.map Nr.d) (j : Int) u T mm2) := by
            have := hU.2.2.2.2.2.mono (b' := ((i + 1 : Nat) : Int) * 180268000) (Nat.le_refl _) (by have := HI.out; omega)
            rw [hG, ← hj, ← hmm]; exact this
          rw [hj, hcu, hmm, HHN.out]
          have HU := HU0
          have HFE := Hid.mk' hE
          have HF := Hid.mk' hF
          have HK2 : Hid (n ≤ k2) := by unfold Hid; rw [← HHN.out]; exact hk'
          have G4 := Hid.mk' (Gd.out.keep hb)
          have P14 := Hid.mk' (P1d.out.keep hb)
          have P24 := Hid.mk' (P2d.out.keep hb)
          have H4 : Hid (Hst lo2 hi2 w4 B2 H2 X2 S2) := hst
          have E4 := Hid.mk' hls
          have SB4 : Hid (Blk w4 b5 24 #[.slice (some ⟨B, 0, none⟩) n k, .int .i64 now] ∧ Blk w4 b8 41 (mk mm) ∧ Blk w4 p0 74 #[.int .i64 3, .int .i64 sa, .int .i64 sm, .int .i64 st, .slice sp sl sd]) := ⟨SB.out.1.keep hb, SB.out.2.1.keep hb, SB.out.2.2.keep hb⟩
          clear hU hj hcu hmm hG hE hF hk' hst hls hb hlo hp hmw HU0 hcr HPU Gd P1d P2d P0d SB
          dsimp only
          refine hK _ _ ⟨SB4.out, ?_⟩
          clear hK K
          try simp only [Act.put, List.getElem_toArray, List.getElem_cons_zero, List.getElem_cons_succ, List.setIfInBounds_toArray, List.set_cons_zero, List.set_cons_succ]
          refine wpAnyH_take (i := 8) (v := .tuple #[.agg #[.slice (some ⟨B2, 0, none⟩) n k2, .int .i64 (j : Int)], .agg (cxa (.slice va vn vc) cu2 mm2), .int .i64 0]) rfl (by kernel_rfl) (by kernel_rfl) (by kernel_rfl) (fun _ _ _ h => h) (Yields.yieldsIf (Or.inl ⟨by rfl, fun w => by go_simp⟩)) SB4.out ?_
          try simp only [Act.put, List.getElem_toArray, List.getElem_cons_zero, List.getElem_cons_succ, List.setIfInBounds_toArray, List.set_cons_zero, List.set_cons_succ]
          refine wpAnyH_take (i := 9) (v := .agg #[.slice (some ⟨B2, 0, none⟩) n k2, .int .i64 (j : Int)]) rfl (by kernel_rfl) (by kernel_rfl) (by kernel_rfl) (fun _ _ _ h => h) (Yields.yieldsIf (Or.inl ⟨by rfl, fun w => by go_simp⟩)) SB4.out ?_
          try simp only [Act.put, List.getElem_toArray, List.getElem_cons_zero, List.getElem_cons_succ, List.setIfInBounds_toArray, List.set_cons_zero, List.set_cons_succ]
          refine wpAnyH_take (i := 10) (v := .agg (cxa (.slice va vn vc) cu2 mm2)) rfl (by kernel_rfl) (by kernel_rfl) (by kernel_rfl) (fun _ _ _ h => h) (Yields.yieldsIf (Or.inl ⟨by rfl, fun w => by go_simp⟩)) SB4.out ?_
          try simp only [Act.put, List.getElem_toArray, List.getElem_cons_zero, List.getElem_cons_succ, List.setIfInBounds_toArray, List.set_cons_zero, List.set_cons_succ]
          refine wpAnyH_take (i := 11) (v := .int .i64 0) rfl (by kernel_rfl) (by kernel_rfl) (by kernel_rfl) (fun _ _ _ h => h) (Yields.yieldsIf (Or.inl ⟨by rfl, fun w => by go_simp⟩)) SB4.out ?_
          try simp only [Act.put, List.getElem_toArray, List.getElem_cons_zero, List.getElem_cons_succ, List.setIfInBounds_toArray, List.set_cons_zero, List.set_cons_succ]
          refine wpAnyH_all (rs := [12]) (by kernel_rfl) (by simp) (AllH.cons rfl (fun K hK => ?_) AllH.nil)
          have GA : Hid (w4.grownBy (w4.setCells p2 0 [.slice (some ⟨B2, 0, none⟩) n k2, .int .i64 (j : Int)]) (some p2)) := grown_setCells _ _ _
          have PA2 : Hid (Blk (w4.setCells p2 0 [.slice (some ⟨B2, 0, none⟩) n k2, .int .i64 (j : Int)]) p2 24 #[.slice (some ⟨B2, 0, none⟩) n k2, .int .i64 (j : Int)]) := put_blk (cs := [.slice (some ⟨B2, 0, none⟩) n k2, .int .i64 (j : Int)]) (old := [.slice (some ⟨B, 0, none⟩) n k, .int .i64 now]) rfl P24.out
          have PA1 := Hid.mk' (P14.out.wr (wr_blk P24.out GA.out) (by decide))
          have SBa : Hid (Blk (w4.setCells p2 0 [.slice (some ⟨B2, 0, none⟩) n k2, .int .i64 (j : Int)]) b5 24 #[.slice (some ⟨B, 0, none⟩) n k, .int .i64 now] ∧ Blk (w4.setCells p2 0 [.slice (some ⟨B2, 0, none⟩) n k2, .int .i64 (j : Int)]) b8 41 (mk mm) ∧ Blk (w4.setCells p2 0 [.slice (some ⟨B2, 0, none⟩) n k2, .int .i64 (j : Int)]) p0 74 #[.int .i64 3, .int .i64 sa, .int .i64 sm, .int .i64 st, .slice sp sl sd]) := ⟨SB4.out.1.grown GA.out (fun e => by injection e with e; exact PN.out.2.2.2 e), SB4.out.2.1.wr (wr_blk P24.out GA.out) (by decide), SB4.out.2.2.wr (wr_blk P24.out GA.out) (by decide)⟩
          have t24 : Hid (w4.there p2 0 2) := there_blk (cs := [.slice (some ⟨B, 0, none⟩) n k, .int .i64 now]) P24.out
          refine do_st ty24 rfl (.tmp 13) (.tmp 156) rfl rfl [.slice (some ⟨B2, 0, none⟩) n k2, .int .i64 (j : Int)] rfl rfl t24.out (fun v hv => by simp at hv; rcases hv with rfl | rfl <;> rfl) ?_
          clear t24 SB4
          generalize w4.setCells p2 0 [.slice (some ⟨B2, 0, none⟩) n k2, .int .i64 (j : Int)] = w5a at *
          refine hK _ _ ⟨SBa.out, ?_⟩
          clear hK K
          try simp only [Act.put, List.getElem_toArray, List.getElem_cons_zero, List.getElem_cons_succ, List.setIfInBounds_toArray, List.set_cons_zero, List.set_cons_succ]
          refine wpAnyH_all (rs := [13]) (by kernel_rfl) (by simp) (AllH.cons rfl (fun K hK => ?_) AllH.nil)
          have GB : Hid (w5a.grownBy (w5a.setCells p1 0 (cx (.slice va vn vc) cu2 mm2)) (some p1)) := grown_setCells _ _ _
          have P15 : Hid (Blk (w5a.setCells p1 0 (cx (.slice va vn vc) cu2 mm2)) p1 50 (cxa (.slice va vn vc) cu2 mm2)) := put_blk (cs := (cx (.slice va vn vc) cu2 mm2)) (old := cx (.slice none 0 0) 0 Z) (by rw [cx_len hZl, cx_len hm2]) PA1.out
          have P25 := Hid.mk' (PA2.out.wr (wr_blk PA1.out GB.out) (by decide))
          have SBb : Hid (Blk (w5a.setCells p1 0 (cx (.slice va vn vc) cu2 mm2)) b5 24 #[.slice (some ⟨B, 0, none⟩) n k, .int .i64 now] ∧ Blk (w5a.setCells p1 0 (cx (.slice va vn vc) cu2 mm2)) b8 41 (mk mm) ∧ Blk (w5a.setCells p1 0 (cx (.slice va vn vc) cu2 mm2)) p0 74 #[.int .i64 3, .int .i64 sa, .int .i64 sm, .int .i64 st, .slice sp sl sd]) := ⟨SBa.out.1.wr (wr_blk PA1.out GB.out) (by decide), SBa.out.2.1.wr (wr_blk PA1.out GB.out) (by decide), SBa.out.2.2.wr (wr_blk PA1.out GB.out) (by decide)⟩
          have G5 := Hid.mk' (G4.out.box PN.out.2.2.2 PN.out.2.2.1 PN.out.2.1 P24.out GA.out PA1.out GB.out)
          have H5 := Hid.mk' ((H4.out.wr (wr_blk P24.out GA.out) (by decide) (by decide) (by decide)).wr (wr_blk PA1.out GB.out) (by decide) (by decide) (by decide))
          have E5 := Hid.mk' ((E4.out.wr (wr_blk P24.out GA.out) (by decide) (by decide)).wr (wr_blk PA1.out GB.out) (by decide) (by decide))
          have t50 : Hid (w5a.there p1 0 29) := by have := there_blk (cs := cx (.slice none 0 0) 0 Z) PA1.out; rwa [cx_len hZl] at this
          refine do_st ty50 rfl (.tmp 11) (.tmp 157) rfl rfl (cx (.slice va vn vc) cu2 mm2) rfl (cx_len hm2) t50.out cx_one ?_
          clear t50 SBa GA PA1 PA2 GB G4 H4 E4 P14 P24
          generalize w5a.setCells p1 0 (cx (.slice va vn vc) cu2 mm2) = w5 at *
          refine hK _ _ ⟨SBb.out, ?_⟩
          clear hK K
          try simp only [Act.put, List.getElem_toArray, List.getElem_cons_zero, List.getElem_cons_succ, List.setIfInBounds_toArray, List.set_cons_zero, List.set_cons_succ]
          refine wpAnyH_take (i := 14) (v := .int .i64 0) rfl (by kernel_rfl) (by kernel_rfl) (by kernel_rfl) (fun _ _ _ h => h) (Yields.yieldsIf (Or.inl ⟨by rfl, fun w => by go_simp⟩)) SBb.out ?_
          try simp only [Act.put, List.getElem_toArray, List.getElem_cons_zero, List.getElem_cons_succ, List.setIfInBounds_toArray, List.set_cons_zero, List.set_cons_succ]
          refine wpAnyH_done (by kernel_rfl) ?_ _
          clear SBb hml
          go_upto_region 38 with fail
          have e0 : w5.cell? ⟨p1, 0, none⟩ = some (.slice va vn vc) := P15.out.cell rfl
          have CAp := Hid.mk' (apply_any ta tn tc t va vn vc F w5 (own_tx' G5.out.tx (by have := HTN.out; omega)) (by have := HTN.out; omega) E5.out.ez HF.out (by have := HU.out.2.2.2.2.1.2; have := HFE.out; have := HF.out; have := congrArg List.length HFE.out; rw [List.length_map] at this; omega) (by unfold Hid; rw [HFE.out]; exact mod_of (by have := HU.out.2.2.2.2.1.1; have := HTN.out; have := G5.out.tl; have := HI.out; omega)))
          go_wp2_with fail
          refine CAp.out.mono ?_
          clear CAp e0
          rintro e w6 (⟨u2, v6, hu6, rfl, ho6, hb6⟩ | ⟨hu6, -, -⟩)
          case inr =>
            exfalso
            rw [HFE.out, HU.out.1] at hu6
            cases hu6
          obtain rfl : u2 = u := by rw [HFE.out, HU.out.1] at hu6; exact (Option.some.inj hu6).symm
          obtain ⟨ta2, tc2, rfl⟩ := own_shape ho6
          obtain ⟨tn2, htn2⟩ : ∃ x, u2.length = x := ⟨_, rfl⟩
          rw [htn2] at ho6
          rw [htn2]
          have HT2 := Hid.mk' htn2
          have OT : Hid (w6.ownsRow w.heap.size 5 1 (.slice ta2 tn2 tc2) tn2 (bv u2)) := own_lower ho6 G5.out.bel.size
          have HT9 : Hid (tn2 ≤ 22000) := by
            have := HU.out.2.2.2.2.2.tlen
            have := HT2.out
            have := HI.out
            unfold Hid; omega
          have G6 := Hid.mk' (G5.out.keep hb6)
          have P16 := Hid.mk' (P15.out.keep hb6)
          have P26 := Hid.mk' (P25.out.keep hb6)
          have H6 := Hid.mk' (H5.out.keep hb6)
          clear hu6 ho6 hb6 htn2 G5 P15 P25 H5 E5 HF HFE HTx
          dsimp only
          have hj0 : ¬ (j : Int) < 0 := by omega
          have hjn0 : ¬ (n : Int) ≤ (j : Int) := by have := HJ.out; omega
          have hjz : (0 : Int) ≤ (j : Int) := by omega
          have hjz2 : (j : Int) < (n : Int) := by have := HJ.out; omega
          have qn := fun W => ne9_no u2 W
          go_upto_region 39 with fail
          have D6 : Hid (Below w6.heap.size w6 w6.drew) := (Below.refl _ _).drew
          have G7 := Hid.mk' (G6.out.keep D6.out)
          have P17 := Hid.mk' (P16.out.keep D6.out)
          have P27 := Hid.mk' (P26.out.keep D6.out)
          have H7 := Hid.mk' (H6.out.keep D6.out)
          have O7 := Hid.mk' (own_keep OT.out D6.out)
          have J7 : Hid (T[j]? = some u2) := HJ.out.2
          clear G6 P16 P26 H6 OT D6
          refine wp_region_held (S := fun w' => w' = w6.drew) (by kernel_rfl) ?_
          change wpAnyH _ _ _ _ _ _ _ _ (World.drew _)
          generalize w6.drew = V6 at *
          refine wpAnyH_take (i := 0) (v := .int .i64 0) rfl (by kernel_rfl) (by kernel_rfl) (by kernel_rfl) (fun _ _ _ h => h) (Yields.yieldsIf (Or.inl ⟨by rfl, fun w => by go_simp⟩)) rfl ?_
          try simp only [Act.put, List.getElem_toArray, List.getElem_cons_zero, List.getElem_cons_succ, List.setIfInBounds_toArray, List.set_cons_zero, List.set_cons_succ]
          refine wpAnyH_take (i := 1) (v := .bool false) rfl (by kernel_rfl) (by kernel_rfl) (by kernel_rfl) (fun _ _ _ h => h) (Yields.yieldsIf (Or.inl ⟨by rfl, fun w => by go_simp⟩)) rfl ?_
          try simp only [Act.put, List.getElem_toArray, List.getElem_cons_zero, List.getElem_cons_succ, List.setIfInBounds_toArray, List.set_cons_zero, List.set_cons_succ]
          refine wpAnyH_take (i := 2) (v := .bool false) rfl (by kernel_rfl) (by kernel_rfl) (by kernel_rfl) (fun _ _ _ h => h) (Yields.yieldsIf (Or.inl ⟨by rfl, fun w => by go_simp⟩)) rfl ?_
          try simp only [Act.put, List.getElem_toArray, List.getElem_cons_zero, List.getElem_cons_succ, List.setIfInBounds_toArray, List.set_cons_zero, List.set_cons_succ]
          refine wpAnyH_take (i := 3) (v := .pointer (some ⟨p2, 1, none⟩)) rfl (by kernel_rfl) (by kernel_rfl) (by kernel_rfl) (fun _ _ _ h => h) (Yields.yieldsIf (Or.inl ⟨by rfl, fun w => by go_simp⟩)) rfl ?_
          try simp only [Act.put, List.getElem_toArray, List.getElem_cons_zero, List.getElem_cons_succ, List.setIfInBounds_toArray, List.set_cons_zero, List.set_cons_succ]
          refine wpAnyH_take (i := 4) (v := .int .i64 (j : Int)) rfl (by kernel_rfl) (by kernel_rfl) (by kernel_rfl) (fun _ _ _ h => h) (Or.inl ⟨by rfl, fun w9 h9 => by subst h9; have h1 : w9.cell? ⟨p2, 1, none⟩ = some (.int .i64 (j : Int)) := P27.out.cell rfl; have h2 := G7.out.sv.cell J7.out; have h3 := conv_tx (own_tx' O7.out (by have := HT9.out; omega)); go_simp⟩) rfl ?_
          try simp only [Act.put, List.getElem_toArray, List.getElem_cons_zero, List.getElem_cons_succ, List.setIfInBounds_toArray, List.set_cons_zero, List.set_cons_succ]
          refine wpAnyH_take (i := 5) (v := .bool false) rfl (by kernel_rfl) (by kernel_rfl) (by kernel_rfl) (fun _ _ _ h => h) (Yields.yieldsIf (Or.inl ⟨by rfl, fun w => by go_simp⟩)) rfl ?_
          try simp only [Act.put, List.getElem_toArray, List.getElem_cons_zero, List.getElem_cons_succ, List.setIfInBounds_toArray, List.set_cons_zero, List.set_cons_succ]
          refine wpAnyH_take (i := 6) (v := .bool false) rfl (by kernel_rfl) (by kernel_rfl) (by kernel_rfl) (fun _ _ _ h => h) (Yields.yieldsIf (Or.inl ⟨by rfl, fun w => by go_simp⟩)) rfl ?_
          try simp only [Act.put, List.getElem_toArray, List.getElem_cons_zero, List.getElem_cons_succ, List.setIfInBounds_toArray, List.set_cons_zero, List.set_cons_succ]
          refine wpAnyH_take (i := 7) (v := .bool false) rfl (by kernel_rfl) (by kernel_rfl) (by kernel_rfl) (fun _ _ _ h => h) (Yields.yieldsIf (Or.inl ⟨by rfl, fun w => by go_simp⟩)) rfl ?_
          try simp only [Act.put, List.getElem_toArray, List.getElem_cons_zero, List.getElem_cons_succ, List.setIfInBounds_toArray, List.set_cons_zero, List.set_cons_succ]
          refine wpAnyH_take (i := 8) (v := .pointer (some ⟨p2, 1, none⟩)) rfl (by kernel_rfl) (by kernel_rfl) (by kernel_rfl) (fun _ _ _ h => h) (Yields.yieldsIf (Or.inl ⟨by rfl, fun w => by go_simp⟩)) rfl ?_
          try simp only [Act.put, List.getElem_toArray, List.getElem_cons_zero, List.getElem_cons_succ, List.setIfInBounds_toArray, List.set_cons_zero, List.set_cons_succ]
          refine wpAnyH_take (i := 9) (v := .int .i64 (j : Int)) rfl (by kernel_rfl) (by kernel_rfl) (by kernel_rfl) (fun _ _ _ h => h) (Or.inl ⟨by rfl, fun w9 h9 => by subst h9; have h1 : w9.cell? ⟨p2, 1, none⟩ = some (.int .i64 (j : Int)) := P27.out.cell rfl; have h2 := G7.out.sv.cell J7.out; have h3 := conv_tx (own_tx' O7.out (by have := HT9.out; omega)); go_simp⟩) rfl ?_
          try simp only [Act.put, List.getElem_toArray, List.getElem_cons_zero, List.getElem_cons_succ, List.setIfInBounds_toArray, List.set_cons_zero, List.set_cons_succ]
          refine wpAnyH_take (i := 10) (v := .slice (some ⟨xg, 0, none⟩) n xc) rfl (by kernel_rfl) (by kernel_rfl) (by kernel_rfl) (fun _ _ _ h => h) (Yields.yieldsIf (Or.inl ⟨by rfl, fun w => by go_simp⟩)) rfl ?_
          try simp only [Act.put, List.getElem_toArray, List.getElem_cons_zero, List.getElem_cons_succ, List.setIfInBounds_toArray, List.set_cons_zero, List.set_cons_succ]
          refine wpAnyH_take (i := 11) (v := .int .i64 ((n : Nat) : Int)) rfl (by kernel_rfl) (by kernel_rfl) (by kernel_rfl) (fun _ _ _ h => h) (Yields.yieldsIf (Or.inl ⟨by rfl, fun w => by go_simp⟩)) rfl ?_
          try simp only [Act.put, List.getElem_toArray, List.getElem_cons_zero, List.getElem_cons_succ, List.setIfInBounds_toArray, List.set_cons_zero, List.set_cons_succ]
          refine wpAnyH_take (i := 12) (v := .bool false) rfl (by kernel_rfl) (by kernel_rfl) (by kernel_rfl) (fun _ _ _ h => h) (Yields.yieldsIf (Or.inl ⟨by rfl, fun w => by go_simp⟩)) rfl ?_
          try simp only [Act.put, List.getElem_toArray, List.getElem_cons_zero, List.getElem_cons_succ, List.setIfInBounds_toArray, List.set_cons_zero, List.set_cons_succ]
          refine wpAnyH_take (i := 13) (v := .bool false) rfl (by kernel_rfl) (by kernel_rfl) (by kernel_rfl) (fun _ _ _ h => h) (Yields.yieldsIf (Or.inl ⟨by rfl, fun w => by go_simp⟩)) rfl ?_
          try simp only [Act.put, List.getElem_toArray, List.getElem_cons_zero, List.getElem_cons_succ, List.setIfInBounds_toArray, List.set_cons_zero, List.set_cons_succ]
          refine wpAnyH_take (i := 14) (v := .bool false) rfl (by kernel_rfl) (by kernel_rfl) (by kernel_rfl) (fun _ _ _ h => h) (Yields.yieldsIf (Or.inl ⟨by rfl, fun w => by go_simp⟩)) rfl ?_
          try simp only [Act.put, List.getElem_toArray, List.getElem_cons_zero, List.getElem_cons_succ, List.setIfInBounds_toArray, List.set_cons_zero, List.set_cons_succ]
          refine wpAnyH_take (i := 15) (v := .slice ta2 tn2 tc2) rfl (by kernel_rfl) (by kernel_rfl) (by kernel_rfl) (fun _ _ _ h => h) (Yields.yieldsIf (Or.inl ⟨by rfl, fun w => by go_simp⟩)) rfl ?_
          try simp only [Act.put, List.getElem_toArray, List.getElem_cons_zero, List.getElem_cons_succ, List.setIfInBounds_toArray, List.set_cons_zero, List.set_cons_succ]
          refine wpAnyH_take (i := 16) (v := .string ⟨u2.toArray⟩) rfl (by kernel_rfl) (by kernel_rfl) (by kernel_rfl) (fun _ _ _ h => h) (Or.inl ⟨by rfl, fun w9 h9 => by subst h9; have h1 : w9.cell? ⟨p2, 1, none⟩ = some (.int .i64 (j : Int)) := P27.out.cell rfl; have h2 := G7.out.sv.cell J7.out; have h3 := conv_tx (own_tx' O7.out (by have := HT9.out; omega)); go_simp⟩) rfl ?_
          try simp only [Act.put, List.getElem_toArray, List.getElem_cons_zero, List.getElem_cons_succ, List.setIfInBounds_toArray, List.set_cons_zero, List.set_cons_succ]
          refine wpAnyH_take (i := 17) (v := .slice (some ⟨xg, 0, none⟩) n xc) rfl (by kernel_rfl) (by kernel_rfl) (by kernel_rfl) (fun _ _ _ h => h) (Yields.yieldsIf (Or.inl ⟨by rfl, fun w => by go_simp⟩)) rfl ?_
          try simp only [Act.put, List.getElem_toArray, List.getElem_cons_zero, List.getElem_cons_succ, List.setIfInBounds_toArray, List.set_cons_zero, List.set_cons_succ]
          refine wpAnyH_take (i := 18) (v := .pointer (some ⟨p2, 1, none⟩)) rfl (by kernel_rfl) (by kernel_rfl) (by kernel_rfl) (fun _ _ _ h => h) (Yields.yieldsIf (Or.inl ⟨by rfl, fun w => by go_simp⟩)) rfl ?_
          try simp only [Act.put, List.getElem_toArray, List.getElem_cons_zero, List.getElem_cons_succ, List.setIfInBounds_toArray, List.set_cons_zero, List.set_cons_succ]
          refine wpAnyH_take (i := 19) (v := .int .i64 (j : Int)) rfl (by kernel_rfl) (by kernel_rfl) (by kernel_rfl) (fun _ _ _ h => h) (Or.inl ⟨by rfl, fun w9 h9 => by subst h9; have h1 : w9.cell? ⟨p2, 1, none⟩ = some (.int .i64 (j : Int)) := P27.out.cell rfl; have h2 := G7.out.sv.cell J7.out; have h3 := conv_tx (own_tx' O7.out (by have := HT9.out; omega)); go_simp⟩) rfl ?_
          try simp only [Act.put, List.getElem_toArray, List.getElem_cons_zero, List.getElem_cons_succ, List.setIfInBounds_toArray, List.set_cons_zero, List.set_cons_succ]
          refine wpAnyH_take (i := 20) (v := .pointer (some ⟨xg, j, none⟩)) rfl (by kernel_rfl) (by kernel_rfl) (by kernel_rfl) (fun _ _ _ h => h) (Yields.yieldsIf (Or.inl ⟨by rfl, fun w => by go_simp⟩)) rfl ?_
          try simp only [Act.put, List.getElem_toArray, List.getElem_cons_zero, List.getElem_cons_succ, List.setIfInBounds_toArray, List.set_cons_zero, List.set_cons_succ]
          refine wpAnyH_take (i := 21) (v := .string ⟨u2.toArray⟩) rfl (by kernel_rfl) (by kernel_rfl) (by kernel_rfl) (fun _ _ _ h => h) (Or.inl ⟨by rfl, fun w9 h9 => by subst h9; have h1 : w9.cell? ⟨p2, 1, none⟩ = some (.int .i64 (j : Int)) := P27.out.cell rfl; have h2 := G7.out.sv.cell J7.out; have h3 := conv_tx (own_tx' O7.out (by have := HT9.out; omega)); go_simp⟩) rfl ?_
          try simp only [Act.put, List.getElem_toArray, List.getElem_cons_zero, List.getElem_cons_succ, List.setIfInBounds_toArray, List.set_cons_zero, List.set_cons_succ]
          refine wpAnyH_take (i := 22) (v := .bool false) rfl (by kernel_rfl) (by kernel_rfl) (by kernel_rfl) (fun _ _ _ h => h) (Yields.yieldsIf (Or.inl ⟨by rfl, fun w => by go_simp⟩)) rfl ?_
          try simp only [Act.put, List.getElem_toArray, List.getElem_cons_zero, List.getElem_cons_succ, List.setIfInBounds_toArray, List.set_cons_zero, List.set_cons_succ]
          refine wpAnyH_take (i := 23) (v := .bool false) rfl (by kernel_rfl) (by kernel_rfl) (by kernel_rfl) (fun _ _ _ h => h) (Yields.yieldsIf (Or.inl ⟨by rfl, fun w => by go_simp⟩)) rfl ?_
          try simp only [Act.put, List.getElem_toArray, List.getElem_cons_zero, List.getElem_cons_succ, List.setIfInBounds_toArray, List.set_cons_zero, List.set_cons_succ]
          refine wpAnyH_done (by kernel_rfl) ?_ _
          clear hj0 hjn0 qn
          go_upto_region 41 with fail
          have D6 : Hid (Below V6.heap.size V6 V6.drew) := (Below.refl _ _).drew
          have G8 := Hid.mk' (G7.out.keep D6.out)
          have P18 := Hid.mk' (P17.out.keep D6.out)
          have P28 := Hid.mk' (P27.out.keep D6.out)
          have H8 := Hid.mk' (H7.out.keep D6.out)
          have O8 := Hid.mk' (own_keep O7.out D6.out)
          clear G7 P17 P27 H7 O7 D6
          refine wp_region_held (S := fun w' => Blk w' p1 50 (cxa (.slice va vn vc) cu2 mm2) ∧ Blk w' p2 24 #[.slice (some ⟨B2, 0, none⟩) n k2, .int .i64 (j : Int)]) (by kernel_rfl) ?_
          change wpAnyH _ _ _ _ _ _ _ _ (World.drew _)
          generalize V6.drew = V8 at *
          refine wpAnyH_take (i := 0) (v := .agg #[.slice (some ⟨B2, 0, none⟩) n k2, .int .i64 (j : Int)]) rfl (by kernel_rfl) (by kernel_rfl) (by kernel_rfl) (fun _ _ _ h => h) (Or.inl ⟨by rfl, fun w9 h9 => by obtain ⟨h1, h2⟩ := h9; have h3 : w9.cell? ⟨p2, 0, none⟩ = some (.slice (some ⟨B2, 0, none⟩) n k2) := h2.cell rfl; have h4 : w9.cell? ⟨p2, 1, none⟩ = some (.int .i64 (j : Int)) := h2.cell rfl; go_simp⟩) ⟨P18.out, P28.out⟩ ?_
          try simp only [Act.put, List.getElem_toArray, List.getElem_cons_zero, List.getElem_cons_succ, List.setIfInBounds_toArray, List.set_cons_zero, List.set_cons_succ]
          refine wpAnyH_take (i := 1) (v := .slice ta2 tn2 tc2) rfl (by kernel_rfl) (by kernel_rfl) (by kernel_rfl) (fun _ _ _ h => h) (Yields.yieldsIf (Or.inl ⟨by rfl, fun w => by go_simp⟩)) ⟨P18.out, P28.out⟩ ?_
          try simp only [Act.put, List.getElem_toArray, List.getElem_cons_zero, List.getElem_cons_succ, List.setIfInBounds_toArray, List.set_cons_zero, List.set_cons_succ]
          refine wpAnyH_take (i := 2) (v := .pointer (some ⟨p1, 2, none⟩)) rfl (by kernel_rfl) (by kernel_rfl) (by kernel_rfl) (fun _ _ _ h => h) (Yields.yieldsIf (Or.inl ⟨by rfl, fun w => by go_simp⟩)) ⟨P18.out, P28.out⟩ ?_
          try simp only [Act.put, List.getElem_toArray, List.getElem_cons_zero, List.getElem_cons_succ, List.setIfInBounds_toArray, List.set_cons_zero, List.set_cons_succ]
          refine wpAnyH_take (i := 3) (v := .agg (mk mm2)) rfl (by kernel_rfl) (by kernel_rfl) (by kernel_rfl) (fun _ _ _ h => h) (yi_ld ty41 rfl (.tmp 197) rfl rfl (ml mm2) (by rw [ml_len, hm2]) (fun _ h => (Cb.of h.1).mr)) ⟨P18.out, P28.out⟩ ?_
          try simp only [Act.put, List.getElem_toArray, List.getElem_cons_zero, List.getElem_cons_succ, List.setIfInBounds_toArray, List.set_cons_zero, List.set_cons_succ]
          refine wpAnyH_all (rs := [4]) (by kernel_rfl) (by simp) (AllH.cons rfl (fun K hK => ?_) AllH.nil)
          have q5 : Hid (V8.there b5 0 2) := there_blk (cs := [.slice (some ⟨B, 0, none⟩) n k, .int .i64 now]) G8.out.k5
          have D1 : Hid (Blk (V8.setCells b5 0 [.slice (some ⟨B2, 0, none⟩) n k2, .int .i64 (j : Int)]) p1 50 (cxa (.slice va vn vc) cu2 mm2)) := P18.out.wr (wr_blk G8.out.k5 (grown_setCells _ _ _)) (by decide)
          have D2 : Hid (Blk (V8.setCells b5 0 [.slice (some ⟨B2, 0, none⟩) n k2, .int .i64 (j : Int)]) p2 24 #[.slice (some ⟨B2, 0, none⟩) n k2, .int .i64 (j : Int)]) := blk_setCells_off PN.out.2.2.2.symm _ _ P28.out
          have D3 : Hid (Blk (V8.setCells b5 0 [.slice (some ⟨B2, 0, none⟩) n k2, .int .i64 (j : Int)]) b8 41 (mk mm)) := G8.out.k8.wr (wr_blk G8.out.k5 (grown_setCells _ _ _)) (by decide)
          refine do_st ty24 rfl (.tmp 5) (.tmp 195) rfl rfl [.slice (some ⟨B2, 0, none⟩) n k2, .int .i64 (j : Int)] rfl rfl q5.out (fun v hv => by simp at hv; rcases hv with rfl | rfl <;> rfl) ?_
          obtain ⟨w7, hw7⟩ : ∃ x, V8.setCells b5 0 [.slice (some ⟨B2, 0, none⟩) n k2, .int .i64 (j : Int)] = x := ⟨_, rfl⟩
          rw [hw7] at D1 D2 D3
          rw [hw7]
          have HW7 := Hid.mk' hw7
          clear hw7 q5
          refine hK _ _ ⟨⟨D1.out, D2.out⟩, ?_⟩
          clear hK K
          try simp only [Act.put, List.getElem_toArray, List.getElem_cons_zero, List.getElem_cons_succ, List.setIfInBounds_toArray, List.set_cons_zero, List.set_cons_succ]
          refine wpAnyH_take (i := 5) (v := .slice ta2 tn2 tc2) rfl (by kernel_rfl) (by kernel_rfl) (by kernel_rfl) (fun _ _ _ h => h) (Yields.yieldsIf (Or.inl ⟨by rfl, fun w => by go_simp⟩)) ⟨D1.out, D2.out⟩ ?_
          try simp only [Act.put, List.getElem_toArray, List.getElem_cons_zero, List.getElem_cons_succ, List.setIfInBounds_toArray, List.set_cons_zero, List.set_cons_succ]
          refine wpAnyH_all (rs := [6]) (by kernel_rfl) (by simp) (AllH.cons rfl (fun K hK => ?_) AllH.nil)
          have D4 : Hid (Blk (w7.setCells b8 0 (ml mm2)) p1 50 (cxa (.slice va vn vc) cu2 mm2)) := D1.out.wr (wr_blk D3.out (grown_setCells _ _ _)) (by decide)
          have D5 : Hid (Blk (w7.setCells b8 0 (ml mm2)) p2 24 #[.slice (some ⟨B2, 0, none⟩) n k2, .int .i64 (j : Int)]) := D2.out.wr (wr_blk D3.out (grown_setCells _ _ _)) (by decide)
          have q8 : Hid (w7.there b8 0 27) := by have := there_blk (cs := ml mm) D3.out; rwa [ml_len, G8.out.mw.len] at this
          refine do_st ty41 rfl (.tmp 8) (.tmp 198) rfl rfl (ml mm2) rfl (by rw [ml_len, hm2]) q8.out (ml_one _) ?_
          obtain ⟨w8, hw8x⟩ : ∃ x, w7.setCells b8 0 (ml mm2) = x := ⟨_, rfl⟩
          rw [hw8x] at D4 D5
          rw [hw8x]
          have e9 : w8 = (V8.setCells b5 0 [.slice (some ⟨B2, 0, none⟩) n k2, .int .i64 (j : Int)]).setCells b8 0 (ml mm2) := by rw [HW7.out, hw8x]
          have G9 := Hid.mk' (G8.out.cross H8.out HHN.out HK2.out O8.out HT2.out HPX.out HM2.out e9)
          clear e9 hw8x q8
          refine hK _ _ ⟨⟨D4.out, D5.out⟩, ?_⟩
          clear hK K
          try simp only [Act.put, List.getElem_toArray, List.getElem_cons_zero, List.getElem_cons_succ, List.setIfInBounds_toArray, List.set_cons_zero, List.set_cons_succ]
          refine wpAnyH_done (by kernel_rfl) ?_ _
          go_wp2
          go_roundg go
          case measure => omega
          case rel => exact ⟨i + 1, ta2, tn2, tc2, xg, n, xc, B2, k2, (j : Int), lo2, hi2, H2, X2, S2, u2, T, mm2, rfl, rfl, by go_num, by omega, G9.out⟩
      have k0 : (sk == 0) = false := by simpa using hk0
      have k1 : (sk == 1) = false := by simpa using hk1
      have k2 : (sk == 2) = false := by simpa using hk2
      have k3 : (sk == 3) = false := by simpa using hk3
      go_wp2
      go_roundg go
      case measure => omega
      case rel => exact ⟨i + 1, ta, tn, tc, xg, n, xc, B, k, now, lo, hi, H, X, S, t, T, mm, rfl, rfl, by go_num, by omega, G3.out.next⟩
    · have hin' : ¬ (i : Int) < (sn : Int) := by omega
      go_wp2
      go_ret
      exact ⟨rfl, KG.out.bel⟩
theorem zv41 : (Try.prog.info? 41).map (·.zero) = some (some (.agg (mk zm))) := by kernel_rfl
theorem groveTexts_walk (ua : Option Addr) (un uc : Nat) (t0 : List UInt8) (so : Option Addr) (sn sc : Nat) (L : List Sp) (w : World) (HT : Hid (Tx w ua un uc t0)) (HS : Hid (Stz w so L)) (hL : L.length = sn) :
    Calls Try.prog 8 #[.slice ua un uc, .slice so sn sc] w fun e w' => e = .returned (.bool true) ∧ Below w.heap.size w w' := groveTexts_walk' zm rfl z50 (fun w => zv_run zv41 w) ua un uc t0 so sn sc L w HT HS hL
end Go.Proofs.Ytaahklapoppgaaa
