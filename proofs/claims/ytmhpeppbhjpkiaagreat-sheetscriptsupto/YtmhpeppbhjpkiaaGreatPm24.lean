/- The contract of the wood's add. -/
import Derived.Test.YtmhpeppbhjpkiaaGreatPm23
import Derived.Deep.AppendLies
import Derived.Deep.RegionLaw
namespace Go.Proofs.YtmhpeppbhjpkiaaGreat
open Go.RowKit

def ndA (ps po pl pn : Int) (c : Bool) (li ri k1 k2 k3 k4 : Int) : Array Value := #[.int .i64 ps, .int .i64 po, .int .i64 pl, .int .i64 pn, .bool c, .int .i64 li, .int .i64 ri, .int .i64 k1, .int .i64 k2, .int .i64 k3, .int .i64 k4]
theorem ndA_cells {W : World} {B : Nat} {ps po pl pn : Int} {c : Bool} {li ri k1 k2 k3 k4 : Int} (h : Blk W B 151 (ndA ps po pl pn c li ri k1 k2 k3 k4)) :
    W.cell? ⟨B, 0, none⟩ = some (.int .i64 ps) ∧ W.cell? ⟨B, 1, none⟩ = some (.int .i64 po) ∧ W.cell? ⟨B, 2, none⟩ = some (.int .i64 pl) ∧ W.cell? ⟨B, 3, none⟩ = some (.int .i64 pn) ∧ W.cell? ⟨B, 4, none⟩ = some (.bool c) ∧ W.cell? ⟨B, 5, none⟩ = some (.int .i64 li) ∧ W.cell? ⟨B, 6, none⟩ = some (.int .i64 ri) ∧ W.cell? ⟨B, 7, none⟩ = some (.int .i64 k1) ∧ W.cell? ⟨B, 8, none⟩ = some (.int .i64 k2) ∧ W.cell? ⟨B, 9, none⟩ = some (.int .i64 k3) ∧ W.cell? ⟨B, 10, none⟩ = some (.int .i64 k4) :=
  ⟨h.cell rfl, h.cell rfl, h.cell rfl, h.cell rfl, h.cell rfl, h.cell rfl, h.cell rfl, h.cell rfl, h.cell rfl, h.cell rfl, h.cell rfl⟩

theorem blk2 (w : World) (X : Obj) (e : Nat) (cs : Array Value) : Blk ((w.alloc X).alloc (.cells cs e)).drew (w.heap.size + 1) e cs := by
  have h := Blk.new (w.alloc X) e cs
  rw [World.size_alloc] at h
  exact h

theorem Wd.ne {W : World} {base B : Nat} {v : Value} {N : List Nd} (h : Wd W base B v N) : v.ownBlock ≠ some B := by
  intro e
  rcases h.own.2 with ⟨hv, _⟩ | ⟨g, cap, cur, hv, _, hg, _⟩
  · subst hv; simp [Value.ownBlock] at e
  · subst hv
    simp [Value.ownBlock] at e
    subst e
    have := h.blk
    unfold Blk at this
    rw [hg] at this
    simp at this
theorem Wd.blk_grown {W w9 : World} {base B : Nat} {v : Value} {N : List Nd} {X : Obj} (h : Wd W base B v N) (hg : (W.alloc X).drew.grownBy w9 v.ownBlock) : Blk w9 B 102 #[v] := by
  unfold Blk
  rw [hg.block B (by have := h.blk.lt; simp; omega) h.ne.symm]
  exact h.blk.alloc X
/-- a node more, and the row's new value stored -/
theorem Wd.added {w W w9 : World} {base B g9 cap9 : Nat} {v : Value} {N : List Nd} {x : Nd} {X : Obj} (h : Wd w base B v N) (hb : Below w.heap.size w W) (hg : (W.alloc X).drew.grownBy w9 v.ownBlock)
    (ho : w9.ownsRow base 151 11 (.slice (some ⟨g9, 0, none⟩) (N.length + 1) cap9) (N.length + 1) (ndcells N ++ x.cs)) (ha : v.ownBlock = some g9 ∨ g9 = W.heap.size + 1) :
    Wd (w9.setCell ⟨B, 0, none⟩ (.slice (some ⟨g9, 0, none⟩) (N.length + 1) cap9)) base B (.slice (some ⟨g9, 0, none⟩) (N.length + 1) cap9) (N ++ [x]) ∧ Grw w (w9.setCell ⟨B, 0, none⟩ (.slice (some ⟨g9, 0, none⟩) (N.length + 1) cap9)) B v (.slice (some ⟨g9, 0, none⟩) (N.length + 1) cap9) := by
  have hW := h.keep hb
  have hk9 := hW.blk_grown hg
  have hlt := h.blk.lt
  have hsz := hb.size
  have hne : g9 ≠ B := by
    rcases ha with e | e
    · intro e2; subst e2; exact h.ne e
    · omega
  have hz9 := hg.size
  simp at hz9
  refine ⟨⟨heap_setCell_same _ B 0 _ 102 _ hk9, ?_, h.low⟩, ⟨hg.os.trans hb.os, hg.tape.trans hb.tape, hg.output.trans hb.output, ?_, fun k hk hB hv => ?_, ?_⟩⟩
  · have h1 : (w9.setCell ⟨B, 0, none⟩ (.slice (some ⟨g9, 0, none⟩) (N.length + 1) cap9)).ownsRow base 151 11 (.slice (some ⟨g9, 0, none⟩) (N.length + 1) cap9) (N.length + 1) (ndcells N ++ x.cs) :=
      ho.kept (row := some B) ⟨rfl, rfl, rfl, by simp, fun k _ hk => heap_setCell_other w9 ⟨B, 0, none⟩ k _ (fun e => hk (by simp [e]))⟩ (.inr (by simp [Value.ownBlock]; exact hne))
    have e1 : ndcells (N ++ [x]) = ndcells N ++ x.cs := by rw [ndcells_append]; simp [ndcells]
    have e2 : (N ++ [x]).length = N.length + 1 := by simp
    rw [e1, e2]
    exact h1
  · show w.heap.size ≤ (w9.setCell ⟨B, 0, none⟩ _).heap.size
    simp; omega
  · show (w9.setCell ⟨B, 0, none⟩ _).heap[k]? = w.heap[k]?
    rw [heap_setCell_other w9 ⟨B, 0, none⟩ k _ hB, hg.block k (by simp; omega) hv]
    show (W.alloc X).heap[k]? = w.heap[k]?
    rw [(bAlloc (Below.refl W.heap.size W) X).block k (by omega), hb.block k hk]
  · rcases ha with e | e
    · exact .inl (by rw [e]; rfl)
    · exact .inr ⟨g9, rfl, by omega⟩

set_option maxRecDepth 100000 in
set_option maxHeartbeats 8000000 in
theorem wadd_any (l r : Tr) (li ri : Int) (ps po pl pn : Int) (c : Bool) (base B : Nat) (v : Value) (N : List Nd) (w : World) (hz : N.length ≤ 2097152) (hs : l.size + r.size ≤ 2097152) (hp : Hid (Pc.fit ⟨ps, po, pl, pn⟩)) (hl : Hid l.fits) (hr : Hid r.fits)
    (h : Hid (Wd w base B v N)) (h1 : Hid (Is N l li)) (h2 : Hid (Is N r ri)) (hB : base ≤ w.heap.size) :
    Calls Tryz.prog 98 #[.pointer (some ⟨B, 0, none⟩), .int .i64 li, .agg #[.int .i64 ps, .int .i64 po, .int .i64 pl, .int .i64 pn], .int .i64 ri, .bool c] w fun e w' =>
      ∃ v', e = .returned (.int .i64 (N.length : Nat)) ∧ Wd w' base B v' (N ++ [ndOf c l ⟨ps, po, pl, pn⟩ r li ri]) ∧ Grw w w' B v v' := by
  go_enter Tryz.func98, Tryz.ntmps98
  go_upto_region 1 with fail
  have b0 := Blk.new w 59 #[.int .i64 ps, .int .i64 po, .int .i64 pl, .int .i64 pn]
  have c0 := b0.cell (j := 0) rfl
  have c1 := b0.cell (j := 1) rfl
  have c2 := b0.cell (j := 2) rfl
  have c3 := b0.cell (j := 3) rfl
  clear b0
  go_cut [11] from 12 to 122 (fun p11 wx => p11 = .pointer (some ⟨w.heap.size + 1, 0, none⟩) ∧ Blk wx (w.heap.size + 1) 151 (ndA ps po pl pn c li ri 1 pl pn (l.bh : Nat)) ∧ Below w.heap.size w wx)
  case first =>
    go_region_held3 (fun w' => w'.cell? ⟨w.heap.size, 0, none⟩ = some (.int .i64 ps) ∧ w'.cell? ⟨w.heap.size, 1, none⟩ = some (.int .i64 po) ∧ w'.cell? ⟨w.heap.size, 2, none⟩ = some (.int .i64 pl) ∧ w'.cell? ⟨w.heap.size, 3, none⟩ = some (.int .i64 pn)) ((simp [go_sem]; done))
      (first | (go_at_call 97; refine (wbh_any l li base B v N _ hz (by first | exact h.out.keep (bAlloc (Below.refl _ _) _) | exact h.out.keep (bAlloc (bAlloc (Below.refl _ _) _) _) | exact h.out.keep (bAlloc (Below.refl _ _) _).drew | exact h.out.keep (bAlloc (bAlloc (Below.refl _ _) _) _).drew) h1).mono ?_; rintro e w5 ⟨rfl, rfl⟩))
    all_goals (go_wp2_with fail; go_meet)
    all_goals exact ⟨rfl, blk2 w _ 151 _, (bAlloc (bAlloc (Below.refl _ _) _) _).drew⟩
  case rest =>
  obtain ⟨rfl, hk, hb⟩ := hcut
  have HB1 := Hid.mk' hb
  have HK1 := Hid.mk' hk
  obtain ⟨d0, d1, d2, d3, d4, d5, d6, d7, d8, d9, d10⟩ := ndA_cells hk
  have fd := hk.frozen
  clear hb hk
  have hbl := l.bh_le
  go_upto_if 26 with fail
  go_cut [11] from 12 to 122 (fun p11 wx => p11 = .pointer (some ⟨w.heap.size + 1, 0, none⟩) ∧ Blk wx (w.heap.size + 1) 151 (ndA ps po pl pn c li ri 1 pl pn ((Tr.mk (some (c, l, ⟨ps, po, pl, pn⟩, r))).bh : Nat)) ∧ Below w.heap.size w wx)
  case first =>
    cases c with
    | true =>
      go_wp2_with fail
      go_meet
      exact ⟨rfl, HK1.out, HB1.out⟩
    | false =>
      go_wp2_with fail
      go_meet
      exact ⟨rfl, heap_setCell_same _ (w.heap.size + 1) 10 _ 151 (.int .i64 ((l.bh : Int) + 1)) HK1.out, HB1.out.setCell (p := ⟨w.heap.size + 1, 10, none⟩) (by simp) _⟩
  case rest =>
  obtain ⟨rfl, hk, hb⟩ := hcut
  clear HB1 HK1 d0 d1 d2 d3 d4 d5 d6 d7 d8 d9 d10 fd
  generalize hQ : (((Tr.mk (some (c, l, ⟨ps, po, pl, pn⟩, r))).bh : Nat) : Int) = Q at *
  have HQ := Hid.mk' hQ
  have HB2 := Hid.mk' hb
  have HK2 := Hid.mk' hk
  obtain ⟨d0, d1, d2, d3, d4, d5, d6, d7, d8, d9, d10⟩ := ndA_cells hk
  have fd := hk.frozen
  have hW2 := Hid.mk' (h.out.keep hb)
  clear hb hk hQ
  have bl := l.fits_bounds hl.out
  have br := r.fits_bounds hr.out
  have bp : 1 ≤ pl ∧ pl ≤ 2147483647 ∧ 0 ≤ pn ∧ pn ≤ pl := hp.out
  obtain ⟨bp1, bp2, bp3, bp4⟩ := bp
  obtain ⟨bl1, bl2, bl3, bl4, -⟩ := bl
  go_upto_if 32 with fail
  go_cut [11] from 12 to 122 (fun p11 wx => p11 = .pointer (some ⟨w.heap.size + 1, 0, none⟩) ∧ Blk wx (w.heap.size + 1) 151 (ndA ps po pl pn c li ri (1 + (l.size : Int)) (pl + l.byt) (pn + l.lin) Q) ∧ Below w.heap.size w wx)
  case first =>
    cases l using Tr.el with
    | nil =>
      have e := h1.out.nil_iff
      subst e
      go_wp2_with fail
      go_meet
      exact ⟨rfl, by simpa [Tr.size, Tr.byt, Tr.lin] using HK2.out, HB2.out⟩
    | node c' l' p' r' =>
      obtain ⟨j, li', ri', e, hj, -, -⟩ := h1.out
      subst e
      obtain ⟨g, cap, hv, hc⟩ := hW2.out.node hj
      subst hv
      have x0 := hW2.out.cell1
      have x7 : wc.cell? ⟨g, j * 11 + 7, none⟩ = some (.int .i64 (((Tr.mk (some (c', l', p', r'))).size : Nat))) := hc 7 (by omega)
      have x8 : wc.cell? ⟨g, j * 11 + 8, none⟩ = some (.int .i64 (Tr.mk (some (c', l', p', r'))).byt) := hc 8 (by omega)
      have x9 : wc.cell? ⟨g, j * 11 + 9, none⟩ = some (.int .i64 (Tr.mk (some (c', l', p', r'))).lin) := hc 9 (by omega)
      have hlt := (List.getElem?_eq_some_iff.1 hj).1
      have j0 : (0 : Int) ≤ (j : Int) := by omega
      have j1 : (j : Int) < (N.length : Int) := by omega
      have hg : g < w.heap.size := (h.out.own.lt g rfl).2
      have hg1 : ¬ g = w.heap.size + 1 := by omega
      have hBl : B < w.heap.size := h.out.blk.lt
      have hB1' : ¬ B = w.heap.size + 1 := by omega
      clear hc hj
      go_upto_region 5 with fail
      go_region
      go_upto_region 6 with fail
      go_region
      go_upto_region 7 with fail
      go_region
      go_wp2_with fail
      go_meet
      refine ⟨rfl, ?_, ?_⟩
      · exact heap_setCell_same _ (w.heap.size + 1) 9 _ 151 _ (heap_setCell_same _ (w.heap.size + 1) 8 _ 151 _ (heap_setCell_same _ (w.heap.size + 1) 7 _ 151 _ HK2.out))
      · exact (((((HB2.out.setCell (p := ⟨w.heap.size + 1, 7, none⟩) (by simp) _).drew).setCell (p := ⟨w.heap.size + 1, 8, none⟩) (by simp) _).drew).setCell (p := ⟨w.heap.size + 1, 9, none⟩) (by simp) _).drew
  case rest =>
  obtain ⟨rfl, hk, hb⟩ := hcut
  clear HB2 HK2 hW2 d0 d1 d2 d3 d4 d5 d6 d7 d8 d9 d10 fd
  have HB3 := Hid.mk' hb
  have HK3 := Hid.mk' hk
  obtain ⟨d0, d1, d2, d3, d4, d5, d6, d7, d8, d9, d10⟩ := ndA_cells hk
  have fd := hk.frozen
  have hW3 := Hid.mk' (h.out.keep hb)
  clear hb hk
  obtain ⟨br1, br2, br3, br4, -⟩ := br
  go_upto_if 70 with fail
  go_cut [11] from 12 to 122 (fun p11 wx => p11 = .pointer (some ⟨w.heap.size + 1, 0, none⟩) ∧ Blk wx (w.heap.size + 1) 151 (ndA ps po pl pn c li ri (1 + (l.size : Int) + (r.size : Int)) (pl + l.byt + r.byt) (pn + l.lin + r.lin) Q) ∧ Below w.heap.size w wx)
  case first =>
    cases r using Tr.el with
    | nil =>
      have e := h2.out.nil_iff
      subst e
      go_wp2_with fail
      go_meet
      exact ⟨rfl, by simpa [Tr.size, Tr.byt, Tr.lin] using HK3.out, HB3.out⟩
    | node c' l' p' r' =>
      obtain ⟨j, li', ri', e, hj, -, -⟩ := h2.out
      subst e
      obtain ⟨g, cap, hv, hc⟩ := hW3.out.node hj
      subst hv
      have x0 := hW3.out.cell1
      have x7 : wc.cell? ⟨g, j * 11 + 7, none⟩ = some (.int .i64 (((Tr.mk (some (c', l', p', r'))).size : Nat))) := hc 7 (by omega)
      have x8 : wc.cell? ⟨g, j * 11 + 8, none⟩ = some (.int .i64 (Tr.mk (some (c', l', p', r'))).byt) := hc 8 (by omega)
      have x9 : wc.cell? ⟨g, j * 11 + 9, none⟩ = some (.int .i64 (Tr.mk (some (c', l', p', r'))).lin) := hc 9 (by omega)
      have hlt := (List.getElem?_eq_some_iff.1 hj).1
      have j0 : (0 : Int) ≤ (j : Int) := by omega
      have j1 : (j : Int) < (N.length : Int) := by omega
      have hg : g < w.heap.size := (h.out.own.lt g rfl).2
      have hg1 : ¬ g = w.heap.size + 1 := by omega
      have hBl : B < w.heap.size := h.out.blk.lt
      have hB1' : ¬ B = w.heap.size + 1 := by omega
      clear hc hj
      go_upto_region 9 with fail
      go_region
      go_upto_region 10 with fail
      go_region
      go_upto_region 11 with fail
      go_region
      go_wp2_with fail
      go_meet
      refine ⟨rfl, ?_, ?_⟩
      · exact heap_setCell_same _ (w.heap.size + 1) 9 _ 151 _ (heap_setCell_same _ (w.heap.size + 1) 8 _ 151 _ (heap_setCell_same _ (w.heap.size + 1) 7 _ 151 _ HK3.out))
      · exact (((((HB3.out.setCell (p := ⟨w.heap.size + 1, 7, none⟩) (by simp) _).drew).setCell (p := ⟨w.heap.size + 1, 8, none⟩) (by simp) _).drew).setCell (p := ⟨w.heap.size + 1, 9, none⟩) (by simp) _).drew
  case rest =>
  obtain ⟨rfl, hk, hb⟩ := hcut
  clear HB3 HK3 hW3 d0 d1 d2 d3 d4 d5 d6 d7 d8 d9 d10 fd
  obtain ⟨wE, hwE⟩ : ∃ W : World, W = wc := ⟨_, rfl⟩
  subst hwE
  obtain ⟨i0, hi, hz0, hz1, hz2⟩ := info_parts info118
  have I := Hid.mk' (And.intro hi (And.intro hz0 (And.intro hz1 hz2)))
  clear hi hz0 hz1 hz2
  have HB4 := Hid.mk' hb
  have HK4 := Hid.mk' hk
  obtain ⟨d0, d1, d2, d3, d4, d5, d6, d7, d8, d9, d10⟩ := ndA_cells hk
  have hW4 := Hid.mk' (h.out.keep hb)
  have x0 := hW4.out.cell1
  have hND : Hid ((⟨⟨ps, po, pl, pn⟩, c, li, ri, 1 + (l.size : Int) + (r.size : Int), pl + l.byt + r.byt, pn + l.lin + r.lin, Q⟩ : Nd) = ndOf c l ⟨ps, po, pl, pn⟩ r li ri) := by
    unfold Hid ndOf
    rw [HQ.out]
    simp only [Tr.size, Tr.byt, Tr.lin, Nd.mk.injEq, true_and, and_true]
    omega
  have hlE : w.heap.size + 1 < wE.heap.size := hk.lt
  have hsE := hb.size
  clear hb hk
  obtain ⟨av, cv, hv⟩ := own_shape h.out.own
  subst hv
  have hBl : B < w.heap.size := h.out.blk.lt
  have hBE : B < wE.heap.size := by omega
  go_upto_region 12 with fail
  go_region_law ((refine step_append_lies _ (by rfl) (.tmp 111) (.tmp 113) 100 (by rfl) base 151 i0 (.agg #[.int .i64 0, .int .i64 0, .int .i64 0, .int .i64 0, .bool false, .int .i64 0, .int .i64 0, .int .i64 0, .int .i64 0, .int .i64 0, .int .i64 0]) 11 88 Tryz.underlying100 I.out.1 I.out.2.1 I.out.2.2.1 I.out.2.2.2 (by rfl) (by decide) (.slice av N.length cv) N.length (ndcells N) (by rfl) (own_drew (hW4.out.own.alloc _)) ⟨wE.heap.size, 0, none⟩ 1 1 (Nd.cs ⟨⟨ps, po, pl, pn⟩, c, li, ri, 1 + (l.size : Int) + (r.size : Int), pl + l.byt + r.byt, pn + l.lin + r.lin, Q⟩) (by rfl) (by rfl) (World.news_of_block (heap_alloc_new wE _)) (nd_one _) (by decide) (by unfold maxLen; omega) (by omega) (by simp; omega) (wE.heap.size + 1) (by simp) ?_; intro g9 cap9 w9 hown9 hgrow9 hat9 hlt9; have hk9 := hW4.out.blk_grown hgrow9; have y0 := hk9.cell (j := 0) rfl; have fy := hk9.frozen))
  all_goals
    have FIN := Hid.mk' (Wd.added h.out HB4.out hgrow9 hown9 hat9)
    clear hown9 hgrow9 hat9 hlt9
    go_wp2
    go_ret
    exact ⟨_, by first | rfl | go_num, by rw [← hND.out]; exact FIN.out.1, FIN.out.2⟩
end Go.Proofs.YtmhpeppbhjpkiaaGreat

