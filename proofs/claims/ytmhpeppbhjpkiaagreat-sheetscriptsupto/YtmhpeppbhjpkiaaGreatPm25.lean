/- The contract of the wood's black. -/
import Derived.Test.YtmhpeppbhjpkiaaGreatPm24
namespace Go.Proofs.YtmhpeppbhjpkiaaGreat
open Go.RowKit

/-- what a call that makes nodes gives: the tree's number, at most so many nodes more -/
def Mades (w : World) (base B : Nat) (v : Value) (N : List Nd) (t : Tr) (cost : Nat) (e : Ending) (w' : World) : Prop :=
  ∃ (i : Int) (v' : Value) (M : List Nd), e = .returned (.int .i64 i) ∧ Wd w' base B v' (N ++ M) ∧ Is (N ++ M) t i ∧ Grw w w' B v v' ∧ M.length ≤ cost

/-- add, told so -/
theorem wadd_made (l r : Tr) (li ri : Int) (p : Pc) (c : Bool) (base B : Nat) (v : Value) (N : List Nd) (w : World) (hz : N.length ≤ 2097152) (hs : l.size + r.size ≤ 2097152) (hp : p.fit) (hl : l.fits) (hr : r.fits)
    (h : Wd w base B v N) (h1 : Is N l li) (h2 : Is N r ri) (hB : base ≤ w.heap.size) :
    Calls Tryz.prog 98 #[.pointer (some ⟨B, 0, none⟩), .int .i64 li, .agg #[.int .i64 p.s, .int .i64 p.o, .int .i64 p.l, .int .i64 p.n], .int .i64 ri, .bool c] w fun e w' => Mades w base B v N (Tr.mk (some (c, l, p, r))) 1 e w' := by
  refine (wadd_any l r li ri p.s p.o p.l p.n c base B v N w hz hs hp hl hr h h1 h2 hB).mono ?_
  rintro e w' ⟨v', rfl, hW, hG⟩
  refine ⟨_, v', _, rfl, hW, ⟨N.length, li, ri, rfl, by simp, h1.more _, h2.more _⟩, hG, by simp⟩

set_option maxRecDepth 100000 in
set_option maxHeartbeats 4000000 in
theorem wblack_any (t : Tr) (i : Int) (base B : Nat) (v : Value) (N : List Nd) (w : World) (hz : N.length ≤ 2097152) (hs : t.size ≤ 2097152) (hf : Hid t.fits) (h : Hid (Wd w base B v N)) (h1 : Hid (Is N t i)) (hB : base ≤ w.heap.size) :
    Calls Tryz.prog 101 #[.pointer (some ⟨B, 0, none⟩), .int .i64 i] w fun e w' => Mades w base B v N t.blk 1 e w' := by
  cases hred : t.red with
  | false =>
    have hblk : Hid (t.blk = t) := by
      unfold Hid
      cases t using Tr.el with
      | nil => rfl
      | node c l p r => have : c = false := hred; subst this; rfl
    go_enter Tryz.func101, Tryz.ntmps101
    go_wp2_with (go_at_call 125; refine (wred_any t i base B v N _ hz h h1).mono ?_; rw [hred]; rintro e w' ⟨rfl, rfl⟩)
    go_ret
    exact ⟨i, v, [], rfl, by simpa using h.out, by rw [hblk.out]; simpa using h1.out, Grw.refl _ _ _, by simp⟩
  | true =>
    cases t using Tr.el with
    | nil => cases hred
    | node c l p r =>
      have hc : c = true := hred
      subst hc
      obtain ⟨j, li, ri, e, hj, hl, hr⟩ := h1.out
      subst e
      obtain ⟨g, cap, hv, hc⟩ := h.out.node hj
      subst hv
      have x0 := h.out.cell1
      obtain ⟨ps, po, pl, pn⟩ := p
      have y0 : w.cell? ⟨g, j * 11, none⟩ = some (.int .i64 ps) := hc 0 (by omega)
      have y1 : w.cell? ⟨g, j * 11 + 1, none⟩ = some (.int .i64 po) := hc 1 (by omega)
      have y2 : w.cell? ⟨g, j * 11 + 2, none⟩ = some (.int .i64 pl) := hc 2 (by omega)
      have y3 : w.cell? ⟨g, j * 11 + 3, none⟩ = some (.int .i64 pn) := hc 3 (by omega)
      have y4 : w.cell? ⟨g, j * 11 + 4, none⟩ = some (.bool true) := hc 4 (by omega)
      have y5 : w.cell? ⟨g, j * 11 + 5, none⟩ = some (.int .i64 li) := hc 5 (by omega)
      have y6 : w.cell? ⟨g, j * 11 + 6, none⟩ = some (.int .i64 ri) := hc 6 (by omega)
      obtain ⟨k7, y7⟩ : ∃ k, w.cell? ⟨g, j * 11 + 7, none⟩ = some (.int .i64 k) := ⟨_, hc 7 (by omega)⟩
      obtain ⟨k8, y8⟩ : ∃ k, w.cell? ⟨g, j * 11 + 8, none⟩ = some (.int .i64 k) := ⟨_, hc 8 (by omega)⟩
      obtain ⟨k9, y9⟩ : ∃ k, w.cell? ⟨g, j * 11 + 9, none⟩ = some (.int .i64 k) := ⟨_, hc 9 (by omega)⟩
      obtain ⟨k10, y10⟩ : ∃ k, w.cell? ⟨g, j * 11 + 10, none⟩ = some (.int .i64 k) := ⟨_, hc 10 (by omega)⟩
      have hlt := (List.getElem?_eq_some_iff.1 hj).1
      have j0 : (0 : Int) ≤ (j : Int) := by omega
      have j1 : (j : Int) < (N.length : Int) := by omega
      have HL := Hid.mk' hl
      have HR := Hid.mk' hr
      have hs2 : l.size + r.size ≤ 2097152 := by simp only [Tr.size] at hs; omega
      clear hc hj hl hr
      go_enter Tryz.func101, Tryz.ntmps101
      go_wp2_with (first | (go_at_call 125; refine (wred_any _ _ base B _ N _ hz h h1).mono ?_; rw [hred]; rintro e w' ⟨rfl, rfl⟩)
                         | (go_at_call 98; refine (wadd_made l r li ri ⟨ps, po, pl, pn⟩ false base B _ N _ hz hs2 hf.out.2.1 hf.out.1 hf.out.2.2 (h.out.keep (bAlloc (Below.refl _ _) _)) HL.out HR.out (by simp; omega)).mono ?_; rintro e w9 ⟨i9, v9, M9, rfl, a1, a2, a3, a4⟩; have FIN := Hid.mk' (And.intro a1 (And.intro a2 (And.intro a3 a4))); clear a1 a2 a3 a4))
      go_ret
      exact ⟨i9, v9, M9, rfl, FIN.out.1, FIN.out.2.1, (Grw.below (bAlloc (Below.refl _ _) _)).trans FIN.out.2.2.1, FIN.out.2.2.2⟩
end Go.Proofs.YtmhpeppbhjpkiaaGreat

/- The contract of the wood's right: case by case. -/
namespace Go.Proofs.YtmhpeppbhjpkiaaGreat
open Go.RowKit

/-- the cells of a tree's root in the wood -/
theorem Wd.root {W : World} {base B : Nat} {v : Value} {N : List Nd} {c : Bool} {l : Tr} {ps po pl pn : Int} {r : Tr} {i : Int} (h : Wd W base B v N) (hi : Is N (Tr.mk (some (c, l, ⟨ps, po, pl, pn⟩, r))) i) :
    ∃ (j g cap : Nat) (li ri k7 k8 k9 k10 : Int), i = j ∧ j < N.length ∧ v = .slice (some ⟨g, 0, none⟩) N.length cap ∧ Is N l li ∧ Is N r ri ∧
      W.cell? ⟨g, j * 11, none⟩ = some (.int .i64 ps) ∧ W.cell? ⟨g, j * 11 + 1, none⟩ = some (.int .i64 po) ∧ W.cell? ⟨g, j * 11 + 2, none⟩ = some (.int .i64 pl) ∧ W.cell? ⟨g, j * 11 + 3, none⟩ = some (.int .i64 pn) ∧ W.cell? ⟨g, j * 11 + 4, none⟩ = some (.bool c) ∧ W.cell? ⟨g, j * 11 + 5, none⟩ = some (.int .i64 li) ∧ W.cell? ⟨g, j * 11 + 6, none⟩ = some (.int .i64 ri) ∧ W.cell? ⟨g, j * 11 + 7, none⟩ = some (.int .i64 k7) ∧ W.cell? ⟨g, j * 11 + 8, none⟩ = some (.int .i64 k8) ∧ W.cell? ⟨g, j * 11 + 9, none⟩ = some (.int .i64 k9) ∧ W.cell? ⟨g, j * 11 + 10, none⟩ = some (.int .i64 k10) := by
  obtain ⟨j, li, ri, e, hj, hl, hr⟩ := hi
  obtain ⟨g, cap, hv, hc⟩ := h.node hj
  exact ⟨j, g, cap, li, ri, _, _, _, _, e, (List.getElem?_eq_some_iff.1 hj).1, hv, hl, hr, hc 0 (by omega), hc 1 (by omega), hc 2 (by omega), hc 3 (by omega), hc 4 (by omega), hc 5 (by omega), hc 6 (by omega), hc 7 (by omega), hc 8 (by omega), hc 9 (by omega), hc 10 (by omega)⟩

set_option maxRecDepth 100000 in
set_option maxHeartbeats 4000000 in
theorem wright_base (l r : Tr) (li ri ps po pl pn : Int) (base B : Nat) (v : Value) (N : List Nd) (w : World) (hz : N.length ≤ 2097152) (hs : l.size + r.size ≤ 2097152) (hp : Hid (Pc.fit ⟨ps, po, pl, pn⟩)) (hl : Hid l.fits) (hr : Hid r.fits)
    (h : Hid (Wd w base B v N)) (h1 : Hid (Is N l li)) (h2 : Hid (Is N r ri)) (hB : base ≤ w.heap.size) (hred : l.red = false) (hbh : l.bh = r.bh) :
    Calls Tryz.prog 99 #[.pointer (some ⟨B, 0, none⟩), .int .i64 li, .agg #[.int .i64 ps, .int .i64 po, .int .i64 pl, .int .i64 pn], .int .i64 ri] w fun e w' => Mades w base B v N (Tr.mk (some (true, l, ⟨ps, po, pl, pn⟩, r))) 1 e w' := by
  have hk := Hid.mk' (h.out.keep (bAlloc (Below.refl w.heap.size w) (.cells #[.int .i64 ps, .int .i64 po, .int .i64 pl, .int .i64 pn] 59)))
  go_enter Tryz.func99, Tryz.ntmps99
  go_wp2_with (first | (go_at_call 125; refine (wred_any l li base B v N _ hz hk h1).mono ?_; rw [hred]; rintro e w' ⟨rfl, rfl⟩)
                     | (go_at_call_of 97 (Value.int .i64 ri); refine (wbh_any r ri base B v N _ hz hk h2).mono ?_; rintro e w' ⟨rfl, rfl⟩)
                     | (go_at_call_of 97 (Value.int .i64 li); refine (wbh_any l li base B v N _ hz hk h1).mono ?_; rw [hbh]; rintro e w' ⟨rfl, rfl⟩)
                     | (go_at_call 98; refine (wadd_made l r li ri ⟨ps, po, pl, pn⟩ true base B v N _ hz hs hp.out hl.out hr.out hk.out h1.out h2.out (by simp; omega)).mono ?_; rintro e w9 ⟨i9, v9, M9, rfl, a1, a2, a3, a4⟩; have FIN := Hid.mk' (And.intro a1 (And.intro a2 (And.intro a3 a4))); clear a1 a2 a3 a4))
  go_ret
  exact ⟨i9, v9, M9, rfl, FIN.out.1, FIN.out.2.1, (Grw.below (bAlloc (Below.refl _ _) _)).trans FIN.out.2.2.1, FIN.out.2.2.2⟩

/-- what the call further down gives, in whatever world -/
def Down (base B : Nat) (v : Value) (N : List Nd) (bi : Int) (ps po pl pn : Int) (ri : Int) (m : Tr) (cost : Nat) : Prop :=
  ∀ w2 : World, Wd w2 base B v N → base ≤ w2.heap.size → Calls Tryz.prog 99 #[.pointer (some ⟨B, 0, none⟩), .int .i64 bi, .agg #[.int .i64 ps, .int .i64 po, .int .i64 pl, .int .i64 pn], .int .i64 ri] w2 fun e w' => Mades w2 base B v N m cost e w'

/-- the copy of a node, behind a call that changed the wood alone -/
theorem local9 {w w3 : World} {B g n cap : Nat} {v3 : Value} {x : Array Value} {qs qo ql qn : Int} {c : Bool} {ai bi k7 k8 k9 k10 : Int} (hlB : B < w.heap.size) (hlg : g < w.heap.size)
    (a3 : Grw ((w.alloc (.cells x 59)).alloc (.cells (ndA qs qo ql qn c ai bi k7 k8 k9 k10) 151)) w3 B (.slice (some ⟨g, 0, none⟩) n cap) v3) :
    w3.cell? ⟨w.heap.size + 1, 0, none⟩ = some (.int .i64 qs) ∧ w3.cell? ⟨w.heap.size + 1, 1, none⟩ = some (.int .i64 qo) ∧ w3.cell? ⟨w.heap.size + 1, 2, none⟩ = some (.int .i64 ql) ∧ w3.cell? ⟨w.heap.size + 1, 3, none⟩ = some (.int .i64 qn) ∧ w3.cell? ⟨w.heap.size + 1, 4, none⟩ = some (.bool c) ∧ w3.cell? ⟨w.heap.size + 1, 5, none⟩ = some (.int .i64 ai) ∧ w3.cell? ⟨w.heap.size + 1, 6, none⟩ = some (.int .i64 bi) ∧ w3.cell? ⟨w.heap.size + 1, 7, none⟩ = some (.int .i64 k7) ∧ w3.cell? ⟨w.heap.size + 1, 8, none⟩ = some (.int .i64 k8) ∧ w3.cell? ⟨w.heap.size + 1, 9, none⟩ = some (.int .i64 k9) ∧ w3.cell? ⟨w.heap.size + 1, 10, none⟩ = some (.int .i64 k10) :=
  ndA_cells (a3.blk (blk2 w _ 151 _) (by omega) (by simp [Value.ownBlock]; omega))
/-- one call that makes nodes behind another -/
theorem made_two {w w3 w9 : World} {base B : Nat} {v v3 v9 : Value} {N M3 M9 : List Nd} {t : Tr} {i9 : Int} {c1 c2 : Nat} (g1 : Grw w w3 B v v3) (l1 : M3.length ≤ c1) (a1 : Wd w9 base B v9 (N ++ M3 ++ M9)) (a2 : Is (N ++ M3 ++ M9) t i9) (a3 : Grw w3 w9 B v3 v9) (a4 : M9.length ≤ c2) :
    Mades w base B v N t (c1 + c2) (.returned (.int .i64 i9)) w9 :=
  ⟨i9, v9, M3 ++ M9, rfl, by rw [← List.append_assoc]; exact a1, by rw [← List.append_assoc]; exact a2, g1.trans a3, by rw [List.length_append]; omega⟩

set_option maxRecDepth 100000 in
set_option maxHeartbeats 4000000 in
/-- l is red -/
theorem wright_red (a b m : Tr) (qs qo ql qn : Int) (li ri ps po pl pn : Int) (cost base B : Nat) (v : Value) (N : List Nd) (w : World) (hz : N.length + cost ≤ 2097152) (hs : a.size + m.size ≤ 2097152) (hq : Hid (Pc.fit ⟨qs, qo, ql, qn⟩)) (ha : Hid a.fits) (hm : Hid m.fits)
    (h : Hid (Wd w base B v N)) (h1 : Hid (Is N (Tr.mk (some (true, a, ⟨qs, qo, ql, qn⟩, b))) li)) (hB : base ≤ w.heap.size)
    (ih : Hid (∀ bi, Is N b bi → Down base B v N bi ps po pl pn ri m cost)) :
    Calls Tryz.prog 99 #[.pointer (some ⟨B, 0, none⟩), .int .i64 li, .agg #[.int .i64 ps, .int .i64 po, .int .i64 pl, .int .i64 pn], .int .i64 ri] w fun e w' => Mades w base B v N (Tr.mk (some (true, a, ⟨qs, qo, ql, qn⟩, m))) (cost + 1) e w' := by
  obtain ⟨j, g, cap, ai, bi, k7, k8, k9, k10, e, hj, hv, hai, hbi, y0, y1, y2, y3, y4, y5, y6, y7, y8, y9, y10⟩ := h.out.root h1.out
  subst e hv
  have x0 := h.out.cell1
  have j0 : (0 : Int) ≤ (j : Int) := by omega
  have j1 : (j : Int) < (N.length : Int) := by omega
  have HA := Hid.mk' hai
  have HD := Hid.mk' (ih.out bi hbi)
  have hk := Hid.mk' (h.out.keep (bAlloc (Below.refl w.heap.size w) (.cells #[.int .i64 ps, .int .i64 po, .int .i64 pl, .int .i64 pn] 59)))
  have hlB : B < w.heap.size := h.out.blk.lt
  have hlg : g < w.heap.size := (h.out.own.lt g rfl).2
  clear hai hbi ih
  go_enter Tryz.func99, Tryz.ntmps99
  go_wp2_with (first | (go_at_call 125; refine (wred_any _ _ base B _ N _ (by omega) hk h1).mono ?_; rintro e w' ⟨rfl, rfl⟩; rw [show (Tr.mk (some (true, a, ⟨qs, qo, ql, qn⟩, b))).red = true from rfl])
                     | (go_at_call 99; refine (HD.out _ (hk.out.keep (bAlloc (Below.refl _ _) _)) (by simp; omega)).mono ?_; rintro e w3 ⟨mi, v3, M3, rfl, a1, a2, a3, a4⟩; (obtain ⟨z0, z1, z2, z3, z4, z5, z6, z7, z8, z9, z10⟩ := local9 hlB hlg a3); (have H3 : Hid (Wd w3 base B v3 (N ++ M3) ∧ Is (N ++ M3) m mi ∧ Grw w w3 B _ v3 ∧ M3.length ≤ cost ∧ (N ++ M3).length ≤ 2097152 ∧ base ≤ w3.heap.size) := ⟨a1, a2, (Grw.below (bAlloc (bAlloc (Below.refl _ _) _) _)).trans a3, a4, by rw [List.length_append]; omega, by have := a3.size; simp at this; omega⟩); clear a1 a2 a3 a4)
                     | (go_at_call 98; refine (wadd_made a m ai mi ⟨qs, qo, ql, qn⟩ true base B v3 (N ++ M3) _ H3.out.2.2.2.2.1 hs hq.out ha.out hm.out H3.out.1 (HA.out.more _) H3.out.2.1 H3.out.2.2.2.2.2).mono ?_; rintro e w9 ⟨i9, v9, M9, rfl, a1, a2, a3, a4⟩; have FIN := Hid.mk' (And.intro a1 (And.intro a2 (And.intro a3 a4))); clear a1 a2 a3 a4))
  go_ret
  exact made_two H3.out.2.2.1 H3.out.2.2.2.1 FIN.out.1 FIN.out.2.1 FIN.out.2.2.1 FIN.out.2.2.2
end Go.Proofs.YtmhpeppbhjpkiaaGreat

/- The contract of the wood's right: l is black, and higher. -/
namespace Go.Proofs.YtmhpeppbhjpkiaaGreat
open Go.RowKit

theorem Grw.own_ne {W W' : World} {B k : Nat} {v v' : Value} (h : Grw W W' B v v') (hk : k < W.heap.size) (hv : v.ownBlock ≠ some k) : v'.ownBlock ≠ some k := by
  rcases h.fresh with e | ⟨q, e, hq⟩
  · rw [e]; exact hv
  · rw [e]; simp; omega

set_option maxRecDepth 100000 in
set_option maxHeartbeats 4000000 in
theorem wright_flat (a b r m : Tr) (qs qo ql qn : Int) (li ri ps po pl pn : Int) (cost base B : Nat) (v : Value) (N : List Nd) (w : World) (hz : N.length + cost + 3 ≤ 2097152) (hs : a.size + m.size ≤ 2097152) (hq : Hid (Pc.fit ⟨qs, qo, ql, qn⟩)) (ha : Hid a.fits) (hm : Hid (m).fits)
    (h : Hid (Wd w base B v N)) (h1 : Hid (Is N (Tr.mk (some (false, a, ⟨qs, qo, ql, qn⟩, b))) li)) (h2 : Hid (Is N r ri)) (hB : base ≤ w.heap.size) (hne : (((Tr.mk (some (false, a, ⟨qs, qo, ql, qn⟩, b))).bh : Int) == (r.bh : Int)) = false) (hmr : m.red = false)
    (ih : Hid (∀ bi, Is N b bi → Down base B v N bi ps po pl pn ri (m) cost)) :
    Calls Tryz.prog 99 #[.pointer (some ⟨B, 0, none⟩), .int .i64 li, .agg #[.int .i64 ps, .int .i64 po, .int .i64 pl, .int .i64 pn], .int .i64 ri] w fun e w' => Mades w base B v N (Tr.mk (some (false, a, ⟨qs, qo, ql, qn⟩, m))) (cost + 1) e w' := by
  obtain ⟨j, g, cap, ai, bi, k7, k8, k9, k10, e, hj, hv, hai, hbi, y0, y1, y2, y3, y4, y5, y6, y7, y8, y9, y10⟩ := h.out.root h1.out
  subst e hv
  have x0 := h.out.cell1
  have j0 : (0 : Int) ≤ (j : Int) := by omega
  have j1 : (j : Int) < (N.length : Int) := by omega
  have HA := Hid.mk' hai
  have HD := Hid.mk' (ih.out bi hbi)
  have hk := Hid.mk' (h.out.keep (bAlloc (Below.refl w.heap.size w) (.cells #[.int .i64 ps, .int .i64 po, .int .i64 pl, .int .i64 pn] 59)))
  have hlB : B < w.heap.size := h.out.blk.lt
  have hlg : g < w.heap.size := (h.out.own.lt g rfl).2
  clear hai hbi ih
  generalize hBH : ((Tr.mk (some (false, a, ⟨qs, qo, ql, qn⟩, b))).bh : Int) = BH at *
  have HBH := Hid.mk' hBH
  clear hBH
  go_enter Tryz.func99, Tryz.ntmps99
  go_wp2_with (first | (go_at_call_of 125 (Value.int .i64 (j : Int)); refine (wred_any _ _ base B _ N _ (by omega) hk h1).mono ?_; rintro e w' ⟨rfl, rfl⟩; rw [show (Tr.mk (some (false, a, ⟨qs, qo, ql, qn⟩, b))).red = false from rfl])
                     | (go_at_call_of 97 (Value.int .i64 ri); refine (wbh_any r ri base B _ N _ (by omega) hk h2).mono ?_; rintro e w' ⟨rfl, rfl⟩)
                     | (go_at_call_of 97 (Value.int .i64 (j : Int)); (have Q := wbh_any _ _ base B _ N _ (by omega) hk h1); rw [HBH.out] at Q; refine Q.mono ?_; clear Q; rintro e w' ⟨rfl, rfl⟩)
                     | (go_at_call 99; refine (HD.out _ (hk.out.keep (bAlloc (Below.refl _ _) _)) (by simp; omega)).mono ?_; rintro e w3 ⟨mi, v3, M3, rfl, a1, a2, a3, a4⟩; (obtain ⟨z0, z1, z2, z3, z4, z5, z6, z7, z8, z9, z10⟩ := local9 hlB hlg a3); (have H3 : Hid (Wd w3 base B v3 (N ++ M3) ∧ Is (N ++ M3) (m) mi ∧ Grw w w3 B _ v3 ∧ M3.length ≤ cost ∧ (N ++ M3).length + 3 ≤ 2097152 ∧ base ≤ w3.heap.size) := ⟨a1, a2, (Grw.below (bAlloc (bAlloc (Below.refl _ _) _) _)).trans a3, a4, by rw [List.length_append]; omega, by have := a3.size; simp at this; omega⟩); clear a1 a2 a3 a4)
                     | (go_at_call_of 125 (Value.int .i64 mi); refine (wred_any m mi base B v3 (N ++ M3) _ (by have := H3.out.2.2.2.2.1; omega) H3.out.1 H3.out.2.1).mono ?_; rw [hmr]; rintro e w' ⟨rfl, rfl⟩)
                     | (go_at_call 98; refine (wadd_made a (m) ai mi ⟨qs, qo, ql, qn⟩ false base B v3 (N ++ M3) _ (by have := H3.out.2.2.2.2.1; omega) hs hq.out ha.out hm.out H3.out.1 (HA.out.more _) H3.out.2.1 H3.out.2.2.2.2.2).mono ?_; rintro e w9 ⟨i9, v9, M9, rfl, a1, a2, a3, a4⟩; have FIN := Hid.mk' (And.intro a1 (And.intro a2 (And.intro a3 a4))); clear a1 a2 a3 a4))
  go_ret
  exact made_two H3.out.2.2.1 H3.out.2.2.2.1 FIN.out.1 FIN.out.2.1 FIN.out.2.2.1 FIN.out.2.2.2

set_option maxRecDepth 100000 in
set_option maxHeartbeats 4000000 in
theorem wright_calm (a b r x y : Tr) (ns no nl nn qs qo ql qn : Int) (li ri ps po pl pn : Int) (cost base B : Nat) (v : Value) (N : List Nd) (w : World) (hz : N.length + cost + 3 ≤ 2097152) (hs : a.size + (Tr.mk (some (true, x, ⟨ns, no, nl, nn⟩, y))).size ≤ 2097152) (hq : Hid (Pc.fit ⟨qs, qo, ql, qn⟩)) (ha : Hid a.fits) (hm : Hid (Tr.mk (some (true, x, ⟨ns, no, nl, nn⟩, y))).fits)
    (h : Hid (Wd w base B v N)) (h1 : Hid (Is N (Tr.mk (some (false, a, ⟨qs, qo, ql, qn⟩, b))) li)) (h2 : Hid (Is N r ri)) (hB : base ≤ w.heap.size) (hne : (((Tr.mk (some (false, a, ⟨qs, qo, ql, qn⟩, b))).bh : Int) == (r.bh : Int)) = false) (hyr : y.red = false)
    (ih : Hid (∀ bi, Is N b bi → Down base B v N bi ps po pl pn ri (Tr.mk (some (true, x, ⟨ns, no, nl, nn⟩, y))) cost)) :
    Calls Tryz.prog 99 #[.pointer (some ⟨B, 0, none⟩), .int .i64 li, .agg #[.int .i64 ps, .int .i64 po, .int .i64 pl, .int .i64 pn], .int .i64 ri] w fun e w' => Mades w base B v N (Tr.mk (some (false, a, ⟨qs, qo, ql, qn⟩, Tr.mk (some (true, x, ⟨ns, no, nl, nn⟩, y))))) (cost + 1) e w' := by
  obtain ⟨j, g, cap, ai, bi, k7, k8, k9, k10, e, hj, hv, hai, hbi, y0, y1, y2, y3, y4, y5, y6, y7, y8, y9, y10⟩ := h.out.root h1.out
  subst e hv
  have x0 := h.out.cell1
  have j0 : (0 : Int) ≤ (j : Int) := by omega
  have j1 : (j : Int) < (N.length : Int) := by omega
  have HA := Hid.mk' hai
  have HD := Hid.mk' (ih.out bi hbi)
  have hk := Hid.mk' (h.out.keep (bAlloc (Below.refl w.heap.size w) (.cells #[.int .i64 ps, .int .i64 po, .int .i64 pl, .int .i64 pn] 59)))
  have hlB : B < w.heap.size := h.out.blk.lt
  have hlg : g < w.heap.size := (h.out.own.lt g rfl).2
  clear hai hbi ih
  generalize hBH : ((Tr.mk (some (false, a, ⟨qs, qo, ql, qn⟩, b))).bh : Int) = BH at *
  have HBH := Hid.mk' hBH
  clear hBH
  go_enter Tryz.func99, Tryz.ntmps99
  go_wp2_with (first | (go_at_call_of 125 (Value.int .i64 (j : Int)); refine (wred_any _ _ base B _ N _ (by omega) hk h1).mono ?_; rintro e w' ⟨rfl, rfl⟩; rw [show (Tr.mk (some (false, a, ⟨qs, qo, ql, qn⟩, b))).red = false from rfl])
                     | (go_at_call_of 97 (Value.int .i64 ri); refine (wbh_any r ri base B _ N _ (by omega) hk h2).mono ?_; rintro e w' ⟨rfl, rfl⟩)
                     | (go_at_call_of 97 (Value.int .i64 (j : Int)); (have Q := wbh_any _ _ base B _ N _ (by omega) hk h1); rw [HBH.out] at Q; refine Q.mono ?_; clear Q; rintro e w' ⟨rfl, rfl⟩)
                     | (go_at_call 99; refine (HD.out _ (hk.out.keep (bAlloc (Below.refl _ _) _)) (by simp; omega)).mono ?_; rintro e w3 ⟨mi, v3, M3, rfl, a1, a2, a3, a4⟩; (obtain ⟨N3, hN3⟩ : ∃ N3, N3 = N ++ M3 := ⟨_, rfl⟩); (rw [← hN3] at a1 a2); (have HN3 := Hid.mk' hN3); clear hN3; (obtain ⟨z0, z1, z2, z3, z4, z5, z6, z7, z8, z9, z10⟩ := local9 hlB hlg a3); (obtain ⟨jm, gm, capm, xi, yi, e7, e8, e9, e10, em, hjm, hvm, hxi, hyi, s0, s1, s2, s3, s4, s5, s6, s7, s8, s9, s10⟩ := a1.root a2); (subst em hvm); (have xm := a1.cell1); (have jm0 : (0 : Int) ≤ (jm : Int) := by omega); (have jm1 : (jm : Int) < (N3.length : Int) := by omega); (have HX := Hid.mk' (And.intro hxi hyi)); (have H3 : Hid (Wd w3 base B (.slice (some ⟨gm, 0, none⟩) N3.length capm) N3 ∧ Is N3 (Tr.mk (some (true, x, ⟨ns, no, nl, nn⟩, y))) (jm : Int) ∧ Grw w w3 B _ (.slice (some ⟨gm, 0, none⟩) N3.length capm) ∧ M3.length ≤ cost ∧ N3.length + 3 ≤ 2097152 ∧ base ≤ w3.heap.size) := ⟨a1, a2, (Grw.below (bAlloc (bAlloc (Below.refl _ _) _) _)).trans a3, a4, by rw [HN3.out, List.length_append]; omega, by have := a3.size; simp at this; omega⟩); clear a1 a2 a3 a4)
                     | (go_at_call_of 125 (Value.int .i64 (jm : Int)); refine (wred_any (Tr.mk (some (true, x, ⟨ns, no, nl, nn⟩, y))) _ base B _ N3 _ (by have := H3.out.2.2.2.2.1; omega) H3.out.1 H3.out.2.1).mono ?_; rintro e w' ⟨rfl, rfl⟩; rw [show (Tr.mk (some (true, x, ⟨ns, no, nl, nn⟩, y))).red = true from rfl])
                     | (go_at_call_of 125 (Value.int .i64 yi); refine (wred_any y yi base B _ N3 _ (by have := H3.out.2.2.2.2.1; omega) H3.out.1 HX.out.2).mono ?_; rw [hyr]; rintro e w' ⟨rfl, rfl⟩)
                     | (go_at_call 98; refine (wadd_made a (Tr.mk (some (true, x, ⟨ns, no, nl, nn⟩, y))) ai (jm : Int) ⟨qs, qo, ql, qn⟩ false base B (.slice (some ⟨gm, 0, none⟩) N3.length capm) N3 _ (by have := H3.out.2.2.2.2.1; omega) hs hq.out ha.out hm.out H3.out.1 (by rw [HN3.out]; exact HA.out.more _) H3.out.2.1 H3.out.2.2.2.2.2).mono ?_; rintro e w9 ⟨i9, v9, M9, rfl, a1, a2, a3, a4⟩; have FIN := Hid.mk' (And.intro a1 (And.intro a2 (And.intro a3 a4))); clear a1 a2 a3 a4))
  go_ret
  have hN := HN3.out
  subst hN
  exact made_two H3.out.2.2.1 H3.out.2.2.2.1 FIN.out.1 FIN.out.2.1 FIN.out.2.2.1 FIN.out.2.2.2
end Go.Proofs.YtmhpeppbhjpkiaaGreat

/- The contract of the wood's right: two reds one below the other. -/
namespace Go.Proofs.YtmhpeppbhjpkiaaGreat
open Go.RowKit

theorem blk_fits' {t : Tr} (h : t.fits) : t.blk.fits := by
  cases t using Tr.el with
  | nil => trivial
  | node c l p r => cases c <;> exact h
theorem blk_size' (t : Tr) : t.blk.size = t.size := by
  cases t using Tr.el with
  | nil => rfl
  | node c l p r => cases c <;> rfl

set_option maxRecDepth 100000 in
set_option maxHeartbeats 4000000 in
theorem wright_turn (a b r x y : Tr) (ns no nl nn qs qo ql qn : Int) (li ri ps po pl pn : Int) (cost base B : Nat) (v : Value) (N : List Nd) (w : World) (hz : N.length + cost + 3 ≤ 2097152) (hs : a.size + (Tr.mk (some (true, x, ⟨ns, no, nl, nn⟩, y))).size ≤ 2097152) (hq : Hid (Pc.fit ⟨qs, qo, ql, qn⟩)) (ha : Hid a.fits) (hm : Hid (Tr.mk (some (true, x, ⟨ns, no, nl, nn⟩, y))).fits)
    (h : Hid (Wd w base B v N)) (h1 : Hid (Is N (Tr.mk (some (false, a, ⟨qs, qo, ql, qn⟩, b))) li)) (h2 : Hid (Is N r ri)) (hB : base ≤ w.heap.size) (hne : (((Tr.mk (some (false, a, ⟨qs, qo, ql, qn⟩, b))).bh : Int) == (r.bh : Int)) = false) (hyr : y.red = true)
    (ih : Hid (∀ bi, Is N b bi → Down base B v N bi ps po pl pn ri (Tr.mk (some (true, x, ⟨ns, no, nl, nn⟩, y))) cost)) :
    Calls Tryz.prog 99 #[.pointer (some ⟨B, 0, none⟩), .int .i64 li, .agg #[.int .i64 ps, .int .i64 po, .int .i64 pl, .int .i64 pn], .int .i64 ri] w fun e w' => Mades w base B v N (Tr.mk (some (true, Tr.mk (some (false, a, ⟨qs, qo, ql, qn⟩, x)), ⟨ns, no, nl, nn⟩, y.blk))) (cost + 3) e w' := by
  obtain ⟨j, g, cap, ai, bi, k7, k8, k9, k10, e, hj, hv, hai, hbi, y0, y1, y2, y3, y4, y5, y6, y7, y8, y9, y10⟩ := h.out.root h1.out
  subst e hv
  have x0 := h.out.cell1
  have j0 : (0 : Int) ≤ (j : Int) := by omega
  have j1 : (j : Int) < (N.length : Int) := by omega
  have HA := Hid.mk' hai
  have HD := Hid.mk' (ih.out bi hbi)
  have hk := Hid.mk' (h.out.keep (bAlloc (Below.refl w.heap.size w) (.cells #[.int .i64 ps, .int .i64 po, .int .i64 pl, .int .i64 pn] 59)))
  have hlB : B < w.heap.size := h.out.blk.lt
  have hlg : g < w.heap.size := (h.out.own.lt g rfl).2
  clear hai hbi ih
  generalize hBH : ((Tr.mk (some (false, a, ⟨qs, qo, ql, qn⟩, b))).bh : Int) = BH at *
  have HBH := Hid.mk' hBH
  clear hBH
  have hsz : a.size + x.size ≤ 2097152 ∧ y.size ≤ 2097152 ∧ (Tr.mk (some (false, a, ⟨qs, qo, ql, qn⟩, x))).size + y.blk.size ≤ 2097152 := by rw [blk_size']; simp only [Tr.size] at hs ⊢; omega
  go_enter Tryz.func99, Tryz.ntmps99
  go_wp2_with (first | (go_at_call_of 125 (Value.int .i64 (j : Int)); refine (wred_any _ _ base B _ N _ (by omega) hk h1).mono ?_; rintro e w' ⟨rfl, rfl⟩; rw [show (Tr.mk (some (false, a, ⟨qs, qo, ql, qn⟩, b))).red = false from rfl])
                     | (go_at_call_of 97 (Value.int .i64 ri); refine (wbh_any r ri base B _ N _ (by omega) hk h2).mono ?_; rintro e w' ⟨rfl, rfl⟩)
                     | (go_at_call_of 97 (Value.int .i64 (j : Int)); (have Q := wbh_any _ _ base B _ N _ (by omega) hk h1); rw [HBH.out] at Q; refine Q.mono ?_; clear Q; rintro e w' ⟨rfl, rfl⟩)
                     | (go_at_call 99; refine (HD.out _ (hk.out.keep (bAlloc (Below.refl _ _) _)) (by simp; omega)).mono ?_; rintro e w3 ⟨mi, v3, M3, rfl, a1, a2, a3, a4⟩; (obtain ⟨N3, hN3⟩ : ∃ N3, N3 = N ++ M3 := ⟨_, rfl⟩); (rw [← hN3] at a1 a2); (have HN3 := Hid.mk' hN3); clear hN3; (obtain ⟨z0, z1, z2, z3, z4, z5, z6, z7, z8, z9, z10⟩ := local9 hlB hlg a3); (obtain ⟨jm, gm, capm, xi, yi, e7, e8, e9, e10, em, hjm, hvm, hxi, hyi, s0, s1, s2, s3, s4, s5, s6, s7, s8, s9, s10⟩ := a1.root a2); (subst em hvm); (have xm := a1.cell1); (have jm0 : (0 : Int) ≤ (jm : Int) := by omega); (have jm1 : (jm : Int) < (N3.length : Int) := by omega); (have HX := Hid.mk' (And.intro hxi hyi)); (have hl9 : w.heap.size + 1 < w3.heap.size := by (have := a3.size; simp at this; omega)); (have H3 : Hid (Wd w3 base B (.slice (some ⟨gm, 0, none⟩) N3.length capm) N3 ∧ Is N3 (Tr.mk (some (true, x, ⟨ns, no, nl, nn⟩, y))) (jm : Int) ∧ Grw w w3 B _ (.slice (some ⟨gm, 0, none⟩) N3.length capm) ∧ M3.length ≤ cost ∧ N3.length + 3 ≤ 2097152 ∧ base ≤ w3.heap.size) := ⟨a1, a2, (Grw.below (bAlloc (bAlloc (Below.refl _ _) _) _)).trans a3, a4, by rw [HN3.out, List.length_append]; omega, by have := a3.size; simp at this; omega⟩); clear a1 a2 a3 a4)
                     | (go_at_call_of 125 (Value.int .i64 (jm : Int)); refine (wred_any (Tr.mk (some (true, x, ⟨ns, no, nl, nn⟩, y))) _ base B _ N3 _ (by have := H3.out.2.2.2.2.1; omega) H3.out.1 H3.out.2.1).mono ?_; rintro e w' ⟨rfl, hw⟩; (have hw2 := hw.symm); subst hw2; clear hw; rw [show (Tr.mk (some (true, x, ⟨ns, no, nl, nn⟩, y))).red = true from rfl])
                     | (go_at_call_of 125 (Value.int .i64 yi); refine (wred_any y yi base B _ N3 _ (by have := H3.out.2.2.2.2.1; omega) H3.out.1 HX.out.2).mono ?_; rw [hyr]; rintro e w' ⟨rfl, hw⟩; (have hw2 := hw.symm); subst hw2; clear hw)
                     | (go_at_call_of 98 (Value.int .i64 ai); refine (wadd_made a x ai xi ⟨qs, qo, ql, qn⟩ false base B _ N3 _ (by have := H3.out.2.2.2.2.1; omega) hsz.1 hq.out ha.out hm.out.1 (H3.out.1.keep (bAlloc (Below.refl _ _) _)) (by rw [HN3.out]; exact HA.out.more _) HX.out.1 (by have := H3.out.2.2.2.2.2; simp; omega)).mono ?_; rintro e w5 ⟨i5, v5, M5, rfl, a1, a2, a3, a4⟩; (have hl3 : gm < w3.heap.size := (H3.out.1.own.lt gm rfl).2); (have hl4 : B < w3.heap.size := H3.out.1.blk.lt); (have b5 : Blk w5 w3.heap.size 151 (ndA ns no nl nn true xi yi e7 e8 e9 e10) := a3.blk (Blk.new w3 151 _) (by omega) (by simp [Value.ownBlock]; omega)); (have n5 : v5.ownBlock ≠ some w3.heap.size := a3.own_ne (by simp) (by simp [Value.ownBlock]; omega)); (obtain ⟨r0, r1, r2, r3, r4, r5, r6, r7, r8, r9, r10⟩ := ndA_cells b5); (have H5 : Hid (Wd w5 base B v5 (N3 ++ M5) ∧ Is (N3 ++ M5) (Tr.mk (some (false, a, ⟨qs, qo, ql, qn⟩, x))) i5 ∧ Grw w w5 B _ v5 ∧ M5.length ≤ 1 ∧ base ≤ w5.heap.size ∧ Blk w5 w3.heap.size 151 (ndA ns no nl nn true xi yi e7 e8 e9 e10) ∧ v5.ownBlock ≠ some w3.heap.size ∧ ¬ w3.heap.size = B) := ⟨a1, a2, H3.out.2.2.1.trans ((Grw.below (bAlloc (Below.refl _ _) _)).trans a3), a4, by have := a3.size; simp at this; have := H3.out.2.2.2.2.2; omega, b5, n5, by omega⟩); clear a1 a2 a3 a4 b5 n5 hl3 hl4)
                     | (go_at_call 101; refine (wblack_any y yi base B v5 (N3 ++ M5) _ (by have := H3.out.2.2.2.2.1; have := H5.out.2.2.2.1; rw [List.length_append]; omega) hsz.2.1 hm.out.2.2 H5.out.1 (HX.out.2.more _) H5.out.2.2.2.2.1).mono ?_; rintro e w6 ⟨i6, v6, M6, rfl, a1, a2, a3, a4⟩; (obtain ⟨t0, t1, t2, t3, t4, t5, t6, t7, t8, t9, t10⟩ := ndA_cells (a3.blk H5.out.2.2.2.2.2.1 H5.out.2.2.2.2.2.2.2 (fun e => H5.out.2.2.2.2.2.2.1 e.symm))); (have H6 : Hid (Wd w6 base B v6 (N3 ++ M5 ++ M6) ∧ Is (N3 ++ M5 ++ M6) y.blk i6 ∧ Grw w w6 B _ v6 ∧ M6.length ≤ 1 ∧ base ≤ w6.heap.size) := ⟨a1, a2, H5.out.2.2.1.trans a3, a4, by have := a3.size; have := H5.out.2.2.2.2.1; omega⟩); clear a1 a2 a3 a4)
                     | (go_at_call 98; refine (wadd_made (Tr.mk (some (false, a, ⟨qs, qo, ql, qn⟩, x))) y.blk i5 i6 ⟨ns, no, nl, nn⟩ true base B v6 (N3 ++ M5 ++ M6) _ (by have := H3.out.2.2.2.2.1; have := H5.out.2.2.2.1; have := H6.out.2.2.2.1; rw [List.length_append, List.length_append]; omega) hsz.2.2 hm.out.2.1 ⟨ha.out, hq.out, hm.out.1⟩ (blk_fits' hm.out.2.2) H6.out.1 (H5.out.2.1.more _) H6.out.2.1 H6.out.2.2.2.2).mono ?_; rintro e w9 ⟨i9, v9, M9, rfl, a1, a2, a3, a4⟩; have FIN := Hid.mk' (And.intro a1 (And.intro a2 (And.intro a3 a4))); clear a1 a2 a3 a4))
  go_ret
  have hN := HN3.out
  subst hN
  have l5 := H5.out.2.2.2.1
  have l6 := H6.out.2.2.2.1
  have l3 := H3.out.2.2.2.1
  exact ⟨i9, v9, M3 ++ (M5 ++ (M6 ++ M9)), rfl, by simpa [List.append_assoc] using FIN.out.1, by simpa [List.append_assoc] using FIN.out.2.1, H6.out.2.2.1.trans FIN.out.2.2.1, by have := FIN.out.2.2.2; simp only [List.length_append]; omega⟩
end Go.Proofs.YtmhpeppbhjpkiaaGreat

