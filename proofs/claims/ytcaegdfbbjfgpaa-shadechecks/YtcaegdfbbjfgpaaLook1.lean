/- The contract of the reference's look. -/
import Derived.Test.YtcaegdfbbjfgpaaLookKit
import Derived.Deep.CutRange
import Derived.Deep.LoopGhost
import Derived.OwnWalk
namespace Go.Proofs.Ytcaegdfbbjfgpaa
open Go.RowKit

theorem Hid.mk' {p : Prop} (h : p) : Hid p := h
theorem len_rowsF : ∀ {F : List Tr}, GoodF F → F.length ≤ (rowsF F).length
  | [], _ => Nat.zero_le _
  | t :: F, h => by
    have a := len_rowsF (F := F) (fun u hu => h u (List.mem_cons_of_mem _ hu))
    have b := (h t (List.mem_cons_self ..)).1
    have c : 1 ≤ (rowsT t).length := by
      cases t using Tr.el with
      | nil => cases b
      | node c l p r => simp only [rowsT, List.length_cons]; omega
    simp only [rowsF, List.flatMap_cons, List.length_append, List.length_cons] at *
    omega
theorem okF_none {L : List Rw} (h : lookF L = none) : okF (lookF L) = false := by rw [h]; rfl

/-- a block of six cells, of ten -/
def Blk (W : World) (B : Nat) (e : Nat) (cs : Array Value) : Prop := W.heap[B]? = some (.cells cs e (0, 0))
theorem Blk.cell {W : World} {B e j : Nat} {cs : Array Value} {v : Value} (h : Blk W B e cs) (hj : cs[j]? = some v) : W.cell? ⟨B, j, none⟩ = some v := by
  rw [cell_of_row W B j cs e (0, 0) h]; exact hj
theorem Blk.frozen {W : World} {B e : Nat} {cs : Array Value} (h : Blk W B e cs) (j : Nat) : W.frozen? ⟨B, j, none⟩ = false := frozen_of_row W B j cs e h
theorem Blk.lt {W : World} {B e : Nat} {cs : Array Value} (h : Blk W B e cs) : B < W.heap.size := (Array.getElem?_eq_some_iff.1 h).1
theorem Blk.keep {W W' : World} {B e : Nat} {cs : Array Value} (h : Blk W B e cs) (hb : Below W.heap.size W W') : Blk W' B e cs := by unfold Blk; rw [hb.block B h.lt]; exact h
theorem Blk.alloc {W : World} {B e : Nat} {cs : Array Value} (h : Blk W B e cs) (o : Obj) : Blk (W.alloc o) B e cs := h.keep (bAlloc (Below.refl _ _) o)
theorem Blk.new (W : World) (e : Nat) (cs : Array Value) : Blk (W.alloc (.cells cs e)) W.heap.size e cs := heap_alloc_new W _
def put6 (W : World) (B : Nat) (a0 a1 a2 a3 a4 a5 : Value) : World := (((((W.setCell ⟨B, 0, none⟩ a0).setCell ⟨B, 1, none⟩ a1).setCell ⟨B, 2, none⟩ a2).setCell ⟨B, 3, none⟩ a3).setCell ⟨B, 4, none⟩ a4).setCell ⟨B, 5, none⟩ a5
theorem Blk.put {W : World} {B e : Nat} {x0 x1 x2 x3 x4 x5 : Value} (h : Blk W B e #[x0, x1, x2, x3, x4, x5]) (a0 a1 a2 a3 a4 a5 : Value) : Blk (put6 W B a0 a1 a2 a3 a4 a5) B e #[a0, a1, a2, a3, a4, a5] :=
  heap_setCell_same _ _ _ _ _ _ (heap_setCell_same _ _ _ _ _ _ (heap_setCell_same _ _ _ _ _ _ (heap_setCell_same _ _ _ _ _ _ (heap_setCell_same _ _ _ _ _ _ (heap_setCell_same _ _ _ _ _ _ h)))))
theorem Blk.far {W : World} {B B' e : Nat} {cs : Array Value} (h : Blk W B' e cs) (hne : B' ≠ B) (a0 a1 a2 a3 a4 a5 : Value) : Blk (put6 W B a0 a1 a2 a3 a4 a5) B' e cs := by
  unfold Blk put6
  rw [heap_setCell_other _ _ _ _ hne, heap_setCell_other _ _ _ _ hne, heap_setCell_other _ _ _ _ hne, heap_setCell_other _ _ _ _ hne, heap_setCell_other _ _ _ _ hne, heap_setCell_other _ _ _ _ hne]; exact h
theorem put6_below {a W : World} {n B : Nat} (h : Below n a W) (hb : n ≤ B) (a0 a1 a2 a3 a4 a5 : Value) : Below n a (put6 W B a0 a1 a2 a3 a4 a5) :=
  (((((h.setCell hb a0).setCell hb a1).setCell hb a2).setCell hb a3).setCell hb a4).setCell hb a5
/-- what the reference knows of a tree, as a block -/
def snA (t : Tr) : Array Value := #[.bool t.red, .int .i64 (t.bh : Nat), .int .i64 (t.ht : Nat), .int .i64 (t.size : Nat), .int .i64 t.byt, .int .i64 t.lin]
def z6 : Array Value := #[.bool false, .int .i64 0, .int .i64 0, .int .i64 0, .int .i64 0, .int .i64 0]
theorem snA_nil : snA (Tr.mk none) = z6 := rfl
def xA (ps po pl pn : Int) (xr xl xg : Bool) (xc xb xn : Int) : Array Value := #[.int .i64 ps, .int .i64 po, .int .i64 pl, .int .i64 pn, .bool xr, .bool xl, .bool xg, .int .i64 xc, .int .i64 xb, .int .i64 xn]

/-- what the round holds ahead of a node's sums -/
structure Kids (wr W : World) (ps po pl pn : Int) (xr xl xg : Bool) (xc xb xn : Int) (l r : Tr) : Prop where
  x : Blk W wr.heap.size 72 (xA ps po pl pn xr xl xg xc xb xn)
  l : Blk W (wr.heap.size + 1) 93 (snA l)
  r : Blk W (wr.heap.size + 2) 93 (snA r)
  b : Below wr.heap.size wr W
theorem Kids.cells {wr W : World} {ps po pl pn : Int} {xr xl xg : Bool} {xc xb xn : Int} {l r : Tr} (h : Kids wr W ps po pl pn xr xl xg xc xb xn l r) :
    (W.cell? ⟨wr.heap.size, 0, none⟩ = some (.int .i64 ps) ∧ W.cell? ⟨wr.heap.size, 1, none⟩ = some (.int .i64 po) ∧ W.cell? ⟨wr.heap.size, 2, none⟩ = some (.int .i64 pl) ∧ W.cell? ⟨wr.heap.size, 3, none⟩ = some (.int .i64 pn) ∧ W.cell? ⟨wr.heap.size, 4, none⟩ = some (.bool xr) ∧ W.cell? ⟨wr.heap.size, 5, none⟩ = some (.bool xl) ∧ W.cell? ⟨wr.heap.size, 6, none⟩ = some (.bool xg) ∧ W.cell? ⟨wr.heap.size, 7, none⟩ = some (.int .i64 xc) ∧ W.cell? ⟨wr.heap.size, 8, none⟩ = some (.int .i64 xb) ∧ W.cell? ⟨wr.heap.size, 9, none⟩ = some (.int .i64 xn)) ∧
    (W.cell? ⟨wr.heap.size + 1, 0, none⟩ = some (.bool l.red) ∧ W.cell? ⟨wr.heap.size + 1, 1, none⟩ = some (.int .i64 (l.bh : Nat)) ∧ W.cell? ⟨wr.heap.size + 1, 2, none⟩ = some (.int .i64 (l.ht : Nat)) ∧ W.cell? ⟨wr.heap.size + 1, 3, none⟩ = some (.int .i64 (l.size : Nat)) ∧ W.cell? ⟨wr.heap.size + 1, 4, none⟩ = some (.int .i64 l.byt) ∧ W.cell? ⟨wr.heap.size + 1, 5, none⟩ = some (.int .i64 l.lin)) ∧
    (W.cell? ⟨wr.heap.size + 2, 0, none⟩ = some (.bool r.red) ∧ W.cell? ⟨wr.heap.size + 2, 1, none⟩ = some (.int .i64 (r.bh : Nat)) ∧ W.cell? ⟨wr.heap.size + 2, 2, none⟩ = some (.int .i64 (r.ht : Nat)) ∧ W.cell? ⟨wr.heap.size + 2, 3, none⟩ = some (.int .i64 (r.size : Nat)) ∧ W.cell? ⟨wr.heap.size + 2, 4, none⟩ = some (.int .i64 r.byt) ∧ W.cell? ⟨wr.heap.size + 2, 5, none⟩ = some (.int .i64 r.lin)) :=
  ⟨⟨h.x.cell rfl, h.x.cell rfl, h.x.cell rfl, h.x.cell rfl, h.x.cell rfl, h.x.cell rfl, h.x.cell rfl, h.x.cell rfl, h.x.cell rfl, h.x.cell rfl⟩, ⟨h.l.cell rfl, h.l.cell rfl, h.l.cell rfl, h.l.cell rfl, h.l.cell rfl, h.l.cell rfl⟩, ⟨h.r.cell rfl, h.r.cell rfl, h.r.cell rfl, h.r.cell rfl, h.r.cell rfl, h.r.cell rfl⟩⟩
theorem Kids.putL {wr W : World} {ps po pl pn : Int} {xr xl xg : Bool} {xc xb xn : Int} {l r : Tr} (h : Kids wr W ps po pl pn xr xl xg xc xb xn l r) (t : Tr) : Kids wr (put6 W (wr.heap.size + 1) (.bool t.red) (.int .i64 (t.bh : Nat)) (.int .i64 (t.ht : Nat)) (.int .i64 (t.size : Nat)) (.int .i64 t.byt) (.int .i64 t.lin)) ps po pl pn xr xl xg xc xb xn t r :=
  ⟨h.x.far (by omega) _ _ _ _ _ _, h.l.put _ _ _ _ _ _, h.r.far (by omega) _ _ _ _ _ _, put6_below h.b (by omega) _ _ _ _ _ _⟩
theorem Kids.putR {wr W : World} {ps po pl pn : Int} {xr xl xg : Bool} {xc xb xn : Int} {l r : Tr} (h : Kids wr W ps po pl pn xr xl xg xc xb xn l r) (t : Tr) : Kids wr (put6 W (wr.heap.size + 2) (.bool t.red) (.int .i64 (t.bh : Nat)) (.int .i64 (t.ht : Nat)) (.int .i64 (t.size : Nat)) (.int .i64 t.byt) (.int .i64 t.lin)) ps po pl pn xr xl xg xc xb xn l t :=
  ⟨h.x.far (by omega) _ _ _ _ _ _, h.l.far (by omega) _ _ _ _ _ _, h.r.put _ _ _ _ _ _, put6_below h.b (by omega) _ _ _ _ _ _⟩
theorem kids0 (wr : World) (ps po pl pn : Int) (xr xl xg : Bool) (xc xb xn : Int) : Kids wr (((wr.alloc (.cells (xA ps po pl pn xr xl xg xc xb xn) 72)).alloc (.cells z6 93)).alloc (.cells z6 93)) ps po pl pn xr xl xg xc xb xn (Tr.mk none) (Tr.mk none) := by
  refine ⟨((Blk.new wr 72 _).alloc _).alloc _, ?_, ?_, bAlloc (bAlloc (bAlloc (Below.refl _ _) _) _) _⟩
  · have h := (Blk.new (wr.alloc (.cells (xA ps po pl pn xr xl xg xc xb xn) 72)) 93 z6).alloc (.cells z6 93)
    rw [snA_nil]
    simpa using h
  · have h := Blk.new ((wr.alloc (.cells (xA ps po pl pn xr xl xg xc xb xn) 72)).alloc (.cells z6 93)) 93 z6
    rw [snA_nil]
    simpa using h
theorem blk6 {W : World} {B e : Nat} {x0 x1 x2 x3 x4 x5 : Value} (h : Blk W B e #[x0, x1, x2, x3, x4, x5]) : W.cell? ⟨B, 0, none⟩ = some x0 ∧ W.cell? ⟨B, 1, none⟩ = some x1 ∧ W.cell? ⟨B, 2, none⟩ = some x2 ∧ W.cell? ⟨B, 3, none⟩ = some x3 ∧ W.cell? ⟨B, 4, none⟩ = some x4 ∧ W.cell? ⟨B, 5, none⟩ = some x5 :=
  ⟨h.cell rfl, h.cell rfl, h.cell rfl, h.cell rfl, h.cell rfl, h.cell rfl⟩
theorem bT {a b c : World} (h : Below a.heap.size a b) (k : Below b.heap.size b c) : Below a.heap.size a c := h.trans (k.mono h.size)
theorem Kids.keep {wr W W' : World} {ps po pl pn : Int} {xr xl xg : Bool} {xc xb xn : Int} {l r : Tr} (h : Kids wr W ps po pl pn xr xl xg xc xb xn l r) (hb : Below W.heap.size W W') : Kids wr W' ps po pl pn xr xl xg xc xb xn l r :=
  ⟨h.x.keep hb, h.l.keep hb, h.r.keep hb, bT h.b hb⟩
/-- is the node right, by what was reckoned? -/
def goodN (pl pn : Int) (xr : Bool) (xc xb xn : Int) (l r : Tr) (BY LI : Int) : Bool := fitB pl pn && (decide ((l.bh : Int) = (r.bh : Int)) && (!(xr && (l.red || r.red)) && (decide (xc = 1 + (l.size : Int) + (r.size : Int)) && (decide (xb = BY) && decide (xn = LI)))))
theorem goodN_fit {pl pn : Int} {xr : Bool} {xc xb xn : Int} {l r : Tr} {BY LI : Int} (h : fitB pl pn = false) : goodN pl pn xr xc xb xn l r BY LI = false := by simp [goodN, h]
theorem goodN_bh {pl pn : Int} {xr : Bool} {xc xb xn : Int} {l r : Tr} {BY LI : Int} (h : ¬ (l.bh : Int) = (r.bh : Int)) : goodN pl pn xr xc xb xn l r BY LI = false := by unfold goodN; simp [h]
theorem goodN_red {pl pn : Int} {xr : Bool} {xc xb xn : Int} {l r : Tr} {BY LI : Int} (h : (xr && (l.red || r.red)) = true) : goodN pl pn xr xc xb xn l r BY LI = false := by unfold goodN; rw [h]; simp
theorem goodN_cnt {pl pn : Int} {xr : Bool} {xc xb xn : Int} {l r : Tr} {BY LI : Int} (h : ¬ xc = 1 + (l.size : Int) + (r.size : Int)) : goodN pl pn xr xc xb xn l r BY LI = false := by unfold goodN; simp [h]
theorem goodN_byt {pl pn : Int} {xr : Bool} {xc xb xn : Int} {l r : Tr} {BY LI : Int} (h : ¬ xb = BY) : goodN pl pn xr xc xb xn l r BY LI = false := by unfold goodN; simp [h]
theorem goodN_lin {pl pn : Int} {xr : Bool} {xc xb xn : Int} {l r : Tr} {BY LI : Int} (h : ¬ xn = LI) : goodN pl pn xr xc xb xn l r BY LI = false := by unfold goodN; simp [h]
theorem goodN_all {pl pn : Int} {xr : Bool} {xc xb xn : Int} {l r : Tr} {BY LI : Int} (h0 : fitB pl pn = true) (h1 : (l.bh : Int) = (r.bh : Int)) (h2 : (xr && (l.red || r.red)) = false) (h3 : xc = 1 + (l.size : Int) + (r.size : Int)) (h4 : xb = BY) (h5 : xn = LI) : goodN pl pn xr xc xb xn l r BY LI = true := by unfold goodN; rw [h0, h2]; simp [h1, h3, h4, h5]
/-- The sums of a node, as the reference reckons them. -/
theorem look_sums {xr : Bool} {l r : Tr} {ps po pl pn : Int} (hl : l.fits) (hr : r.fits) (hz : l.size + r.size ≤ 65536) (hf : fitB pl pn = true) :
    wrap64 (wrap64 (pl + l.byt) + r.byt) = (Tr.mk (some (xr, l, ⟨ps, po, pl, pn⟩, r))).byt ∧ wrap64 (wrap64 (pn + l.lin) + r.lin) = (Tr.mk (some (xr, l, ⟨ps, po, pl, pn⟩, r))).lin := by
  have a := l.fits_bounds hl
  have b := r.fits_bounds hr
  have p := (fitB_iff ps po pl pn).1 hf
  simp only [Tr.byt, Tr.lin, Pc.fit] at *
  refine ⟨?_, ?_⟩
  · rw [w64 (x := pl + l.byt) (by omega) (by omega), w64 (by omega) (by omega)]; omega
  · rw [w64 (x := pn + l.lin) (by omega) (by omega), w64 (by omega) (by omega)]; omega
theorem goodN_iff {xr : Bool} {l r : Tr} {ps po pl pn xc xb xn : Int} {BY LI : Int} (hl : l.fits) (hr : r.fits) (hz : l.size + r.size ≤ 65536) (hby : wrap64 (wrap64 (pl + l.byt) + r.byt) = BY) (hli : wrap64 (wrap64 (pn + l.lin) + r.lin) = LI) :
    goodN pl pn xr xc xb xn l r BY LI = true ↔ (fitB pl pn = true ∧ balB xr l r = true ∧ xc = ((Tr.mk (some (xr, l, ⟨ps, po, pl, pn⟩, r))).size : Nat) ∧ xb = (Tr.mk (some (xr, l, ⟨ps, po, pl, pn⟩, r))).byt ∧ xn = (Tr.mk (some (xr, l, ⟨ps, po, pl, pn⟩, r))).lin) := by
  have e : ((Tr.mk (some (xr, l, ⟨ps, po, pl, pn⟩, r))).size : Nat) = 1 + l.size + r.size := by simp only [Tr.size]; omega
  have e2 : (((1 + l.size + r.size : Nat)) : Int) = 1 + (l.size : Int) + (r.size : Int) := by push_cast; rfl
  rw [e, e2]
  cases hf : fitB pl pn with
  | false => simp [goodN, hf]
  | true =>
    obtain ⟨h1, h2⟩ := look_sums (xr := xr) (ps := ps) (po := po) hl hr hz hf
    rw [← h1, ← h2, hby, hli]
    unfold goodN balB
    rw [hf]
    simp only [Bool.true_and, Bool.and_eq_true, decide_eq_true_eq, true_and, and_assoc, Int.natCast_inj]
theorem step_yes {xr xl xg : Bool} {l r : Tr} {ps po pl pn xc xb xn : Int} {BY LI : Int} {F F1 F2 : List Tr} (hl : l.fits) (hr : r.fits) (hz : l.size + r.size ≤ 65536) (hby : wrap64 (wrap64 (pl + l.byt) + r.byt) = BY) (hli : wrap64 (wrap64 (pn + l.lin) + r.lin) = LI)
    (h1 : popF xl F = some (l, F1)) (h2 : popF xg F1 = some (r, F2)) (hg : goodN pl pn xr xc xb xn l r BY LI = true) : stepF ⟨⟨ps, po, pl, pn⟩, xr, xl, xg, xc, xb, xn⟩ F = some (Tr.mk (some (xr, l, ⟨ps, po, pl, pn⟩, r)) :: F2) := by
  unfold stepF
  simp only
  rw [h1]
  simp only
  rw [h2]
  simp only
  rw [if_pos ((goodN_iff hl hr hz hby hli).1 hg)]
theorem step_no {xr xl xg : Bool} {l r : Tr} {ps po pl pn xc xb xn : Int} {BY LI : Int} {F F1 F2 : List Tr} (hl : l.fits) (hr : r.fits) (hz : l.size + r.size ≤ 65536) (hby : wrap64 (wrap64 (pl + l.byt) + r.byt) = BY) (hli : wrap64 (wrap64 (pn + l.lin) + r.lin) = LI)
    (h1 : popF xl F = some (l, F1)) (h2 : popF xg F1 = some (r, F2)) (hg : goodN pl pn xr xc xb xn l r BY LI = false) : stepF ⟨⟨ps, po, pl, pn⟩, xr, xl, xg, xc, xb, xn⟩ F = none := by
  unfold stepF
  simp only
  rw [h1]
  simp only
  rw [h2]
  simp only
  rw [if_neg (fun h => by rw [(goodN_iff (ps := ps) (po := po) hl hr hz hby hli).2 h] at hg; cases hg)]
theorem own_keep' {w w' : World} {base e size n : Nat} {v : Value} {xs : List Value} (h : w.ownsRow base e size v n xs) (hb : Below w.heap.size w w') : w'.ownsRow base e size v n xs := by
  refine ⟨h.1, ?_⟩
  rcases h.2 with h0 | ⟨g, cap, cur, rfl, hb', hg, rest⟩
  · exact .inl h0
  · exact .inr ⟨g, cap, cur, rfl, hb', by rw [hb.block g (Array.getElem?_eq_some_iff.1 hg).1]; exact hg, rest⟩
theorem scells_bot : ∀ (F : List Tr) (t : Tr), ∃ bt X, scells (t :: F) = sn bt ++ X ∧ (F = [] → bt = t)
  | [], t => ⟨t, [], by simp [scells], fun _ => rfl⟩
  | u :: F, t => by
    obtain ⟨bt, X, h, _⟩ := scells_bot F u
    exact ⟨bt, X ++ sn t, by rw [scells, h, List.append_assoc], fun e => by cases e⟩
theorem own_bot {w : World} {base cap g : Nat} {t : Tr} {F : List Tr} (h : w.ownsRow base 93 6 (.slice (some ⟨g, 0, none⟩) (F.length + 1) cap) (F.length + 1) (scells (t :: F))) :
    ∃ bt : Tr, (F = [] → bt = t) ∧ w.cell? ⟨g, 0, none⟩ = some (.bool bt.red) ∧ w.cell? ⟨g, 1, none⟩ = some (.int .i64 (bt.bh : Nat)) ∧ w.cell? ⟨g, 2, none⟩ = some (.int .i64 (bt.ht : Nat)) ∧ w.cell? ⟨g, 3, none⟩ = some (.int .i64 (bt.size : Nat)) ∧ w.cell? ⟨g, 4, none⟩ = some (.int .i64 bt.byt) ∧ w.cell? ⟨g, 5, none⟩ = some (.int .i64 bt.lin) := by
  obtain ⟨bt, X, e, hb⟩ := scells_bot F t
  rw [e] at h
  have c : ∀ i, i < 6 → w.cell? ⟨g, i, none⟩ = (sn bt)[i]? := fun i hi => by
    rw [h.cellAt i (by omega), List.getElem?_append_left (by simp [sn]; omega)]
  exact ⟨bt, hb, by simpa [sn] using c 0 (by omega), by simpa [sn] using c 1 (by omega), by simpa [sn] using c 2 (by omega), by simpa [sn] using c 3 (by omega), by simpa [sn] using c 4 (by omega), by simpa [sn] using c 5 (by omega)⟩
theorem put6_cell {W : World} {g B : Nat} (hne : ¬ g = B) (a0 a1 a2 a3 a4 a5 : Value) (j : Nat) : (put6 W B a0 a1 a2 a3 a4 a5).cell? ⟨g, j, none⟩ = W.cell? ⟨g, j, none⟩ := by
  have h : ((put6 W B a0 a1 a2 a3 a4 a5).heap[g]?) = W.heap[g]? := by
    unfold put6
    rw [heap_setCell_other _ _ _ _ hne, heap_setCell_other _ _ _ _ hne, heap_setCell_other _ _ _ _ hne, heap_setCell_other _ _ _ _ hne, heap_setCell_other _ _ _ _ hne, heap_setCell_other _ _ _ _ hne]
  exact World.cell?_of_block (a := ⟨g, j, none⟩) h
theorem six_far {W : World} {g B : Nat} (hne : ¬ g = B) {a0 a1 a2 a3 a4 a5 c0 c1 c2 c3 c4 c5 : Value} (h : W.cell? ⟨g, 0, none⟩ = some c0 ∧ W.cell? ⟨g, 1, none⟩ = some c1 ∧ W.cell? ⟨g, 2, none⟩ = some c2 ∧ W.cell? ⟨g, 3, none⟩ = some c3 ∧ W.cell? ⟨g, 4, none⟩ = some c4 ∧ W.cell? ⟨g, 5, none⟩ = some c5) :
    (put6 W B a0 a1 a2 a3 a4 a5).cell? ⟨g, 0, none⟩ = some c0 ∧ (put6 W B a0 a1 a2 a3 a4 a5).cell? ⟨g, 1, none⟩ = some c1 ∧ (put6 W B a0 a1 a2 a3 a4 a5).cell? ⟨g, 2, none⟩ = some c2 ∧ (put6 W B a0 a1 a2 a3 a4 a5).cell? ⟨g, 3, none⟩ = some c3 ∧ (put6 W B a0 a1 a2 a3 a4 a5).cell? ⟨g, 4, none⟩ = some c4 ∧ (put6 W B a0 a1 a2 a3 a4 a5).cell? ⟨g, 5, none⟩ = some c5 := by
  rw [put6_cell hne, put6_cell hne, put6_cell hne, put6_cell hne, put6_cell hne, put6_cell hne]; exact h
theorem drew_cell (W : World) (p : Addr) : W.drew.cell? p = W.cell? p := rfl
theorem six_far_drew {W : World} {g B : Nat} (hne : ¬ g = B) {a0 a1 a2 a3 a4 a5 c0 c1 c2 c3 c4 c5 : Value} (h : W.cell? ⟨g, 0, none⟩ = some c0 ∧ W.cell? ⟨g, 1, none⟩ = some c1 ∧ W.cell? ⟨g, 2, none⟩ = some c2 ∧ W.cell? ⟨g, 3, none⟩ = some c3 ∧ W.cell? ⟨g, 4, none⟩ = some c4 ∧ W.cell? ⟨g, 5, none⟩ = some c5) :
    (put6 W B a0 a1 a2 a3 a4 a5).drew.cell? ⟨g, 0, none⟩ = some c0 ∧ (put6 W B a0 a1 a2 a3 a4 a5).drew.cell? ⟨g, 1, none⟩ = some c1 ∧ (put6 W B a0 a1 a2 a3 a4 a5).drew.cell? ⟨g, 2, none⟩ = some c2 ∧ (put6 W B a0 a1 a2 a3 a4 a5).drew.cell? ⟨g, 3, none⟩ = some c3 ∧ (put6 W B a0 a1 a2 a3 a4 a5).drew.cell? ⟨g, 4, none⟩ = some c4 ∧ (put6 W B a0 a1 a2 a3 a4 a5).drew.cell? ⟨g, 5, none⟩ = some c5 := by
  rw [drew_cell, drew_cell, drew_cell, drew_cell, drew_cell, drew_cell]
  exact six_far hne h
end Go.Proofs.Ytcaegdfbbjfgpaa
