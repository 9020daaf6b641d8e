/- The reference's wood: nodes in a list; how it lies in memory; which trees it holds. -/
import Derived.Test.YtcaegdfbbjfgpaaAm09
import Derived.ArgAppend
import Derived.Deep.AppendLies
import Derived.Deep.RegionLaw
namespace Go.Proofs.Ytcaegdfbbjfgpaa
open Go.RowKit

/-- a node of the wood -/
structure Nd where
  p : Pc
  red : Bool
  l : Int
  r : Int
  cnt : Int
  byt : Int
  lin : Int
  bh : Int
def Nd.cs (x : Nd) : List Value := [.int .i64 x.p.s, .int .i64 x.p.o, .int .i64 x.p.l, .int .i64 x.p.n, .bool x.red, .int .i64 x.l, .int .i64 x.r, .int .i64 x.cnt, .int .i64 x.byt, .int .i64 x.lin, .int .i64 x.bh]
def ndcells (N : List Nd) : List Value := N.flatMap Nd.cs
theorem ndcells_length (N : List Nd) : (ndcells N).length = N.length * 11 := by
  induction N with
  | nil => rfl
  | cons p M ih => simp only [ndcells, List.flatMap_cons, List.length_append, List.length_cons] at *; rw [ih]; simp [Nd.cs]; omega
theorem ndcells_append (N M : List Nd) : ndcells (N ++ M) = ndcells N ++ ndcells M := by simp [ndcells]
theorem ndcells_at {N : List Nd} {j : Nat} {q : Nd} (h : N[j]? = some q) (i : Nat) (hi : i < 11) : (ndcells N)[j * 11 + i]? = q.cs[i]? := by
  induction N generalizing j with
  | nil => simp at h
  | cons r M ih =>
    have e : ndcells (r :: M) = r.cs ++ ndcells M := by simp [ndcells]
    rw [e]
    cases j with
    | zero =>
      simp at h; subst h
      rw [Nat.zero_mul, Nat.zero_add, List.getElem?_append_left (by simp [Nd.cs]; omega)]
    | succ j =>
      rw [List.getElem?_cons_succ] at h
      rw [List.getElem?_append_right (by simp [Nd.cs]; omega)]
      rw [← ih h]
      congr 1
      simp [Nd.cs]; omega
theorem nd_one (x : Nd) : ∀ u ∈ x.cs, u.oneCell' = true := by
  intro u hu
  simp only [Nd.cs, List.mem_cons, List.not_mem_nil, or_false] at hu
  rcases hu with rfl | rfl | rfl | rfl | rfl | rfl | rfl | rfl | rfl | rfl | rfl <;> rfl
theorem info118 : (Try.prog.info? 118).map (fun i => (i.zero, i.size, i.bytes)) = some (some (.agg #[.int .i64 0, .int .i64 0, .int .i64 0, .int .i64 0, .bool false, .int .i64 0, .int .i64 0, .int .i64 0, .int .i64 0, .int .i64 0, .int .i64 0]), 11, 88) := by kernel_rfl

/-- the node that a tree's root is -/
def ndOf (c : Bool) (l : Tr) (p : Pc) (r : Tr) (li ri : Int) : Nd := ⟨p, c, li, ri, ((Tr.mk (some (c, l, p, r))).size : Nat), (Tr.mk (some (c, l, p, r))).byt, (Tr.mk (some (c, l, p, r))).lin, ((Tr.mk (some (c, l, p, r))).bh : Nat)⟩
/-- the tree t is number i of the wood -/
def Is (N : List Nd) : Tr → Int → Prop
  | (Tr.mk none), i => i = -1
  | (Tr.mk (some (c, l, p, r))), i => ∃ (j : Nat) (li ri : Int), i = j ∧ N[j]? = some (ndOf c l p r li ri) ∧ Is N l li ∧ Is N r ri
theorem Is.more {N : List Nd} (M : List Nd) : ∀ {t : Tr} {i : Int}, Is N t i → Is (N ++ M) t i
  | (Tr.mk none), _, h => h
  | (Tr.mk (some (c, l, p, r))), _, ⟨j, li, ri, e, h, h1, h2⟩ => ⟨j, li, ri, e, by rw [List.getElem?_append_left (List.getElem?_eq_some_iff.1 h).1]; exact h, h1.more M, h2.more M⟩
theorem Is.nil_iff {N : List Nd} {i : Int} (h : Is N (Tr.mk none) i) : i = -1 := h
theorem Is.range {N : List Nd} {t : Tr} {i : Int} (h : Is N t i) : -1 ≤ i ∧ i < N.length := by
  cases t using Tr.el with
  | nil => have := h.nil_iff; omega
  | node c l p r => obtain ⟨j, li, ri, e, h1, -⟩ := h; have := (List.getElem?_eq_some_iff.1 h1).1; omega

/-- the wood at block B: the nodes N in the row v -/
structure Wd (W : World) (base B : Nat) (v : Value) (N : List Nd) : Prop where
  blk : Blk W B 88 #[v]
  own : W.ownsRow base 118 11 v N.length (ndcells N)
  low : base ≤ B
/-- only the wood was changed: nothing old but its block and its row -/
structure Grw (W W' : World) (B : Nat) (v v' : Value) : Prop where
  os : W'.os = W.os
  tape : W'.tape = W.tape
  output : W'.output = W.output
  size : W.heap.size ≤ W'.heap.size
  block : ∀ k, k < W.heap.size → k ≠ B → some k ≠ v.ownBlock → W'.heap[k]? = W.heap[k]?
  fresh : v'.ownBlock = v.ownBlock ∨ ∃ q, v'.ownBlock = some q ∧ W.heap.size ≤ q
theorem Grw.refl (W : World) (B : Nat) (v : Value) : Grw W W B v v := ⟨rfl, rfl, rfl, Nat.le_refl _, fun _ _ _ _ => rfl, .inl rfl⟩
theorem Grw.trans {W W' W'' : World} {B : Nat} {v v' v'' : Value} (h : Grw W W' B v v') (k : Grw W' W'' B v' v'') : Grw W W'' B v v'' := by
  refine ⟨k.os.trans h.os, k.tape.trans h.tape, k.output.trans h.output, Nat.le_trans h.size k.size, fun i hi hB hv => ?_, ?_⟩
  · have hs := h.size
    rw [k.block i (by omega) hB ?_, h.block i hi hB hv]
    rcases h.fresh with e | ⟨q, e, hq⟩
    · rw [e]; exact hv
    · rw [e]; simp; omega
  · rcases k.fresh with e | ⟨q, e, hq⟩
    · rw [e]; exact h.fresh
    · exact .inr ⟨q, e, by have := h.size; omega⟩
theorem Grw.below {W W' : World} {B : Nat} {v : Value} (h : Below W.heap.size W W') : Grw W W' B v v := ⟨h.os, h.tape, h.output, h.size, fun k hk _ _ => h.block k hk, .inl rfl⟩
/-- a block apart from the wood stays -/
theorem Grw.blk {W W' : World} {B k e : Nat} {v v' : Value} {cs : Array Value} (h : Grw W W' B v v') (hk : Blk W k e cs) (h1 : k ≠ B) (h2 : some k ≠ v.ownBlock) : Blk W' k e cs := by
  unfold Blk; rw [h.block k hk.lt h1 h2]; exact hk
/-- what lies below stays -/
theorem Grw.under {W W' : World} {base B : Nat} {v v' : Value} {N : List Nd} (h : Grw W W' B v v') (hw : Wd W base B v N) {w0 : World} (hb : Below base w0 W) (hz : base ≤ W.heap.size) : Below base w0 W' := by
  refine ⟨h.os.trans hb.os, h.tape.trans hb.tape, h.output.trans hb.output, Nat.le_trans hb.size h.size, fun k hk => ?_⟩
  rw [h.block k (by omega) (by have := hw.low; omega) (fun e => by have := (hw.own.lt k e.symm).1; omega)]
  exact hb.block k hk
theorem Wd.keep {W W' : World} {base B : Nat} {v : Value} {N : List Nd} (h : Wd W base B v N) (hb : Below W.heap.size W W') : Wd W' base B v N := ⟨h.blk.keep hb, own_keep' h.own hb, h.low⟩
/-- a node's cells -/
theorem Wd.node {W : World} {base B : Nat} {v : Value} {N : List Nd} {j : Nat} {x : Nd} (h : Wd W base B v N) (hj : N[j]? = some x) : ∃ g cap, v = .slice (some ⟨g, 0, none⟩) N.length cap ∧ (∀ i, i < 11 → W.cell? ⟨g, j * 11 + i, none⟩ = x.cs[i]?) := by
  have hlt := (List.getElem?_eq_some_iff.1 hj).1
  rcases h.own.2 with ⟨_, h0⟩ | ⟨g, cap, cur, e, _⟩
  · omega
  · subst e
    exact ⟨g, cap, rfl, fun i hi => (h.own.cellAt _ (by omega)).trans (ndcells_at hj i hi)⟩
end Go.Proofs.Ytcaegdfbbjfgpaa

/- The contracts of the wood's bh, red, size. -/
namespace Go.Proofs.Ytcaegdfbbjfgpaa
open Go.RowKit

/-- one number of a node, read -/
theorem Wd.cell1 {W : World} {base B : Nat} {v : Value} {N : List Nd} (h : Wd W base B v N) : W.cell? ⟨B, 0, none⟩ = some v := h.blk.cell rfl

set_option maxHeartbeats 1000000 in
theorem wbh_any (t : Tr) (i : Int) (base B : Nat) (v : Value) (N : List Nd) (w : World) (_hz : N.length ≤ 2097152) (h : Hid (Wd w base B v N)) (hi : Hid (Is N t i)) :
    Calls Try.prog 85 #[.pointer (some ⟨B, 0, none⟩), .int .i64 i] w fun e w' => e = .returned (.int .i64 (t.bh : Nat)) ∧ w' = w := by
  cases t using Tr.el with
  | nil =>
    have e := hi.out.nil_iff
    subst e
    clear h hi
    go_enter Try.func85, Try.ntmps85
    go_wp2
    go_ret
    exact ⟨rfl, rfl⟩
  | node c l p r =>
    obtain ⟨j, li, ri, e, hj, -, -⟩ := hi.out
    subst e
    obtain ⟨g, cap, hv, hc⟩ := h.out.node hj
    subst hv
    have c0 := h.out.cell1
    have c1 := hc 10 (by omega)
    have hlt := (List.getElem?_eq_some_iff.1 hj).1
    have j0 : (0 : Int) ≤ (j : Int) := by omega
    have j1 : (j : Int) < (N.length : Int) := by omega
    have c2 : w.cell? ⟨g, j * 11 + 10, none⟩ = some (.int .i64 (((Tr.mk (some (c, l, p, r))).bh : Nat))) := c1
    clear c1 hc hj h hi hlt
    generalize (((Tr.mk (some (c, l, p, r))).bh : Nat)) = Q at *
    go_enter Try.func85, Try.ntmps85
    go_wp2
    go_ret
    exact ⟨rfl, rfl⟩

set_option maxHeartbeats 1000000 in
theorem wred_any (t : Tr) (i : Int) (base B : Nat) (v : Value) (N : List Nd) (w : World) (_hz : N.length ≤ 2097152) (h : Hid (Wd w base B v N)) (hi : Hid (Is N t i)) :
    Calls Try.prog 94 #[.pointer (some ⟨B, 0, none⟩), .int .i64 i] w fun e w' => e = .returned (.bool t.red) ∧ w' = w := by
  cases t using Tr.el with
  | nil =>
    have e := hi.out.nil_iff
    subst e
    clear h hi
    go_enter Try.func94, Try.ntmps94
    go_wp2
    go_ret
    exact ⟨rfl, rfl⟩
  | node c l p r =>
    obtain ⟨j, li, ri, e, hj, -, -⟩ := hi.out
    subst e
    obtain ⟨g, cap, hv, hc⟩ := h.out.node hj
    subst hv
    have c0 := h.out.cell1
    have c1 := hc 4 (by omega)
    have hlt := (List.getElem?_eq_some_iff.1 hj).1
    have j0 : (0 : Int) ≤ (j : Int) := by omega
    have j1 : (j : Int) < (N.length : Int) := by omega
    have c2 : w.cell? ⟨g, j * 11 + 4, none⟩ = some (.bool c) := c1
    clear c1 hc hj h hi hlt
    go_enter Try.func94, Try.ntmps94
    go_wp2
    go_ret
    exact ⟨rfl, rfl⟩

set_option maxHeartbeats 1000000 in
theorem wsize_any (t : Tr) (i : Int) (base B : Nat) (v : Value) (N : List Nd) (w : World) (_hz : N.length ≤ 2097152) (h : Hid (Wd w base B v N)) (hi : Hid (Is N t i)) :
    Calls Try.prog 90 #[.pointer (some ⟨B, 0, none⟩), .int .i64 i] w fun e w' => e = .returned (.int .i64 (t.size : Nat)) ∧ w' = w := by
  cases t using Tr.el with
  | nil =>
    have e := hi.out.nil_iff
    subst e
    clear h hi
    go_enter Try.func90, Try.ntmps90
    go_wp2
    go_ret
    exact ⟨rfl, rfl⟩
  | node c l p r =>
    obtain ⟨j, li, ri, e, hj, -, -⟩ := hi.out
    subst e
    obtain ⟨g, cap, hv, hc⟩ := h.out.node hj
    subst hv
    have c0 := h.out.cell1
    have c1 := hc 7 (by omega)
    have hlt := (List.getElem?_eq_some_iff.1 hj).1
    have j0 : (0 : Int) ≤ (j : Int) := by omega
    have j1 : (j : Int) < (N.length : Int) := by omega
    have c2 : w.cell? ⟨g, j * 11 + 7, none⟩ = some (.int .i64 (((Tr.mk (some (c, l, p, r))).size : Nat))) := c1
    clear c1 hc hj h hi hlt
    generalize (((Tr.mk (some (c, l, p, r))).size : Nat)) = Q at *
    go_enter Try.func90, Try.ntmps90
    go_wp2
    go_ret
    exact ⟨rfl, rfl⟩
end Go.Proofs.Ytcaegdfbbjfgpaa

/- The contract of the wood's add. -/
namespace Go.Proofs.Ytcaegdfbbjfgpaa
open Go.RowKit

def ndA (ps po pl pn : Int) (c : Bool) (li ri k1 k2 k3 k4 : Int) : Array Value := #[.int .i64 ps, .int .i64 po, .int .i64 pl, .int .i64 pn, .bool c, .int .i64 li, .int .i64 ri, .int .i64 k1, .int .i64 k2, .int .i64 k3, .int .i64 k4]
theorem ndA_cells {W : World} {B : Nat} {ps po pl pn : Int} {c : Bool} {li ri k1 k2 k3 k4 : Int} (h : Blk W B 118 (ndA ps po pl pn c li ri k1 k2 k3 k4)) :
    W.cell? ⟨B, 0, none⟩ = some (.int .i64 ps) ∧ W.cell? ⟨B, 1, none⟩ = some (.int .i64 po) ∧ W.cell? ⟨B, 2, none⟩ = some (.int .i64 pl) ∧ W.cell? ⟨B, 3, none⟩ = some (.int .i64 pn) ∧ W.cell? ⟨B, 4, none⟩ = some (.bool c) ∧ W.cell? ⟨B, 5, none⟩ = some (.int .i64 li) ∧ W.cell? ⟨B, 6, none⟩ = some (.int .i64 ri) ∧ W.cell? ⟨B, 7, none⟩ = some (.int .i64 k1) ∧ W.cell? ⟨B, 8, none⟩ = some (.int .i64 k2) ∧ W.cell? ⟨B, 9, none⟩ = some (.int .i64 k3) ∧ W.cell? ⟨B, 10, none⟩ = some (.int .i64 k4) :=
  ⟨h.cell rfl, h.cell rfl, h.cell rfl, h.cell rfl, h.cell rfl, h.cell rfl, h.cell rfl, h.cell rfl, h.cell rfl, h.cell rfl, h.cell rfl⟩

theorem blk2 (w : World) (X : Obj) (e : Nat) (cs : Array Value) : Blk ((w.alloc X).alloc (.cells cs e)).drew (w.heap.size + 1) e cs := by
  have h := Blk.new (w.alloc X) e cs
  rw [World.size_alloc] at h
  exact h

theorem Wd.ne {W : World} {base B : Nat} {v : Value} {N : List Nd} (h : Wd W base B v N) : v.ownBlock ≠ some B := by
  intro e
  rcases h.own.2 with ⟨hv, _⟩ | ⟨g, cap, cur, hv, _, hg, _⟩
  · subst hv; simp [Value.ownBlock] at e
  · subst hv
    simp [Value.ownBlock] at e
    subst e
    have := h.blk
    unfold Blk at this
    rw [hg] at this
    simp at this
theorem Wd.blk_grown {W w9 : World} {base B : Nat} {v : Value} {N : List Nd} {X : Obj} (h : Wd W base B v N) (hg : (W.alloc X).drew.grownBy w9 v.ownBlock) : Blk w9 B 88 #[v] := by
  unfold Blk
  rw [hg.block B (by have := h.blk.lt; simp; omega) h.ne.symm]
  exact h.blk.alloc X
/-- a node more, and the row's new value stored -/
theorem Wd.added {w W w9 : World} {base B g9 cap9 : Nat} {v : Value} {N : List Nd} {x : Nd} {X : Obj} (h : Wd w base B v N) (hb : Below w.heap.size w W) (hg : (W.alloc X).drew.grownBy w9 v.ownBlock)
    (ho : w9.ownsRow base 118 11 (.slice (some ⟨g9, 0, none⟩) (N.length + 1) cap9) (N.length + 1) (ndcells N ++ x.cs)) (ha : v.ownBlock = some g9 ∨ g9 = W.heap.size + 1) :
    Wd (w9.setCell ⟨B, 0, none⟩ (.slice (some ⟨g9, 0, none⟩) (N.length + 1) cap9)) base B (.slice (some ⟨g9, 0, none⟩) (N.length + 1) cap9) (N ++ [x]) ∧ Grw w (w9.setCell ⟨B, 0, none⟩ (.slice (some ⟨g9, 0, none⟩) (N.length + 1) cap9)) B v (.slice (some ⟨g9, 0, none⟩) (N.length + 1) cap9) := by
  have hW := h.keep hb
  have hk9 := hW.blk_grown hg
  have hlt := h.blk.lt
  have hsz := hb.size
  have hne : g9 ≠ B := by
    rcases ha with e | e
    · intro e2; subst e2; exact h.ne e
    · omega
  have hz9 := hg.size
  simp at hz9
  refine ⟨⟨heap_setCell_same _ B 0 _ 88 _ hk9, ?_, h.low⟩, ⟨hg.os.trans hb.os, hg.tape.trans hb.tape, hg.output.trans hb.output, ?_, fun k hk hB hv => ?_, ?_⟩⟩
  · have h1 : (w9.setCell ⟨B, 0, none⟩ (.slice (some ⟨g9, 0, none⟩) (N.length + 1) cap9)).ownsRow base 118 11 (.slice (some ⟨g9, 0, none⟩) (N.length + 1) cap9) (N.length + 1) (ndcells N ++ x.cs) :=
      ho.kept (row := some B) ⟨rfl, rfl, rfl, by simp, fun k _ hk => heap_setCell_other w9 ⟨B, 0, none⟩ k _ (fun e => hk (by simp [e]))⟩ (.inr (by simp [Value.ownBlock]; exact hne))
    have e1 : ndcells (N ++ [x]) = ndcells N ++ x.cs := by rw [ndcells_append]; simp [ndcells]
    have e2 : (N ++ [x]).length = N.length + 1 := by simp
    rw [e1, e2]
    exact h1
  · show w.heap.size ≤ (w9.setCell ⟨B, 0, none⟩ _).heap.size
    simp; omega
  · show (w9.setCell ⟨B, 0, none⟩ _).heap[k]? = w.heap[k]?
    rw [heap_setCell_other w9 ⟨B, 0, none⟩ k _ hB, hg.block k (by simp; omega) hv]
    show (W.alloc X).heap[k]? = w.heap[k]?
    rw [(bAlloc (Below.refl W.heap.size W) X).block k (by omega), hb.block k hk]
  · rcases ha with e | e
    · exact .inl (by rw [e]; rfl)
    · exact .inr ⟨g9, rfl, by omega⟩

set_option maxRecDepth 100000 in
set_option maxHeartbeats 8000000 in
theorem wadd_any (l r : Tr) (li ri : Int) (ps po pl pn : Int) (c : Bool) (base B : Nat) (v : Value) (N : List Nd) (w : World) (hz : N.length ≤ 2097152) (hs : l.size + r.size ≤ 2097152) (hp : Hid (Pc.fit ⟨ps, po, pl, pn⟩)) (hl : Hid l.fits) (hr : Hid r.fits)
    (h : Hid (Wd w base B v N)) (h1 : Hid (Is N l li)) (h2 : Hid (Is N r ri)) (hB : base ≤ w.heap.size) :
    Calls Try.prog 86 #[.pointer (some ⟨B, 0, none⟩), .int .i64 li, .agg #[.int .i64 ps, .int .i64 po, .int .i64 pl, .int .i64 pn], .int .i64 ri, .bool c] w fun e w' =>
      ∃ v', e = .returned (.int .i64 (N.length : Nat)) ∧ Wd w' base B v' (N ++ [ndOf c l ⟨ps, po, pl, pn⟩ r li ri]) ∧ Grw w w' B v v' := by
  go_enter Try.func86, Try.ntmps86
  go_upto_region 1 with fail
  have b0 := Blk.new w 32 #[.int .i64 ps, .int .i64 po, .int .i64 pl, .int .i64 pn]
  have c0 := b0.cell (j := 0) rfl
  have c1 := b0.cell (j := 1) rfl
  have c2 := b0.cell (j := 2) rfl
  have c3 := b0.cell (j := 3) rfl
  clear b0
  go_cut [11] from 12 to 122 (fun p11 wx => p11 = .pointer (some ⟨w.heap.size + 1, 0, none⟩) ∧ Blk wx (w.heap.size + 1) 118 (ndA ps po pl pn c li ri 1 pl pn (l.bh : Nat)) ∧ Below w.heap.size w wx)
  case first =>
    go_region_held3 (fun w' => w'.cell? ⟨w.heap.size, 0, none⟩ = some (.int .i64 ps) ∧ w'.cell? ⟨w.heap.size, 1, none⟩ = some (.int .i64 po) ∧ w'.cell? ⟨w.heap.size, 2, none⟩ = some (.int .i64 pl) ∧ w'.cell? ⟨w.heap.size, 3, none⟩ = some (.int .i64 pn)) ((simp [go_sem]; done))
      (first | (go_at_call 85; refine (wbh_any l li base B v N _ hz (by first | exact h.out.keep (bAlloc (Below.refl _ _) _) | exact h.out.keep (bAlloc (bAlloc (Below.refl _ _) _) _) | exact h.out.keep (bAlloc (Below.refl _ _) _).drew | exact h.out.keep (bAlloc (bAlloc (Below.refl _ _) _) _).drew) h1).mono ?_; rintro e w5 ⟨rfl, rfl⟩))
    all_goals (go_wp2_with fail; go_meet)
    all_goals exact ⟨rfl, blk2 w _ 118 _, (bAlloc (bAlloc (Below.refl _ _) _) _).drew⟩
  case rest =>
  obtain ⟨rfl, hk, hb⟩ := hcut
  have HB1 := Hid.mk' hb
  have HK1 := Hid.mk' hk
  obtain ⟨d0, d1, d2, d3, d4, d5, d6, d7, d8, d9, d10⟩ := ndA_cells hk
  have fd := hk.frozen
  clear hb hk
  have hbl := l.bh_le
  go_upto_if 26 with fail
  go_cut [11] from 12 to 122 (fun p11 wx => p11 = .pointer (some ⟨w.heap.size + 1, 0, none⟩) ∧ Blk wx (w.heap.size + 1) 118 (ndA ps po pl pn c li ri 1 pl pn ((Tr.mk (some (c, l, ⟨ps, po, pl, pn⟩, r))).bh : Nat)) ∧ Below w.heap.size w wx)
  case first =>
    cases c with
    | true =>
      go_wp2_with fail
      go_meet
      exact ⟨rfl, HK1.out, HB1.out⟩
    | false =>
      go_wp2_with fail
      go_meet
      exact ⟨rfl, heap_setCell_same _ (w.heap.size + 1) 10 _ 118 (.int .i64 ((l.bh : Int) + 1)) HK1.out, HB1.out.setCell (p := ⟨w.heap.size + 1, 10, none⟩) (by simp) _⟩
  case rest =>
  obtain ⟨rfl, hk, hb⟩ := hcut
  clear HB1 HK1 d0 d1 d2 d3 d4 d5 d6 d7 d8 d9 d10 fd
  generalize hQ : (((Tr.mk (some (c, l, ⟨ps, po, pl, pn⟩, r))).bh : Nat) : Int) = Q at *
  have HQ := Hid.mk' hQ
  have HB2 := Hid.mk' hb
  have HK2 := Hid.mk' hk
  obtain ⟨d0, d1, d2, d3, d4, d5, d6, d7, d8, d9, d10⟩ := ndA_cells hk
  have fd := hk.frozen
  have hW2 := Hid.mk' (h.out.keep hb)
  clear hb hk hQ
  have bl := l.fits_bounds hl.out
  have br := r.fits_bounds hr.out
  have bp : 1 ≤ pl ∧ pl ≤ 2147483647 ∧ 0 ≤ pn ∧ pn ≤ pl := hp.out
  obtain ⟨bp1, bp2, bp3, bp4⟩ := bp
  obtain ⟨bl1, bl2, bl3, bl4, -⟩ := bl
  go_upto_if 32 with fail
  go_cut [11] from 12 to 122 (fun p11 wx => p11 = .pointer (some ⟨w.heap.size + 1, 0, none⟩) ∧ Blk wx (w.heap.size + 1) 118 (ndA ps po pl pn c li ri (1 + (l.size : Int)) (pl + l.byt) (pn + l.lin) Q) ∧ Below w.heap.size w wx)
  case first =>
    cases l using Tr.el with
    | nil =>
      have e := h1.out.nil_iff
      subst e
      go_wp2_with fail
      go_meet
      exact ⟨rfl, by simpa [Tr.size, Tr.byt, Tr.lin] using HK2.out, HB2.out⟩
    | node c' l' p' r' =>
      obtain ⟨j, li', ri', e, hj, -, -⟩ := h1.out
      subst e
      obtain ⟨g, cap, hv, hc⟩ := hW2.out.node hj
      subst hv
      have x0 := hW2.out.cell1
      have x7 : wc.cell? ⟨g, j * 11 + 7, none⟩ = some (.int .i64 (((Tr.mk (some (c', l', p', r'))).size : Nat))) := hc 7 (by omega)
      have x8 : wc.cell? ⟨g, j * 11 + 8, none⟩ = some (.int .i64 (Tr.mk (some (c', l', p', r'))).byt) := hc 8 (by omega)
      have x9 : wc.cell? ⟨g, j * 11 + 9, none⟩ = some (.int .i64 (Tr.mk (some (c', l', p', r'))).lin) := hc 9 (by omega)
      have hlt := (List.getElem?_eq_some_iff.1 hj).1
      have j0 : (0 : Int) ≤ (j : Int) := by omega
      have j1 : (j : Int) < (N.length : Int) := by omega
      have hg : g < w.heap.size := (h.out.own.lt g rfl).2
      have hg1 : ¬ g = w.heap.size + 1 := by omega
      have hBl : B < w.heap.size := h.out.blk.lt
      have hB1' : ¬ B = w.heap.size + 1 := by omega
      clear hc hj
      go_upto_region 5 with fail
      go_region
      go_upto_region 6 with fail
      go_region
      go_upto_region 7 with fail
      go_region
      go_wp2_with fail
      go_meet
      refine ⟨rfl, ?_, ?_⟩
      · exact heap_setCell_same _ (w.heap.size + 1) 9 _ 118 _ (heap_setCell_same _ (w.heap.size + 1) 8 _ 118 _ (heap_setCell_same _ (w.heap.size + 1) 7 _ 118 _ HK2.out))
      · exact (((((HB2.out.setCell (p := ⟨w.heap.size + 1, 7, none⟩) (by simp) _).drew).setCell (p := ⟨w.heap.size + 1, 8, none⟩) (by simp) _).drew).setCell (p := ⟨w.heap.size + 1, 9, none⟩) (by simp) _).drew
  case rest =>
  obtain ⟨rfl, hk, hb⟩ := hcut
  clear HB2 HK2 hW2 d0 d1 d2 d3 d4 d5 d6 d7 d8 d9 d10 fd
  have HB3 := Hid.mk' hb
  have HK3 := Hid.mk' hk
  obtain ⟨d0, d1, d2, d3, d4, d5, d6, d7, d8, d9, d10⟩ := ndA_cells hk
  have fd := hk.frozen
  have hW3 := Hid.mk' (h.out.keep hb)
  clear hb hk
  obtain ⟨br1, br2, br3, br4, -⟩ := br
  go_upto_if 70 with fail
  go_cut [11] from 12 to 122 (fun p11 wx => p11 = .pointer (some ⟨w.heap.size + 1, 0, none⟩) ∧ Blk wx (w.heap.size + 1) 118 (ndA ps po pl pn c li ri (1 + (l.size : Int) + (r.size : Int)) (pl + l.byt + r.byt) (pn + l.lin + r.lin) Q) ∧ Below w.heap.size w wx)
  case first =>
    cases r using Tr.el with
    | nil =>
      have e := h2.out.nil_iff
      subst e
      go_wp2_with fail
      go_meet
      exact ⟨rfl, by simpa [Tr.size, Tr.byt, Tr.lin] using HK3.out, HB3.out⟩
    | node c' l' p' r' =>
      obtain ⟨j, li', ri', e, hj, -, -⟩ := h2.out
      subst e
      obtain ⟨g, cap, hv, hc⟩ := hW3.out.node hj
      subst hv
      have x0 := hW3.out.cell1
      have x7 : wc.cell? ⟨g, j * 11 + 7, none⟩ = some (.int .i64 (((Tr.mk (some (c', l', p', r'))).size : Nat))) := hc 7 (by omega)
      have x8 : wc.cell? ⟨g, j * 11 + 8, none⟩ = some (.int .i64 (Tr.mk (some (c', l', p', r'))).byt) := hc 8 (by omega)
      have x9 : wc.cell? ⟨g, j * 11 + 9, none⟩ = some (.int .i64 (Tr.mk (some (c', l', p', r'))).lin) := hc 9 (by omega)
      have hlt := (List.getElem?_eq_some_iff.1 hj).1
      have j0 : (0 : Int) ≤ (j : Int) := by omega
      have j1 : (j : Int) < (N.length : Int) := by omega
      have hg : g < w.heap.size := (h.out.own.lt g rfl).2
      have hg1 : ¬ g = w.heap.size + 1 := by omega
      have hBl : B < w.heap.size := h.out.blk.lt
      have hB1' : ¬ B = w.heap.size + 1 := by omega
      clear hc hj
      go_upto_region 9 with fail
      go_region
      go_upto_region 10 with fail
      go_region
      go_upto_region 11 with fail
      go_region
      go_wp2_with fail
      go_meet
      refine ⟨rfl, ?_, ?_⟩
      · exact heap_setCell_same _ (w.heap.size + 1) 9 _ 118 _ (heap_setCell_same _ (w.heap.size + 1) 8 _ 118 _ (heap_setCell_same _ (w.heap.size + 1) 7 _ 118 _ HK3.out))
      · exact (((((HB3.out.setCell (p := ⟨w.heap.size + 1, 7, none⟩) (by simp) _).drew).setCell (p := ⟨w.heap.size + 1, 8, none⟩) (by simp) _).drew).setCell (p := ⟨w.heap.size + 1, 9, none⟩) (by simp) _).drew
  case rest =>
  obtain ⟨rfl, hk, hb⟩ := hcut
  clear HB3 HK3 hW3 d0 d1 d2 d3 d4 d5 d6 d7 d8 d9 d10 fd
  obtain ⟨wE, hwE⟩ : ∃ W : World, W = wc := ⟨_, rfl⟩
  subst hwE
  obtain ⟨i0, hi, hz0, hz1, hz2⟩ := info_parts info118
  have I := Hid.mk' (And.intro hi (And.intro hz0 (And.intro hz1 hz2)))
  clear hi hz0 hz1 hz2
  have HB4 := Hid.mk' hb
  have HK4 := Hid.mk' hk
  obtain ⟨d0, d1, d2, d3, d4, d5, d6, d7, d8, d9, d10⟩ := ndA_cells hk
  have hW4 := Hid.mk' (h.out.keep hb)
  have x0 := hW4.out.cell1
  have hND : Hid ((⟨⟨ps, po, pl, pn⟩, c, li, ri, 1 + (l.size : Int) + (r.size : Int), pl + l.byt + r.byt, pn + l.lin + r.lin, Q⟩ : Nd) = ndOf c l ⟨ps, po, pl, pn⟩ r li ri) := by
    unfold Hid ndOf
    rw [HQ.out]
    simp only [Tr.size, Tr.byt, Tr.lin, Nd.mk.injEq, true_and, and_true]
    omega
  have hlE : w.heap.size + 1 < wE.heap.size := hk.lt
  have hsE := hb.size
  clear hb hk
  obtain ⟨av, cv, hv⟩ := own_shape h.out.own
  subst hv
  have hBl : B < w.heap.size := h.out.blk.lt
  have hBE : B < wE.heap.size := by omega
  go_upto_region 12 with fail
  go_region_law ((refine step_append_lies _ (by rfl) (.tmp 111) (.tmp 113) 86 (by rfl) base 118 i0 (.agg #[.int .i64 0, .int .i64 0, .int .i64 0, .int .i64 0, .bool false, .int .i64 0, .int .i64 0, .int .i64 0, .int .i64 0, .int .i64 0, .int .i64 0]) 11 88 Try.underlying86 I.out.1 I.out.2.1 I.out.2.2.1 I.out.2.2.2 (by rfl) (by decide) (.slice av N.length cv) N.length (ndcells N) (by rfl) (own_drew (hW4.out.own.alloc _)) ⟨wE.heap.size, 0, none⟩ 1 1 (Nd.cs ⟨⟨ps, po, pl, pn⟩, c, li, ri, 1 + (l.size : Int) + (r.size : Int), pl + l.byt + r.byt, pn + l.lin + r.lin, Q⟩) (by rfl) (by rfl) (World.news_of_block (heap_alloc_new wE _)) (nd_one _) (by decide) (by unfold maxLen; omega) (by omega) (by simp; omega) (wE.heap.size + 1) (by simp) ?_; intro g9 cap9 w9 hown9 hgrow9 hat9 hlt9; have hk9 := hW4.out.blk_grown hgrow9; have y0 := hk9.cell (j := 0) rfl; have fy := hk9.frozen))
  all_goals
    have FIN := Hid.mk' (Wd.added h.out HB4.out hgrow9 hown9 hat9)
    clear hown9 hgrow9 hat9 hlt9
    go_wp2
    go_ret
    exact ⟨_, by first | rfl | go_num, by rw [← hND.out]; exact FIN.out.1, FIN.out.2⟩
end Go.Proofs.Ytcaegdfbbjfgpaa

/- The contract of the wood's black. -/
namespace Go.Proofs.Ytcaegdfbbjfgpaa
open Go.RowKit

/-- what a call that makes nodes gives: the tree's number, at most so many nodes more -/
def Mades (w : World) (base B : Nat) (v : Value) (N : List Nd) (t : Tr) (cost : Nat) (e : Ending) (w' : World) : Prop :=
  ∃ (i : Int) (v' : Value) (M : List Nd), e = .returned (.int .i64 i) ∧ Wd w' base B v' (N ++ M) ∧ Is (N ++ M) t i ∧ Grw w w' B v v' ∧ M.length ≤ cost

/-- add, told so -/
theorem wadd_made (l r : Tr) (li ri : Int) (p : Pc) (c : Bool) (base B : Nat) (v : Value) (N : List Nd) (w : World) (hz : N.length ≤ 2097152) (hs : l.size + r.size ≤ 2097152) (hp : p.fit) (hl : l.fits) (hr : r.fits)
    (h : Wd w base B v N) (h1 : Is N l li) (h2 : Is N r ri) (hB : base ≤ w.heap.size) :
    Calls Try.prog 86 #[.pointer (some ⟨B, 0, none⟩), .int .i64 li, .agg #[.int .i64 p.s, .int .i64 p.o, .int .i64 p.l, .int .i64 p.n], .int .i64 ri, .bool c] w fun e w' => Mades w base B v N (Tr.mk (some (c, l, p, r))) 1 e w' := by
  refine (wadd_any l r li ri p.s p.o p.l p.n c base B v N w hz hs hp hl hr h h1 h2 hB).mono ?_
  rintro e w' ⟨v', rfl, hW, hG⟩
  refine ⟨_, v', _, rfl, hW, ⟨N.length, li, ri, rfl, by simp, h1.more _, h2.more _⟩, hG, by simp⟩

set_option maxRecDepth 100000 in
set_option maxHeartbeats 4000000 in
theorem wblack_any (t : Tr) (i : Int) (base B : Nat) (v : Value) (N : List Nd) (w : World) (hz : N.length ≤ 2097152) (hs : t.size ≤ 2097152) (hf : Hid t.fits) (h : Hid (Wd w base B v N)) (h1 : Hid (Is N t i)) (hB : base ≤ w.heap.size) :
    Calls Try.prog 89 #[.pointer (some ⟨B, 0, none⟩), .int .i64 i] w fun e w' => Mades w base B v N t.blk 1 e w' := by
  cases hred : t.red with
  | false =>
    have hblk : Hid (t.blk = t) := by
      unfold Hid
      cases t using Tr.el with
      | nil => rfl
      | node c l p r => have : c = false := hred; subst this; rfl
    go_enter Try.func89, Try.ntmps89
    go_wp2_with (go_at_call 94; refine (wred_any t i base B v N _ hz h h1).mono ?_; rw [hred]; rintro e w' ⟨rfl, rfl⟩)
    go_ret
    exact ⟨i, v, [], rfl, by simpa using h.out, by rw [hblk.out]; simpa using h1.out, Grw.refl _ _ _, by simp⟩
  | true =>
    cases t using Tr.el with
    | nil => cases hred
    | node c l p r =>
      have hc : c = true := hred
      subst hc
      obtain ⟨j, li, ri, e, hj, hl, hr⟩ := h1.out
      subst e
      obtain ⟨g, cap, hv, hc⟩ := h.out.node hj
      subst hv
      have x0 := h.out.cell1
      obtain ⟨ps, po, pl, pn⟩ := p
      have y0 : w.cell? ⟨g, j * 11, none⟩ = some (.int .i64 ps) := hc 0 (by omega)
      have y1 : w.cell? ⟨g, j * 11 + 1, none⟩ = some (.int .i64 po) := hc 1 (by omega)
      have y2 : w.cell? ⟨g, j * 11 + 2, none⟩ = some (.int .i64 pl) := hc 2 (by omega)
      have y3 : w.cell? ⟨g, j * 11 + 3, none⟩ = some (.int .i64 pn) := hc 3 (by omega)
      have y4 : w.cell? ⟨g, j * 11 + 4, none⟩ = some (.bool true) := hc 4 (by omega)
      have y5 : w.cell? ⟨g, j * 11 + 5, none⟩ = some (.int .i64 li) := hc 5 (by omega)
      have y6 : w.cell? ⟨g, j * 11 + 6, none⟩ = some (.int .i64 ri) := hc 6 (by omega)
      obtain ⟨k7, y7⟩ : ∃ k, w.cell? ⟨g, j * 11 + 7, none⟩ = some (.int .i64 k) := ⟨_, hc 7 (by omega)⟩
      obtain ⟨k8, y8⟩ : ∃ k, w.cell? ⟨g, j * 11 + 8, none⟩ = some (.int .i64 k) := ⟨_, hc 8 (by omega)⟩
      obtain ⟨k9, y9⟩ : ∃ k, w.cell? ⟨g, j * 11 + 9, none⟩ = some (.int .i64 k) := ⟨_, hc 9 (by omega)⟩
      obtain ⟨k10, y10⟩ : ∃ k, w.cell? ⟨g, j * 11 + 10, none⟩ = some (.int .i64 k) := ⟨_, hc 10 (by omega)⟩
      have hlt := (List.getElem?_eq_some_iff.1 hj).1
      have j0 : (0 : Int) ≤ (j : Int) := by omega
      have j1 : (j : Int) < (N.length : Int) := by omega
      have HL := Hid.mk' hl
      have HR := Hid.mk' hr
      have hs2 : l.size + r.size ≤ 2097152 := by simp only [Tr.size] at hs; omega
      clear hc hj hl hr
      go_enter Try.func89, Try.ntmps89
      go_wp2_with (first | (go_at_call 94; refine (wred_any _ _ base B _ N _ hz h h1).mono ?_; rw [hred]; rintro e w' ⟨rfl, rfl⟩)
                         | (go_at_call 86; refine (wadd_made l r li ri ⟨ps, po, pl, pn⟩ false base B _ N _ hz hs2 hf.out.2.1 hf.out.1 hf.out.2.2 (h.out.keep (bAlloc (Below.refl _ _) _)) HL.out HR.out (by simp; omega)).mono ?_; rintro e w9 ⟨i9, v9, M9, rfl, a1, a2, a3, a4⟩; have FIN := Hid.mk' (And.intro a1 (And.intro a2 (And.intro a3 a4))); clear a1 a2 a3 a4))
      go_ret
      exact ⟨i9, v9, M9, rfl, FIN.out.1, FIN.out.2.1, (Grw.below (bAlloc (Below.refl _ _) _)).trans FIN.out.2.2.1, FIN.out.2.2.2⟩
end Go.Proofs.Ytcaegdfbbjfgpaa

