/- Blocks of own variables (out of Look1). -/
import Derived.Test.YtmhpeppbhjpkiaaGreatPm04
import Derived.Test.YtmhpeppbhjpkiaaGreatPm06
import Derived.Deep.CutRange
import Derived.Deep.LoopGhost
import Derived.OwnWalk
import Derived.ArgAppend
namespace Go.Proofs.YtmhpeppbhjpkiaaGreat
open Go.RowKit

theorem Hid.mk' {p : Prop} (h : p) : Hid p := h
/-- a block of six cells, of ten -/
def Blk (W : World) (B : Nat) (e : Nat) (cs : Array Value) : Prop := W.heap[B]? = some (.cells cs e (0, 0))
theorem Blk.cell {W : World} {B e j : Nat} {cs : Array Value} {v : Value} (h : Blk W B e cs) (hj : cs[j]? = some v) : W.cell? ⟨B, j, none⟩ = some v := by
  rw [cell_of_row W B j cs e (0, 0) h]; exact hj
theorem Blk.frozen {W : World} {B e : Nat} {cs : Array Value} (h : Blk W B e cs) (j : Nat) : W.frozen? ⟨B, j, none⟩ = false := frozen_of_row W B j cs e h
theorem Blk.lt {W : World} {B e : Nat} {cs : Array Value} (h : Blk W B e cs) : B < W.heap.size := (Array.getElem?_eq_some_iff.1 h).1
theorem Blk.keep {W W' : World} {B e : Nat} {cs : Array Value} (h : Blk W B e cs) (hb : Below W.heap.size W W') : Blk W' B e cs := by unfold Blk; rw [hb.block B h.lt]; exact h
theorem Blk.alloc {W : World} {B e : Nat} {cs : Array Value} (h : Blk W B e cs) (o : Obj) : Blk (W.alloc o) B e cs := h.keep (bAlloc (Below.refl _ _) o)
theorem Blk.new (W : World) (e : Nat) (cs : Array Value) : Blk (W.alloc (.cells cs e)) W.heap.size e cs := heap_alloc_new W _
def put6 (W : World) (B : Nat) (a0 a1 a2 a3 a4 a5 : Value) : World := (((((W.setCell ⟨B, 0, none⟩ a0).setCell ⟨B, 1, none⟩ a1).setCell ⟨B, 2, none⟩ a2).setCell ⟨B, 3, none⟩ a3).setCell ⟨B, 4, none⟩ a4).setCell ⟨B, 5, none⟩ a5
theorem Blk.put {W : World} {B e : Nat} {x0 x1 x2 x3 x4 x5 : Value} (h : Blk W B e #[x0, x1, x2, x3, x4, x5]) (a0 a1 a2 a3 a4 a5 : Value) : Blk (put6 W B a0 a1 a2 a3 a4 a5) B e #[a0, a1, a2, a3, a4, a5] :=
  heap_setCell_same _ _ _ _ _ _ (heap_setCell_same _ _ _ _ _ _ (heap_setCell_same _ _ _ _ _ _ (heap_setCell_same _ _ _ _ _ _ (heap_setCell_same _ _ _ _ _ _ (heap_setCell_same _ _ _ _ _ _ h)))))
theorem Blk.far {W : World} {B B' e : Nat} {cs : Array Value} (h : Blk W B' e cs) (hne : B' ≠ B) (a0 a1 a2 a3 a4 a5 : Value) : Blk (put6 W B a0 a1 a2 a3 a4 a5) B' e cs := by
  unfold Blk put6
  rw [heap_setCell_other _ _ _ _ hne, heap_setCell_other _ _ _ _ hne, heap_setCell_other _ _ _ _ hne, heap_setCell_other _ _ _ _ hne, heap_setCell_other _ _ _ _ hne, heap_setCell_other _ _ _ _ hne]; exact h
theorem put6_below {a W : World} {n B : Nat} (h : Below n a W) (hb : n ≤ B) (a0 a1 a2 a3 a4 a5 : Value) : Below n a (put6 W B a0 a1 a2 a3 a4 a5) :=
  (((((h.setCell hb a0).setCell hb a1).setCell hb a2).setCell hb a3).setCell hb a4).setCell hb a5
theorem blk6 {W : World} {B e : Nat} {x0 x1 x2 x3 x4 x5 : Value} (h : Blk W B e #[x0, x1, x2, x3, x4, x5]) : W.cell? ⟨B, 0, none⟩ = some x0 ∧ W.cell? ⟨B, 1, none⟩ = some x1 ∧ W.cell? ⟨B, 2, none⟩ = some x2 ∧ W.cell? ⟨B, 3, none⟩ = some x3 ∧ W.cell? ⟨B, 4, none⟩ = some x4 ∧ W.cell? ⟨B, 5, none⟩ = some x5 :=
  ⟨h.cell rfl, h.cell rfl, h.cell rfl, h.cell rfl, h.cell rfl, h.cell rfl⟩
theorem bT {a b c : World} (h : Below a.heap.size a b) (k : Below b.heap.size b c) : Below a.heap.size a c := h.trans (k.mono h.size)
theorem own_keep' {w w' : World} {base e size n : Nat} {v : Value} {xs : List Value} (h : w.ownsRow base e size v n xs) (hb : Below w.heap.size w w') : w'.ownsRow base e size v n xs := by
  refine ⟨h.1, ?_⟩
  rcases h.2 with h0 | ⟨g, cap, cur, rfl, hb', hg, rest⟩
  · exact .inl h0
  · exact .inr ⟨g, cap, cur, rfl, hb', by rw [hb.block g (Array.getElem?_eq_some_iff.1 hg).1]; exact hg, rest⟩
theorem put6_cell {W : World} {g B : Nat} (hne : ¬ g = B) (a0 a1 a2 a3 a4 a5 : Value) (j : Nat) : (put6 W B a0 a1 a2 a3 a4 a5).cell? ⟨g, j, none⟩ = W.cell? ⟨g, j, none⟩ := by
  have h : ((put6 W B a0 a1 a2 a3 a4 a5).heap[g]?) = W.heap[g]? := by
    unfold put6
    rw [heap_setCell_other _ _ _ _ hne, heap_setCell_other _ _ _ _ hne, heap_setCell_other _ _ _ _ hne, heap_setCell_other _ _ _ _ hne, heap_setCell_other _ _ _ _ hne, heap_setCell_other _ _ _ _ hne]
  exact World.cell?_of_block (a := ⟨g, j, none⟩) h
theorem six_far {W : World} {g B : Nat} (hne : ¬ g = B) {a0 a1 a2 a3 a4 a5 c0 c1 c2 c3 c4 c5 : Value} (h : W.cell? ⟨g, 0, none⟩ = some c0 ∧ W.cell? ⟨g, 1, none⟩ = some c1 ∧ W.cell? ⟨g, 2, none⟩ = some c2 ∧ W.cell? ⟨g, 3, none⟩ = some c3 ∧ W.cell? ⟨g, 4, none⟩ = some c4 ∧ W.cell? ⟨g, 5, none⟩ = some c5) :
    (put6 W B a0 a1 a2 a3 a4 a5).cell? ⟨g, 0, none⟩ = some c0 ∧ (put6 W B a0 a1 a2 a3 a4 a5).cell? ⟨g, 1, none⟩ = some c1 ∧ (put6 W B a0 a1 a2 a3 a4 a5).cell? ⟨g, 2, none⟩ = some c2 ∧ (put6 W B a0 a1 a2 a3 a4 a5).cell? ⟨g, 3, none⟩ = some c3 ∧ (put6 W B a0 a1 a2 a3 a4 a5).cell? ⟨g, 4, none⟩ = some c4 ∧ (put6 W B a0 a1 a2 a3 a4 a5).cell? ⟨g, 5, none⟩ = some c5 := by
  rw [put6_cell hne, put6_cell hne, put6_cell hne, put6_cell hne, put6_cell hne, put6_cell hne]; exact h
theorem drew_cell (W : World) (p : Addr) : W.drew.cell? p = W.cell? p := rfl
end Go.Proofs.YtmhpeppbhjpkiaaGreat

/- The reference's wood: nodes in a list; how it lies in memory; which trees it holds. -/
namespace Go.Proofs.YtmhpeppbhjpkiaaGreat
open Go.RowKit

/-- a node of the wood -/
structure Nd where
  p : Pc
  red : Bool
  l : Int
  r : Int
  cnt : Int
  byt : Int
  lin : Int
  bh : Int
def Nd.cs (x : Nd) : List Value := [.int .i64 x.p.s, .int .i64 x.p.o, .int .i64 x.p.l, .int .i64 x.p.n, .bool x.red, .int .i64 x.l, .int .i64 x.r, .int .i64 x.cnt, .int .i64 x.byt, .int .i64 x.lin, .int .i64 x.bh]
def ndcells (N : List Nd) : List Value := N.flatMap Nd.cs
theorem ndcells_length (N : List Nd) : (ndcells N).length = N.length * 11 := by
  induction N with
  | nil => rfl
  | cons p M ih => simp only [ndcells, List.flatMap_cons, List.length_append, List.length_cons] at *; rw [ih]; simp [Nd.cs]; omega
theorem ndcells_append (N M : List Nd) : ndcells (N ++ M) = ndcells N ++ ndcells M := by simp [ndcells]
theorem ndcells_at {N : List Nd} {j : Nat} {q : Nd} (h : N[j]? = some q) (i : Nat) (hi : i < 11) : (ndcells N)[j * 11 + i]? = q.cs[i]? := by
  induction N generalizing j with
  | nil => simp at h
  | cons r M ih =>
    have e : ndcells (r :: M) = r.cs ++ ndcells M := by simp [ndcells]
    rw [e]
    cases j with
    | zero =>
      simp at h; subst h
      rw [Nat.zero_mul, Nat.zero_add, List.getElem?_append_left (by simp [Nd.cs]; omega)]
    | succ j =>
      rw [List.getElem?_cons_succ] at h
      rw [List.getElem?_append_right (by simp [Nd.cs]; omega)]
      rw [← ih h]
      congr 1
      simp [Nd.cs]; omega
theorem nd_one (x : Nd) : ∀ u ∈ x.cs, u.oneCell' = true := by
  intro u hu
  simp only [Nd.cs, List.mem_cons, List.not_mem_nil, or_false] at hu
  rcases hu with rfl | rfl | rfl | rfl | rfl | rfl | rfl | rfl | rfl | rfl | rfl <;> rfl
theorem info118 : (Tryz.prog.info? 151).map (fun i => (i.zero, i.size, i.bytes)) = some (some (.agg #[.int .i64 0, .int .i64 0, .int .i64 0, .int .i64 0, .bool false, .int .i64 0, .int .i64 0, .int .i64 0, .int .i64 0, .int .i64 0, .int .i64 0]), 11, 88) := by kernel_rfl

/-- the node that a tree's root is -/
def ndOf (c : Bool) (l : Tr) (p : Pc) (r : Tr) (li ri : Int) : Nd := ⟨p, c, li, ri, ((Tr.mk (some (c, l, p, r))).size : Nat), (Tr.mk (some (c, l, p, r))).byt, (Tr.mk (some (c, l, p, r))).lin, ((Tr.mk (some (c, l, p, r))).bh : Nat)⟩
/-- the tree t is number i of the wood -/
def Is (N : List Nd) : Tr → Int → Prop
  | (Tr.mk none), i => i = -1
  | (Tr.mk (some (c, l, p, r))), i => ∃ (j : Nat) (li ri : Int), i = j ∧ N[j]? = some (ndOf c l p r li ri) ∧ Is N l li ∧ Is N r ri
theorem Is.more {N : List Nd} (M : List Nd) : ∀ {t : Tr} {i : Int}, Is N t i → Is (N ++ M) t i
  | (Tr.mk none), _, h => h
  | (Tr.mk (some (c, l, p, r))), _, ⟨j, li, ri, e, h, h1, h2⟩ => ⟨j, li, ri, e, by rw [List.getElem?_append_left (List.getElem?_eq_some_iff.1 h).1]; exact h, h1.more M, h2.more M⟩
theorem Is.nil_iff {N : List Nd} {i : Int} (h : Is N (Tr.mk none) i) : i = -1 := h
theorem Is.range {N : List Nd} {t : Tr} {i : Int} (h : Is N t i) : -1 ≤ i ∧ i < N.length := by
  cases t using Tr.el with
  | nil => have := h.nil_iff; omega
  | node c l p r => obtain ⟨j, li, ri, e, h1, -⟩ := h; have := (List.getElem?_eq_some_iff.1 h1).1; omega

/-- the wood at block B: the nodes N in the row v -/
structure Wd (W : World) (base B : Nat) (v : Value) (N : List Nd) : Prop where
  blk : Blk W B 102 #[v]
  own : W.ownsRow base 151 11 v N.length (ndcells N)
  low : base ≤ B
/-- only the wood was changed: nothing old but its block and its row -/
structure Grw (W W' : World) (B : Nat) (v v' : Value) : Prop where
  os : W'.os = W.os
  tape : W'.tape = W.tape
  output : W'.output = W.output
  size : W.heap.size ≤ W'.heap.size
  block : ∀ k, k < W.heap.size → k ≠ B → some k ≠ v.ownBlock → W'.heap[k]? = W.heap[k]?
  fresh : v'.ownBlock = v.ownBlock ∨ ∃ q, v'.ownBlock = some q ∧ W.heap.size ≤ q
theorem Grw.refl (W : World) (B : Nat) (v : Value) : Grw W W B v v := ⟨rfl, rfl, rfl, Nat.le_refl _, fun _ _ _ _ => rfl, .inl rfl⟩
theorem Grw.trans {W W' W'' : World} {B : Nat} {v v' v'' : Value} (h : Grw W W' B v v') (k : Grw W' W'' B v' v'') : Grw W W'' B v v'' := by
  refine ⟨k.os.trans h.os, k.tape.trans h.tape, k.output.trans h.output, Nat.le_trans h.size k.size, fun i hi hB hv => ?_, ?_⟩
  · have hs := h.size
    rw [k.block i (by omega) hB ?_, h.block i hi hB hv]
    rcases h.fresh with e | ⟨q, e, hq⟩
    · rw [e]; exact hv
    · rw [e]; simp; omega
  · rcases k.fresh with e | ⟨q, e, hq⟩
    · rw [e]; exact h.fresh
    · exact .inr ⟨q, e, by have := h.size; omega⟩
theorem Grw.below {W W' : World} {B : Nat} {v : Value} (h : Below W.heap.size W W') : Grw W W' B v v := ⟨h.os, h.tape, h.output, h.size, fun k hk _ _ => h.block k hk, .inl rfl⟩
/-- a block apart from the wood stays -/
theorem Grw.blk {W W' : World} {B k e : Nat} {v v' : Value} {cs : Array Value} (h : Grw W W' B v v') (hk : Blk W k e cs) (h1 : k ≠ B) (h2 : some k ≠ v.ownBlock) : Blk W' k e cs := by
  unfold Blk; rw [h.block k hk.lt h1 h2]; exact hk
/-- what lies below stays -/
theorem Grw.under {W W' : World} {base B : Nat} {v v' : Value} {N : List Nd} (h : Grw W W' B v v') (hw : Wd W base B v N) {w0 : World} (hb : Below base w0 W) (hz : base ≤ W.heap.size) : Below base w0 W' := by
  refine ⟨h.os.trans hb.os, h.tape.trans hb.tape, h.output.trans hb.output, Nat.le_trans hb.size h.size, fun k hk => ?_⟩
  rw [h.block k (by omega) (by have := hw.low; omega) (fun e => by have := (hw.own.lt k e.symm).1; omega)]
  exact hb.block k hk
theorem Wd.keep {W W' : World} {base B : Nat} {v : Value} {N : List Nd} (h : Wd W base B v N) (hb : Below W.heap.size W W') : Wd W' base B v N := ⟨h.blk.keep hb, own_keep' h.own hb, h.low⟩
/-- a node's cells -/
theorem Wd.node {W : World} {base B : Nat} {v : Value} {N : List Nd} {j : Nat} {x : Nd} (h : Wd W base B v N) (hj : N[j]? = some x) : ∃ g cap, v = .slice (some ⟨g, 0, none⟩) N.length cap ∧ (∀ i, i < 11 → W.cell? ⟨g, j * 11 + i, none⟩ = x.cs[i]?) := by
  have hlt := (List.getElem?_eq_some_iff.1 hj).1
  rcases h.own.2 with ⟨_, h0⟩ | ⟨g, cap, cur, e, _⟩
  · omega
  · subst e
    exact ⟨g, cap, rfl, fun i hi => (h.own.cellAt _ (by omega)).trans (ndcells_at hj i hi)⟩
end Go.Proofs.YtmhpeppbhjpkiaaGreat

/- The contracts of the wood's bh, red, size. -/
namespace Go.Proofs.YtmhpeppbhjpkiaaGreat
open Go.RowKit

/-- one number of a node, read -/
theorem Wd.cell1 {W : World} {base B : Nat} {v : Value} {N : List Nd} (h : Wd W base B v N) : W.cell? ⟨B, 0, none⟩ = some v := h.blk.cell rfl

set_option maxHeartbeats 1000000 in
theorem wbh_any (t : Tr) (i : Int) (base B : Nat) (v : Value) (N : List Nd) (w : World) (_hz : N.length ≤ 2097152) (h : Hid (Wd w base B v N)) (hi : Hid (Is N t i)) :
    Calls Tryz.prog 97 #[.pointer (some ⟨B, 0, none⟩), .int .i64 i] w fun e w' => e = .returned (.int .i64 (t.bh : Nat)) ∧ w' = w := by
  cases t using Tr.el with
  | nil =>
    have e := hi.out.nil_iff
    subst e
    clear h hi
    go_enter Tryz.func97, Tryz.ntmps97
    go_wp2
    go_ret
    exact ⟨rfl, rfl⟩
  | node c l p r =>
    obtain ⟨j, li, ri, e, hj, -, -⟩ := hi.out
    subst e
    obtain ⟨g, cap, hv, hc⟩ := h.out.node hj
    subst hv
    have c0 := h.out.cell1
    have c1 := hc 10 (by omega)
    have hlt := (List.getElem?_eq_some_iff.1 hj).1
    have j0 : (0 : Int) ≤ (j : Int) := by omega
    have j1 : (j : Int) < (N.length : Int) := by omega
    have c2 : w.cell? ⟨g, j * 11 + 10, none⟩ = some (.int .i64 (((Tr.mk (some (c, l, p, r))).bh : Nat))) := c1
    clear c1 hc hj h hi hlt
    generalize (((Tr.mk (some (c, l, p, r))).bh : Nat)) = Q at *
    go_enter Tryz.func97, Tryz.ntmps97
    go_wp2
    go_ret
    exact ⟨rfl, rfl⟩

set_option maxHeartbeats 1000000 in
theorem wred_any (t : Tr) (i : Int) (base B : Nat) (v : Value) (N : List Nd) (w : World) (_hz : N.length ≤ 2097152) (h : Hid (Wd w base B v N)) (hi : Hid (Is N t i)) :
    Calls Tryz.prog 125 #[.pointer (some ⟨B, 0, none⟩), .int .i64 i] w fun e w' => e = .returned (.bool t.red) ∧ w' = w := by
  cases t using Tr.el with
  | nil =>
    have e := hi.out.nil_iff
    subst e
    clear h hi
    go_enter Tryz.func125, Tryz.ntmps125
    go_wp2
    go_ret
    exact ⟨rfl, rfl⟩
  | node c l p r =>
    obtain ⟨j, li, ri, e, hj, -, -⟩ := hi.out
    subst e
    obtain ⟨g, cap, hv, hc⟩ := h.out.node hj
    subst hv
    have c0 := h.out.cell1
    have c1 := hc 4 (by omega)
    have hlt := (List.getElem?_eq_some_iff.1 hj).1
    have j0 : (0 : Int) ≤ (j : Int) := by omega
    have j1 : (j : Int) < (N.length : Int) := by omega
    have c2 : w.cell? ⟨g, j * 11 + 4, none⟩ = some (.bool c) := c1
    clear c1 hc hj h hi hlt
    go_enter Tryz.func125, Tryz.ntmps125
    go_wp2
    go_ret
    exact ⟨rfl, rfl⟩

set_option maxHeartbeats 1000000 in
theorem wsize_any (t : Tr) (i : Int) (base B : Nat) (v : Value) (N : List Nd) (w : World) (_hz : N.length ≤ 2097152) (h : Hid (Wd w base B v N)) (hi : Hid (Is N t i)) :
    Calls Tryz.prog 123 #[.pointer (some ⟨B, 0, none⟩), .int .i64 i] w fun e w' => e = .returned (.int .i64 (t.size : Nat)) ∧ w' = w := by
  cases t using Tr.el with
  | nil =>
    have e := hi.out.nil_iff
    subst e
    clear h hi
    go_enter Tryz.func123, Tryz.ntmps123
    go_wp2
    go_ret
    exact ⟨rfl, rfl⟩
  | node c l p r =>
    obtain ⟨j, li, ri, e, hj, -, -⟩ := hi.out
    subst e
    obtain ⟨g, cap, hv, hc⟩ := h.out.node hj
    subst hv
    have c0 := h.out.cell1
    have c1 := hc 7 (by omega)
    have hlt := (List.getElem?_eq_some_iff.1 hj).1
    have j0 : (0 : Int) ≤ (j : Int) := by omega
    have j1 : (j : Int) < (N.length : Int) := by omega
    have c2 : w.cell? ⟨g, j * 11 + 7, none⟩ = some (.int .i64 (((Tr.mk (some (c, l, p, r))).size : Nat))) := c1
    clear c1 hc hj h hi hlt
    generalize (((Tr.mk (some (c, l, p, r))).size : Nat)) = Q at *
    go_enter Tryz.func123, Tryz.ntmps123
    go_wp2
    go_ret
    exact ⟨rfl, rfl⟩
end Go.Proofs.YtmhpeppbhjpkiaaGreat

