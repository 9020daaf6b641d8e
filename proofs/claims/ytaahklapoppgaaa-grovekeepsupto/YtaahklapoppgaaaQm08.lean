/- change.edit. -/
import Derived.Test.YtaahklapoppgaaaQm05
import Derived.Test.YtaahklapoppgaaaQm07
import Derived.Shelf.Abstract
import Derived.Shelf.RegionOpen
import Derived.OwnWalkIn
import Derived.TacticsInMore
import Derived.LoopNIn
import Derived.LoopIn
namespace Go.Proofs.Ytaahklapoppgaaa
open Go.RowKit

set_option maxRecDepth 8000
/-- an edit whose texts are rows of its own -/
structure Oe (W : World) (base : Nat) (r : Er) : Prop where
  t1 : W.ownsRow base 5 1 (.slice r.p1 r.o r.c1) r.o (bv r.O)
  t2 : W.ownsRow base 5 1 (.slice r.p2 r.n r.c2) r.n (bv r.N)
  far : Far (.slice r.p1 r.o r.c1) (.slice r.p2 r.n r.c2)
  b1 : r.o ≤ 140737488355328
  b2 : r.n ≤ 140737488355328
theorem own_tx' {w : World} {base n c : Nat} {ao : Option Addr} {l : List UInt8} (h : w.ownsRow base 5 1 (.slice ao n c) n (bv l)) (hb : n ≤ 140737488355328) : Tx w ao n c l := by
  obtain ⟨ao', c', e, hT⟩ := own_tx h (by omega)
  simp at e
  obtain ⟨rfl, rfl⟩ := e
  exact hT
theorem Oe.et {W : World} {base : Nat} {r : Er} (h : Oe W base r) : Et W r := ⟨own_tx' h.t1 h.b1, own_tx' h.t2 h.b2, h.b1, h.b2⟩
theorem Oe.keep {W W' : World} {base : Nat} {r : Er} (h : Oe W base r) (hb : Below W.heap.size W W') : Oe W' base r := ⟨own_keep h.t1 hb, own_keep h.t2 hb, h.far, h.b1, h.b2⟩
theorem Oe.low {W : World} {base base' : Nat} {r : Er} (h : Oe W base r) (hb : base' ≤ base) : Oe W base' r := ⟨own_lower h.t1 hb, own_lower h.t2 hb, h.far, h.b1, h.b2⟩
theorem Oe.grown {W W' : World} {base B : Nat} {r : Er} (h : Oe W base r) (hg : W.grownBy W' (some B)) (hB : B < base) : Oe W' base r :=
  ⟨h.t1.kept hg (by rw [show (some B : Option Nat) = some B from rfl]; cases e : (Value.slice r.p1 r.o r.c1).ownBlock with
    | none => exact .inl rfl
    | some k => exact .inr (by have := (h.t1.lt k e).1; intro e'; injection e' with e'; omega)),
   h.t2.kept hg (by cases e : (Value.slice r.p2 r.n r.c2).ownBlock with
    | none => exact .inl rfl
    | some k => exact .inr (by have := (h.t2.lt k e).1; intro e'; injection e' with e'; omega)), h.far, h.b1, h.b2⟩
/-- a new edit -/
def NewE (d : Ed) (w : World) (e : Ending) (w' : World) : Prop := ∃ r : Er, e = .returned (.agg r.cs) ∧ r.d = d ∧ Oe w' w.heap.size r ∧ Below w.heap.size w w'
set_option maxHeartbeats 4000000 in
theorem edit_any (a : Int) (a1 : Option Addr) (n1 c1 : Nat) (O : List UInt8) (a2 : Option Addr) (n2 c2 : Nat) (N : List UInt8) (w : World) (h1 : Hid (Tx w a1 n1 c1 O)) (h2 : Hid (Tx w a2 n2 c2 N)) (b1 : n1 ≤ 140737488355328) (b2 : n2 ≤ 140737488355328) :
    Calls Try.prog 62 #[.int .i64 a, .slice a1 n1 c1, .slice a2 n2 c2] w fun e w' => NewE ⟨a, O, N⟩ w e w' := by
  generalize hW1 : w.alloc (.cells #[.int .i64 0, .slice none 0 0, .slice none 0 0] 77) = W1
  have K1 : Hid (Blk W1 w.heap.size 77 #[.int .i64 0, .slice none 0 0, .slice none 0 0]) := by subst hW1; exact Blk.new w 77 _
  have L1 : Hid (Below w.heap.size w W1) := by subst hW1; exact bAlloc (Below.refl _ _) _
  have Z1 : Hid (w.heap.size < W1.heap.size) := by subst hW1; unfold Hid; simp
  obtain ⟨q, hq⟩ : ∃ q, q = w.heap.size := ⟨_, rfl⟩
  have HQ := mkH hq
  have C1 := mkH (clone_any a1 n1 c1 O W1 b1 (h1.out.keep L1.out))
  have C2 := mkH (fun W (hW : Below W1.heap.size W1 W) => clone_any a2 n2 c2 N W b2 ((h2.out.keep L1.out).keep hW))
  have hqr : w.heap.size = q := hq.symm
  clear hq
  go_enter Try.func62, Try.ntmps62
  go_upto_region 1 with fail
  clear hW1
  go_wp2_with fail
  refine C1.out.mono ?_
  rintro e w2 ⟨v1, rfl, hO1, hB1⟩
  obtain ⟨p1, d1, rfl⟩ := own_shape hO1
  have O1 := mkH hO1
  have B1 := mkH hB1
  clear hO1 hB1 C1
  dsimp only
  go_wp2_with fail
  refine (C2.out w2 B1.out).mono ?_
  rintro e w3 ⟨v2, rfl, hO2, hB2⟩
  obtain ⟨p2, d2, rfl⟩ := own_shape hO2
  have O2 := mkH hO2
  have B2 := mkH hB2
  have K3 : Hid (Blk w3 q 77 #[.int .i64 0, .slice none 0 0, .slice none 0 0]) := by unfold Hid; rw [HQ.out]; exact (K1.out.keep B1.out).keep B2.out
  clear hO2 hB2 C2 K1
  have k0 : w3.cell? ⟨q, 0, none⟩ = some (.int .i64 0) := K3.out.cell rfl
  have k1 : w3.cell? ⟨q, 1, none⟩ = some (.slice none 0 0) := K3.out.cell rfl
  have k2 : w3.cell? ⟨q, 2, none⟩ = some (.slice none 0 0) := K3.out.cell rfl
  have f0 : w3.frozen? ⟨q, 0, none⟩ = false := K3.out.frozen _
  have f1 : w3.frozen? ⟨q, 1, none⟩ = false := K3.out.frozen _
  have f2 : w3.frozen? ⟨q, 2, none⟩ = false := K3.out.frozen _
  have hl1 : Hid (O.length = n1) := h1.out.len
  have hl2 : Hid (N.length = n2) := h2.out.len
  dsimp only
  go_wp2
  have K4 := ((K3.out.set (j := 0) (.int .i64 a)).set (j := 1) (.slice p1 n1 d1)).set (j := 2) (.slice p2 n2 d2)
  have G4 : w3.grownBy (((w3.setCell ⟨q, 0, none⟩ (.int .i64 a)).setCell ⟨q, 1, none⟩ (.slice p1 n1 d1)).setCell ⟨q, 2, none⟩ (.slice p2 n2 d2)) (some q) := ((grown_set _ _ _ _).trans (grown_set _ _ _ _)).trans (grown_set _ _ _ _)
  have e0 := K4.cell (j := 0) rfl
  have e1 := K4.cell (j := 1) rfl
  have e2 := K4.cell (j := 2) rfl
  have hoe : Oe w3 W1.heap.size ⟨a, p1, n1, d1, O, p2, n2, d2, N⟩ := ⟨own_keep O1.out B2.out, own_lower O2.out B1.out.size, far_new O1.out O2.out, b1, b2⟩
  have hoe2 := (hoe.grown G4 (by rw [HQ.out]; exact Z1.out)).low L1.out.size
  have hbb : Below w.heap.size w w3 := bT L1.out (bT B1.out B2.out)
  have hb4 := hbb.grown G4 hbb.size (fun k hk => by injection hk with hk; rw [← hk, HQ.out]; exact Nat.le_refl _)
  generalize ((w3.setCell ⟨q, 0, none⟩ (.int .i64 a)).setCell ⟨q, 1, none⟩ (.slice p1 n1 d1)).setCell ⟨q, 2, none⟩ (.slice p2 n2 d2) = w4 at *
  exact bodyPost_ret (v := .agg #[.int .i64 a, .slice p1 n1 d1, .slice p2 n2 d2]) (by simp [results, Try.results62, go_sem, e0, e1, e2]) rfl ⟨⟨a, p1, n1, d1, O, p2, n2, d2, N⟩, rfl, rfl, hoe2, hb4⟩
end Go.Proofs.Ytaahklapoppgaaa

/- A list of edits of one's own: the list and all its texts are rows that lie apart. -/
namespace Go.Proofs.Ytaahklapoppgaaa
open Go.RowKit

set_option maxRecDepth 8000
def Er.r1 (r : Er) : Rw := ⟨5, 1, .slice r.p1 r.o r.c1, r.o, bv r.O⟩
def Er.r2 (r : Er) : Rw := ⟨5, 1, .slice r.p2 r.n r.c2, r.n, bv r.N⟩
/-- the texts' rows -/
def rowsE (F : List Er) : List Rw := F.flatMap fun r => [r.r1, r.r2]
theorem rowsE_snoc (F : List Er) (r : Er) : rowsE (F ++ [r]) = rowsE F ++ [r.r1] ++ [r.r2] := by simp [rowsE]
theorem rowsE_len (F : List Er) : (rowsE F).length = F.length * 2 := by
  induction F with
  | nil => rfl
  | cons r F ih => show ([r.r1, r.r2] ++ rowsE F).length = _; rw [List.length_append, ih, List.length_cons]; simp; omega
theorem rowsE_at {F : List Er} {k : Nat} {r : Er} (h : F[k]? = some r) : (rowsE F)[k * 2]? = some r.r1 ∧ (rowsE F)[k * 2 + 1]? = some r.r2 := by
  induction F generalizing k with
  | nil => simp at h
  | cons x F ih =>
    cases k with
    | zero => simp at h; subst h; exact ⟨rfl, rfl⟩
    | succ k =>
      rw [List.getElem?_cons_succ] at h
      obtain ⟨h1, h2⟩ := ih h
      have e : ∀ j, (rowsE (x :: F))[(k + 1) * 2 + j]? = (rowsE F)[k * 2 + j]? := fun j => by
        show ([x.r1, x.r2] ++ rowsE F)[(k + 1) * 2 + j]? = _
        rw [List.getElem?_append_right (by simp; omega)]
        congr 1; simp; omega
      exact ⟨(e 0).trans h1, (e 1).trans h2⟩
/-- a list of edits of one's own -/
structure Lst (w W : World) (v : Value) (F : List Er) : Prop where
  rws : Rws w W (⟨77, 3, v, F.length, ecs F⟩ :: rowsE F)
  bnd : ∀ r ∈ F, r.o ≤ 140737488355328 ∧ r.n ≤ 140737488355328
theorem Lst.keep {w W W' : World} {v : Value} {F : List Er} (h : Lst w W v F) (hb : Below W.heap.size W W') : Lst w W' v F := ⟨h.rws.keep hb, h.bnd⟩
theorem Lst.own {w W : World} {v : Value} {F : List Er} (h : Lst w W v F) : W.ownsRow w.heap.size 77 3 v F.length (ecs F) := h.rws.own 0 _ rfl
theorem Lst.bel {w W : World} {v : Value} {F : List Er} (h : Lst w W v F) : Below w.heap.size w W := h.rws.bel
theorem Lst.nil (w : World) : Lst w w (.slice none 0 0) [] :=
  ⟨⟨fun i r hi => by
      match i, hi with
      | 0, hi => simp at hi; subst hi; exact ⟨rfl, .inl ⟨rfl, rfl⟩⟩
      | i + 1, hi => simp [rowsE] at hi,
    fun i j p q hij hi hj => by
      match i, j, hi, hj with
      | 0, 0, _, _ => exact absurd rfl hij
      | i + 1, _, hi, _ => simp [rowsE] at hi
      | 0, j + 1, _, hj => simp [rowsE] at hj, Below.refl _ _⟩, fun r hr => by simp at hr⟩
theorem Lst.oe {w W : World} {v : Value} {F : List Er} (h : Lst w W v F) {k : Nat} {r : Er} (hk : F[k]? = some r) : Oe W w.heap.size r := by
  obtain ⟨h1, h2⟩ := rowsE_at hk
  have b := h.bnd r (List.mem_of_getElem? hk)
  exact ⟨h.rws.own (k * 2 + 1) _ h1, h.rws.own (k * 2 + 1 + 1) _ h2, h.rws.far (k * 2 + 1) (k * 2 + 1 + 1) _ _ (by omega) h1 h2, b.1, b.2⟩
theorem Lst.edz {w W : World} {v : Value} {F : List Er} (h : Lst w W v F) : ∃ ao c, v = .slice ao F.length c ∧ Edz W ao F ∧ (ao = none → c = 0) := by
  have hl := h.own
  obtain ⟨ao, c, rfl, hE, -⟩ := own_edr hl
  refine ⟨ao, c, rfl, ⟨hE, fun k r hk => (h.oe hk).et⟩, fun e => ?_⟩
  subst e
  rcases hl.2 with ⟨e, _⟩ | ⟨g, cap, cur, e, _⟩
  · simp at e; exact e.2
  · simp at e
/-- an edit more -/
theorem Lst.snoc {w W W' W'' : World} {v v' : Value} {F : List Er} {r : Er} (h : Lst w W v F) (hb : Below W.heap.size W W') (ho : Oe W' W.heap.size r) (hg : W'.grownBy W'' v.ownBlock) (hv : W''.ownsRow w.heap.size 77 3 v' (F.length + 1) (ecs F ++ r.cs.toList))
    (hf : v'.ownBlock = v.ownBlock ∨ ∃ q, v'.ownBlock = some q ∧ W'.heap.size ≤ q) : Lst w W'' v' (F ++ [r]) := by
  have h2 := h.rws.new2 hb ho.t1 ho.t2 ho.far.ne
  have h3 := h2.grow (i := 0) (r := ⟨77, 3, v, F.length, ecs F⟩) rfl hg hv hf
  refine ⟨?_, fun x hx => ?_⟩
  · rw [rowsE_snoc, ecs_snoc, List.length_append]
    exact h3
  · rcases List.mem_append.1 hx with hx | hx
    · exact h.bnd x hx
    · simp at hx; subst hx; exact ⟨ho.b1, ho.b2⟩
/-- append of an edit to a list of one's own -/
theorem app_ed {w : World} (base : Nat) (v : Value) (n : Nat) (xs : List Value) (hown : w.ownsRow base 77 3 v n xs) (ad : Addr) (r : Er) (hc : ∀ j u, r.cs.toList[j]? = some u → w.cell? (ad.add j) = some u) (hb : (n + 1) * 56 ≤ 140737488355328) (hbase : base ≤ w.heap.size) :
    ∃ v' w', (∀ ty c, (Builtin.append_ #[38, 38] ty #[v, .slice (some ad) 1 c]).run Try.prog w = .ok v' w') ∧ w'.ownsRow base 77 3 v' (n + 1) (xs ++ r.cs.toList) ∧ w.grownBy w' v.ownBlock ∧ (v'.ownBlock = v.ownBlock ∨ ∃ q, v'.ownBlock = some q ∧ w.heap.size ≤ q) := by
  obtain ⟨i8, hi8, hz8, hs8, hb8⟩ := info_parts info38
  obtain ⟨v', w', hr, h2, h3, h4, h5⟩ := run_append_own_at (P := Try.prog) w base 38 38 77 i8 _ 3 56 Try.underlying38 hi8 hz8 hs8 hb8 rfl (by decide) v n xs hown ad 1 1 r.cs.toList (by simp [Er.cs]) hc (er_one r) (by unfold maxLen; omega) (by omega) hbase
  refine ⟨v', w', fun ty c => hr, h2, h3, ?_⟩
  rcases h5 with e | e
  · exact .inl e
  · exact .inr ⟨_, e, Nat.le_refl _⟩
end Go.Proofs.Ytaahklapoppgaaa

/- change.Trim, change.Between. -/
namespace Go.Proofs.Ytaahklapoppgaaa
open Go.RowKit

set_option maxRecDepth 8000
theorem wl_ed {w : World} {ops : Array Oper} {rest : List Oper} {o : Oper} {a : Act} {Q : Exit → Act → World → Prop} (hgd : o.guard = none) (d s : Operand)
    (ho : o.op = .call { callee := .builtin .append, args := #[d, s], argTypes := #[38, 38] }) (v u : Value) (hd : a.eval d = v) (hs : a.eval s = u) {v' : Value} {w' : World}
    (hr : ∀ ty, (Builtin.append_ #[38, 38] ty #[v, u]).run Try.prog w = .ok v' w') (h : wpList Try.prog ops Q rest (a.put o.dst v') w') : wpList Try.prog ops Q (o :: rest) a w :=
  Lib.wpList_append_run w hgd d s 38 38 ho v u hd hs v' w' (hr _) h
theorem Rws.low {w w1 W : World} {R : List Rw} (h : Rws w1 W R) (hb : Below w.heap.size w w1) : Rws w W R :=
  ⟨fun i r hi => own_lower (h.own i r hi) hb.size, h.far, bT hb h.bel⟩
theorem Lst.low {w w1 W : World} {v : Value} {F : List Er} (h : Lst w1 W v F) (hb : Below w.heap.size w w1) : Lst w W v F := ⟨h.rws.low hb, h.bnd⟩
/-- what a call that makes a list of edits gives -/
def LstP (D : List Ed) (w : World) (e : Ending) (w' : World) : Prop := ∃ v F, e = .returned v ∧ F.map Er.d = D ∧ Lst w w' v F
theorem trim_snoc (D : List Ed) (d : Ed) : trim (D ++ [d]) = trim D ++ (if (d.O == d.N) = true then [] else [cut d]) := by
  unfold trim
  rw [List.filter_append, List.map_append]
  congr 1
  by_cases h : d.O = d.N
  · simp [h]
  · have h2 : (d.O == d.N) = false := by simpa using h
    have h3 : (d.O != d.N) = true := by simp [bne, h2]
    simp [h2, List.filter, h3]
theorem map_take {E : List Er} {i : Nat} {r : Er} (h : E[i]? = some r) : (E.map Er.d).take (i + 1) = (E.map Er.d).take i ++ [r.d] := by
  have hd : (E.map Er.d)[i]? = some r.d := by rw [List.getElem?_map, h]; rfl
  obtain ⟨hi, e⟩ := List.getElem?_eq_some_iff.1 hd
  rw [List.take_succ_eq_append_getElem hi, e]
end Go.Proofs.Ytaahklapoppgaaa

/- slices.Backward of edits, as an iterator. -/
namespace Go.Proofs.Ytaahklapoppgaaa
open Go.RowKit Go.Shelf
attribute [local go_sem] Oper.semAt_some

set_option maxRecDepth 8000
set_option maxHeartbeats 1000000 in
theorem backward_any (ao : Option Addr) (n c : Nat) (w : World) :
    Calls Try.prog 61 #[.slice ao n c] w fun e w' => e = .returned (.func (.func 77) #[] #[.pointer (some ⟨w.heap.size, 0, none⟩)]) ∧ w' = w.alloc (.cells #[.slice ao n c] 38) := by
  go_enter Try.func61, Try.ntmps61
  go_wp2
  go_ret
  exact ⟨rfl, rfl⟩
theorem blk_cell1 {W : World} {B t : Nat} {v : Value} (h : Blk W B t #[v]) : W.cell? ⟨B, 0, none⟩ = some v := h.cell rfl
/-- what the iterator reads -/
structure Bk (N : Nat → Prop) (W : World) (Bs : Nat) (eo : Option Addr) (en ec : Nat) (E : List Er) : Prop where
  box : Blk W Bs 38 #[.slice eo en ec]
  row : Edr W eo E
  ns : N Bs
  ne : 0 < E.length → ∀ g o, eo = some ⟨g, o, none⟩ → N g
theorem Bk.rnd {N : Nat → Prop} {W W' : World} {lo hi Bs en ec : Nat} {eo : Option Addr} {E : List Er} (h : Bk N W Bs eo en ec E) (hr : Rnd N lo hi W W') : Bk N W' Bs eo en ec E := by
  refine ⟨?_, fun k r hk => ?_, h.ns, h.ne⟩
  · unfold Blk; rw [hr.block Bs h.box.lt (.inl h.ns)]; exact h.box
  · obtain ⟨g, o, h0, h1, h2, h3⟩ := h.row k r hk
    have hb := hr.block g (lt_of_cell h1) (.inl (h.ne (by have := (List.getElem?_eq_some_iff.1 hk).1; omega) g o h0))
    exact ⟨g, o, h0, by rw [World.cell?_of_block hb]; exact h1, by rw [World.cell?_of_block hb]; exact h2, by rw [World.cell?_of_block hb]; exact h3⟩
theorem rev_take {E : List Er} {k : Nat} {r : Er} (hk : k < E.length) (hr : E[E.length - 1 - k]? = some r) : E.reverse.take (k + 1) = E.reverse.take k ++ [r] := by
  have h : E.reverse[k]? = some r := by rw [List.getElem?_reverse hk]; exact hr
  obtain ⟨hi, e⟩ := List.getElem?_eq_some_iff.1 h
  rw [List.take_succ_eq_append_getElem hi, e]
set_option maxHeartbeats 4000000 in
theorem backward_seq (N : Nat → Prop) (w : World) (Bs : Nat) (eo : Option Addr) (en ec : Nat) (E : List Er) (hK : Bk N w Bs eo en ec E) (hn : E.length = en) (hen : en ≤ 140737488355328) :
    SeqC Fence.wide Try.prog 77 #[.pointer (some ⟨Bs, 0, none⟩)] (fun i (x : Er) => #[.int .i64 ((en - 1 - i : Nat) : Int), .agg x.cs]) 0 N E.reverse w := fun n l J Jx W hW _ _ hY h0 => by
  have hK0 : Bk N W Bs eo en ec E := ⟨hK.box.keep hW, hK.row.keep hW, hK.ns, hK.ne⟩
  have HK := mkH hK0
  have HN := mkH hn
  have HY := mkH hY
  have H0 := mkH h0
  clear hY h0 hK hW
  have hc0 := blk_cell1 hK0.box
  clear hK0
  refine callsIn_of_wp Try.func77 rfl trivial ?_ rfl
  simp only [Try.ntmps77, List.size_toArray, List.length_cons, List.length_nil, Nat.reduceAdd, Nat.reduceSub, Array.replicate_succ, Array.replicate_zero, List.push_toArray, List.append_toArray, List.nil_append, List.cons_append]
  have hw0 : IntKind.i64.wrap ((en : Int) - 1) = (en : Int) - 1 := by rw [IntKind.wrap_i64]; omega
  gi_wp2
  gi_loopw [3] (fun i wr => ∃ k : Nat, k ≤ en ∧ i = .int .i64 ((en : Int) - 1 - (k : Int)) ∧ Hid (J (E.reverse.take k) wr) ∧ Hid (Bk N wr Bs eo en ec E) ∧ Hid (W.heap.size ≤ wr.heap.size))
    (fun i _ => ((intOf i) + 1).toNat)
  case atStart => exact ⟨0, Nat.zero_le _, by simp, by unfold Hid; rw [List.take_zero]; exact H0.out, HK.out, Nat.le_refl _⟩
  case round =>
    obtain ⟨k, hk, rfl, HJ, KK, KS⟩ := hrel
    by_cases hlt : k < en
    · obtain ⟨j, hj⟩ : ∃ j, j = en - 1 - k := ⟨_, rfl⟩
      have e1 : (en : Int) - 1 - (k : Int) = (j : Int) := by omega
      obtain ⟨r, hr⟩ : ∃ r, E[j]? = some r := ⟨_, List.getElem?_eq_getElem (by have := HN.out; omega)⟩
      have hrt := rev_take (E := E) (k := k) (r := r) (by have := HN.out; omega) (by rw [HN.out, ← hj]; exact hr)
      have hpl : (E.reverse.take k).length = k := by rw [List.length_take, List.length_reverse]; have := HN.out; omega
      obtain ⟨g, o, rfl, h3⟩ := KK.out.row.ed3 hr
      obtain ⟨fn, tmps, assign, body, hy, hR⟩ := HY.out (n - 1) (E.reverse.take k) r wr HJ.out (by have := KS.out; omega) (by rw [← hrt]; exact List.take_prefix _ _)
      rw [hpl, ← hj] at hy
      obtain ⟨ra, rp1, ro, rc1, rO, rp2, rn, rc2, rN⟩ := r
      dsimp only [Er.cs] at hy h3
      have t0 := h3.e0
      have t1 := h3.e1
      have t2 := h3.e2
      have tb := blk_cell1 KK.out.box
      have hj0 : (0 : Int) ≤ (j : Int) := by omega
      have hj1 : (j : Int) < (en : Int) := by omega
      have hw1 : IntKind.i64.wrap ((j : Int) - 1) = (j : Int) - 1 := by rw [IntKind.wrap_i64]; omega
      have HRT := mkH hrt
      have HJJ := mkH hj
      rw [e1]
      clear h3 hrt hpl hr e1 hj
      gi_wp2
      refine ⟨fun h => (by cases h), ?_⟩
      refine hR.mono ?_
      rintro e W3 (⟨rfl, hJ3, hk3⟩ | ⟨rfl, hJx3, hk3⟩)
      · have J3 : Hid (J (E.reverse.take (k + 1)) W3) := by unfold Hid; rw [HRT.out]; exact hJ3
        have K3 : Hid (Bk N W3 Bs (some ⟨g, o, none⟩) en ec E) := KK.out.rnd hk3
        have S3 : Hid (W.heap.size ≤ W3.heap.size) := Nat.le_trans KS.out hk3.size
        clear hJ3 hk3
        gi_wp2
        go_roundw
        case rel => exact ⟨k + 1, by omega, by have := HJJ.out; simp; omega, J3.out, K3.out, S3.out⟩
        case measure => simp [intOf]
      · have J3 : Hid (Jx (E.reverse.take (k + 1)) W3) := by unfold Hid; rw [HRT.out]; exact hJx3
        clear hJx3 hk3
        gi_wp2
        refine bodyPost_ret (results_none rfl _ _ _) rfl ?_
        exact ⟨⟨_, rfl⟩, .inr ⟨_, List.take_prefix _ _, J3.out⟩⟩
    · have e1 : (en : Int) - 1 - (k : Int) = -1 := by omega
      have JF : Hid (J E.reverse wr) := by
        have := HJ.out
        rw [List.take_of_length_le (by rw [List.length_reverse]; have := HN.out; omega)] at this
        exact this
      rw [e1]
      clear e1
      gi_wp2
      go_end0
      exact ⟨⟨_, rfl⟩, .inl JF.out⟩
end Go.Proofs.Ytaahklapoppgaaa

