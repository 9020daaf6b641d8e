/- Marks in memory: 27 numbers, one behind the other. -/
import Derived.Test.YtdoheblkhnmmiaaBig
import Derived.Deep.MidRow
import Derived.Deep.LoopGhost
import Derived.Deep.RegionHeld3
import Derived.Deep.CutRange
import Derived.Deep.RegionLaw
import Derived.Deep.QuietTactic
namespace Go.Proofs.Ytdoheblkhnmmiaa
open Go.RowKit

def Blk (W : World) (B : Nat) (e : Nat) (cs : Array Value) : Prop := W.heap[B]? = some (.cells cs e (0, 0))
theorem Blk.cell {W : World} {B e j : Nat} {cs : Array Value} {v : Value} (h : Blk W B e cs) (hj : cs[j]? = some v) : W.cell? ⟨B, j, none⟩ = some v := by
  rw [cell_of_row W B j cs e (0, 0) h]; exact hj
theorem Blk.frozen {W : World} {B e : Nat} {cs : Array Value} (h : Blk W B e cs) (j : Nat) : W.frozen? ⟨B, j, none⟩ = false := frozen_of_row W B j cs e h
theorem Blk.lt {W : World} {B e : Nat} {cs : Array Value} (h : Blk W B e cs) : B < W.heap.size := (Array.getElem?_eq_some_iff.1 h).1
theorem Blk.keep {W W' : World} {B e : Nat} {cs : Array Value} (h : Blk W B e cs) (hb : Below W.heap.size W W') : Blk W' B e cs := by unfold Blk; rw [hb.block B h.lt]; exact h
theorem Blk.new (W : World) (e : Nat) (cs : Array Value) : Blk (W.alloc (.cells cs e)) W.heap.size e cs := heap_alloc_new W _
theorem Blk.set {W : World} {B e j : Nat} {cs : Array Value} (h : Blk W B e cs) (v : Value) : Blk (W.setCell ⟨B, j, none⟩ v) B e (cs.setIfInBounds j v) := heap_setCell_same _ _ _ _ _ _ h
theorem Blk.off {W : World} {B B' e j : Nat} {cs : Array Value} (h : Blk W B' e cs) (hne : B' ≠ B) (v : Value) : Blk (W.setCell ⟨B, j, none⟩ v) B' e cs := by
  unfold Blk; rw [heap_setCell_other _ _ _ _ hne]; exact h
theorem Blk.grown {W W' : World} {B e : Nat} {cs : Array Value} {r : Option Nat} (h : Blk W B e cs) (hg : W.grownBy W' r) (hne : some B ≠ r) : Blk W' B e cs := by
  unfold Blk; rw [hg.block B h.lt hne]; exact h

/-- cells stored one behind the other -/
theorem below_setCells {a : World} {n B : Nat} (hb : n ≤ B) : ∀ (vs : List Value) (o : Nat) {W : World}, Below n a W → Below n a (W.setCells B o vs)
  | [], _, _, h => h
  | v :: r, o, _, h => below_setCells hb r (o + 1) (h.setCell hb v)
theorem blk_setCells_off {B B' e : Nat} {cs : Array Value} (hne : B' ≠ B) : ∀ (vs : List Value) (o : Nat) {W : World}, Blk W B' e cs → Blk (W.setCells B o vs) B' e cs
  | [], _, _, h => h
  | v :: r, o, _, h => blk_setCells_off hne r (o + 1) (h.off hne v)
theorem blk_setCells {B e : Nat} : ∀ (vs pre old post : List Value) {W : World}, old.length = vs.length → Blk W B e (pre ++ old ++ post).toArray → Blk (W.setCells B pre.length vs) B e (pre ++ vs ++ post).toArray
  | [], pre, old, post, W, hl, h => by
    have : old = [] := List.eq_nil_of_length_eq_zero hl
    subst this; exact h
  | v :: r, pre, [], post, W, hl, h => by cases hl
  | v :: r, pre, x :: old, post, W, hl, h => by
    have h1 : Blk (W.setCell ⟨B, pre.length, none⟩ v) B e ((pre ++ [v]) ++ old ++ post).toArray := by
      have := h.set (j := pre.length) v
      simpa [List.setIfInBounds_toArray, List.set_append] using this
    have h2 := blk_setCells r (pre ++ [v]) old post (by simpa using hl) h1
    rw [List.length_append] at h2
    simpa [World.setCells] using h2
theorem blk_range {W : World} {B e : Nat} {pre mid post : List Value} (h : Blk W B e (pre ++ mid ++ post).toArray) : W.rangeAt B pre.length mid := by
  intro j v hv
  refine h.cell ?_
  rw [List.getElem?_toArray, List.append_assoc, List.getElem?_append_right (by omega), show pre.length + j - pre.length = j by omega, List.getElem?_append_left (List.getElem?_eq_some_iff.1 hv).1]
  exact hv
theorem blk_there {W : World} {B e : Nat} {pre mid post : List Value} (h : Blk W B e (pre ++ mid ++ post).toArray) : W.there B pre.length mid.length := by
  intro j hj
  refine ⟨?_, h.frozen _⟩
  have := blk_range h j mid[j] (List.getElem?_eq_getElem hj)
  rw [this]; rfl


/-- marks as cells -/
def ml (L : List Int) : List Value := L.map fun x => Value.int .i64 x
def mk (L : List Int) : Array Value := (ml L).toArray
theorem ml_len (L : List Int) : (ml L).length = L.length := by simp [ml]
theorem mk_size (L : List Int) : (mk L).size = L.length := by simp [mk, ml]
theorem ml_append (A C : List Int) : ml (A ++ C) = ml A ++ ml C := by simp [ml]
theorem ml_one (L : List Int) : ∀ v ∈ ml L, v.oneCell' = true := by
  intro v hv
  obtain ⟨x, _, rfl⟩ := List.mem_map.1 hv
  rfl
theorem mk_at {L : List Int} {k : Nat} {x : Int} (h : L[k]? = some x) : (mk L)[k]? = some (.int .i64 x) := by simp [mk, ml, h]
theorem mk_set (L : List Int) (k : Nat) (x : Int) : (mk L).setIfInBounds k (.int .i64 x) = mk (L.set k x) := by
  simp [mk, ml, List.setIfInBounds_toArray, List.map_set]
theorem Blk.mkAt {W : World} {B e k : Nat} {L : List Int} {x : Int} (h : Blk W B e (mk L)) (hk : L[k]? = some x) : W.cell? ⟨B, k, none⟩ = some (.int .i64 x) := h.cell (mk_at hk)
theorem Blk.mkSet {W : World} {B e k : Nat} {L : List Int} (h : Blk W B e (mk L)) (x : Int) : Blk (W.setCell ⟨B, k, none⟩ (.int .i64 x)) B e (mk (L.set k x)) := by
  have := h.set (j := k) (.int .i64 x)
  rwa [mk_set] at this

theorem info24 : (Try.prog.info? 24).map (·.size) = some 27 := by kernel_rfl
theorem info22 : (Try.prog.info? 22).map (·.size) = some 26 := by kernel_rfl
/-- no place anywhere -/
def zm : List Int := List.replicate 27 0
theorem z24 (w : World) : (zeroValue 24).run Try.prog w = .ok (.agg (mk zm)) w := by
  have h : (Try.prog.info? 24).map (·.zero) = some (some (.agg (mk zm))) := by kernel_rfl
  cases hq : Try.prog.info? 24 with
  | none => rw [hq] at h; cases h
  | some i =>
    rw [hq] at h
    simp at h
    simp [zeroValue, typeInfo, hq, h]
theorem b24 (w : World) : (Instr.build 24 #[]).run Try.prog w = .ok (.agg (mk zm)) w := by kernel_rfl
theorem b24b (w : World) : (Instr.build 24 #[(1, .int .i64 (-1))]).run Try.prog w = .ok (.agg (mk (List.replicate 26 0 ++ [-1]))) w := by kernel_rfl
theorem ld24 {W : World} {B : Nat} {L : List Int} (hL : L.length = 27) (h : Blk W B 24 (mk L)) : (loadVar 24 ⟨B, 0, none⟩).run Try.prog W = .ok (.agg (mk L)) W :=
  run_loadVar_mid W B 0 24 (ml L) _ (blk_range (pre := []) (mid := ml L) (post := []) (by simpa [mk] using h)) Try.underlying24 rfl (by rw [info24, ml_len, hL])
/-- marks stored over others -/
def put24 (W : World) (B : Nat) (L : List Int) : World := W.setCells B 0 (ml L)
theorem Blk.put24 {W : World} {B : Nat} {L M : List Int} (hL : L.length = 27) (hM : M.length = 27) (h : Blk W B 24 (mk M)) : Blk (put24 W B L) B 24 (mk L) := by
  have := blk_setCells (ml L) [] (ml M) [] (by rw [ml_len, ml_len, hL, hM]) (by simpa [mk] using h)
  simpa [mk, Go.Proofs.Ytdoheblkhnmmiaa.put24] using this
theorem Blk.put24_off {W : World} {B B' e : Nat} {cs : Array Value} (h : Blk W B' e cs) (hne : B' ≠ B) (L : List Int) : Blk (Go.Proofs.Ytdoheblkhnmmiaa.put24 W B L) B' e cs := blk_setCells_off hne _ _ h
theorem below_put24 {a W : World} {n B : Nat} (h : Below n a W) (hb : n ≤ B) (L : List Int) : Below n a (put24 W B L) := below_setCells hb _ _ h
theorem size_setCells {B : Nat} : ∀ (vs : List Value) (o : Nat) (W : World), (W.setCells B o vs).heap.size = W.heap.size
  | [], _, _ => rfl
  | v :: r, o, W => by
    have := size_setCells (B := B) r (o + 1) (W.setCell ⟨B, o, none⟩ v)
    simpa [World.setCells] using this
theorem size_put24 (W : World) (B : Nat) (L : List Int) : (put24 W B L).heap.size = W.heap.size := size_setCells _ _ _
section
variable {ops : Array Oper} {rest : List Oper} {op : Oper} {a : Act} {w : World} {Q : Exit → Act → World → Prop} {L M : List Int} {B : Nat}
theorem wl_load24 (x : Operand) (hgd : op.guard = none) (ho : op.op = .load 24 x) (hx : a.eval x = .pointer (some ⟨B, 0, none⟩)) (hL : L.length = 27) (h : Blk w B 24 (mk L)) (hr : wpList Try.prog ops Q rest (a.put op.dst (.agg (mk L))) w) : wpList Try.prog ops Q (op :: rest) a w :=
  wpList_load_mid hgd 24 x ho B 0 hx (ml L) _ (blk_range (pre := []) (mid := ml L) (post := []) (by simpa [mk] using h)) Try.underlying24 rfl (by rw [info24, ml_len, hL]) hr
theorem wl_store24 (x y : Operand) (hgd : op.guard = none) (ho : op.op = .store 24 x y) (hx : a.eval x = .pointer (some ⟨B, 0, none⟩)) (hy : a.eval y = .agg (mk L)) (hL : L.length = 27) (hM : M.length = 27) (h : Blk w B 24 (mk M)) (hr : wpList Try.prog ops Q rest (a.put op.dst undef) (put24 w B L)) : wpList Try.prog ops Q (op :: rest) a w := by
  have ht : w.there B 0 (mk L).size := by
    have := blk_there (pre := []) (mid := ml M) (post := []) (by simpa [mk] using h)
    rw [ml_len, hM] at this
    rw [mk_size, hL]; exact this
  exact wpList_store_mid hgd 24 x y ho B 0 (mk L) hx hy ht (by rw [info24, mk_size, hL]) (all_oneCell_toArray (ml_one L)) (by simpa [put24, mk] using hr)
theorem wl_load22 (x : Operand) (hgd : op.guard = none) (ho : op.op = .load 22 x) (hx : a.eval x = .pointer (some ⟨B, 0, none⟩)) (m : List Int) (q : Int) (hm : m.length = 26) (h : Blk w B 24 (mk (m ++ [q]))) (hr : wpList Try.prog ops Q rest (a.put op.dst (.agg (mk m))) w) : wpList Try.prog ops Q (op :: rest) a w :=
  wpList_load_mid hgd 22 x ho B 0 hx (ml m) _ (by have := blk_range (pre := []) (mid := ml m) (post := ml [q]) (by simpa [mk, ml_append] using h); exact this) Try.underlying22 rfl (by rw [info22, ml_len, hm]) hr
end
theorem ix22 {M : List Int} (hM : M.length = 26) {i : Nat} {x : Int} (h : M[i]? = some x) (w : World) : (Instr.index 22 (.agg (mk M)) (.int .i64 (i : Int))).run Try.prog w = .ok (.int .i64 x) w := by
  have hi : i < 26 := by rw [← hM]; exact (List.getElem?_eq_some_iff.1 h).1
  have he := mk_at h
  have h3 : Try.prog.underlying 3 = some (.int .i64) := Try.underlying3
  have hs : (sizeOf 3).run Try.prog w = .ok 1 w := by kernel_rfl
  simp [Instr.index, asIntOf, run_underlying Try.underlying22, part, isAgg, run_underlying h3, hs, he]
  omega

/-- marks against the same marks -/
theorem eqin22 (w : World) (d : Nat) (M : List Int) (hM : M.length = 26) : (Op.equalIn (d + 2) 22 (.agg (mk M)) (.agg (mk M))).run Try.prog w = .ok true w := by
  have h3 : Try.prog.underlying 3 = some (.int .i64) := Try.underlying3
  have hsz : ∀ w, (sizeOf 3).run Try.prog w = .ok 1 w := fun w => by kernel_rfl
  rw [Op.equalIn]
  simp only [Sem.run_bind, run_underlying Try.underlying22, Result.andThen_ok, hsz, Std.Legacy.Range.forIn_eq_forIn_range', Std.Legacy.Range.size, Nat.sub_zero, Nat.add_sub_cancel, Nat.div_one]
  have hl : ∀ i ∈ List.range' 0 26 1, i < 26 := fun i hi => by simpa using (List.mem_range'_1.1 hi).2
  generalize List.range' 0 26 1 = l at hl ⊢
  induction l with
  | nil => simp
  | cons i l ih =>
    have hi : i < 26 := hl i (by simp)
    obtain ⟨x, hx⟩ : ∃ x, M[i]? = some x := ⟨_, List.getElem?_eq_getElem (by omega)⟩
    have he := mk_at hx
    have px : (part 3 (mk M) (i * 1)).run Try.prog w = .ok (.int .i64 x) w := by
      simp [part, isAgg, run_underlying h3, he]
    have pe : (Op.equalIn (d + 1) 3 (.int .i64 x) (.int .i64 x)).run Try.prog w = .ok true w := by
      rw [run_equalIn_int w d 3 .i64 .i64 _ _ h3]
      simp
    simp only [List.forIn_cons, Sem.run_bind, px, pe, Result.andThen_ok]
    simp only [Bool.not_true, Bool.false_eq_true, if_false, Sem.run_pure, Result.andThen_ok]
    exact ih fun j hj => hl j (by simp [hj])
theorem parts24 {L : List Int} (hL : L.length = 27) : ∃ M q, L = M ++ [q] ∧ M.length = 26 := by
  refine ⟨L.take 26, L[26], ?_, by simp; omega⟩
  conv => lhs; rw [← List.take_append_drop 26 L]
  congr 1
  rw [List.drop_eq_getElem_cons (by omega), List.drop_eq_nil_of_le (by omega)]
theorem flds24 : (Try.prog.fieldsOf 24).toList = [⟨ "Names", 22, 0, false, "", "", 0⟩, ⟨ "Back", 3, 26, false, "", "", 208⟩] := by kernel_rfl
theorem undf24 : Try.prog.underlying 24 = some (.struct (Try.prog.fieldsOf 24)) := by kernel_rfl
theorem held24 : Try.prog.stoodInHeld 24 = false := by kernel_rfl
theorem size22 (w : World) : (sizeOf 22).run Try.prog w = .ok 26 w := by kernel_rfl
theorem ag22 (w : World) : (isAgg 22).run Try.prog w = .ok true w := by kernel_rfl
theorem ag3 (w : World) : (isAgg 3).run Try.prog w = .ok false w := by kernel_rfl
theorem part22 (w : World) (M : List Int) (q : Int) (hM : M.length = 26) : (part 22 (mk (M ++ [q])) 0).run Try.prog w = .ok (.agg (mk M)) w := by
  have e1 : (mk (M ++ [q])).extract 0 26 = mk M := by
    apply Array.ext'
    rw [Array.toList_extract]
    simp [mk, ml_append, List.extract_eq_take_drop, ml_len, hM]
  unfold part
  simp only [Sem.run_bind, ag22, size22, Result.andThen_ok, if_true, Sem.run_pure, Nat.zero_add, e1]
theorem part3 (w : World) (M : List Int) (q : Int) (hM : M.length = 26) : (part 3 (mk (M ++ [q])) 26).run Try.prog w = .ok (.int .i64 q) w := by
  have e2 : (mk (M ++ [q]))[26]? = some (.int .i64 q) := mk_at (by simp [hM])
  unfold part
  simp [e2]
theorem eqf_cons {P : Program} {d : Nat} {xs ys : Array Value} {f : Field} {fs : List Field} {w : World} {a b : Value} (hn : f.name ≠ "_") (pa : (part f.type xs f.offset).run P w = .ok a w) (pb : (part f.type ys f.offset).run P w = .ok b w) (he : (Op.equalIn d f.type a b).run P w = .ok true w) (hr : (Op.eqFields d xs ys fs).run P w = .ok true w) : (Op.eqFields d xs ys (f :: fs)).run P w = .ok true w := by
  unfold Op.eqFields
  rw [if_pos hn]
  simp only [Sem.run_bind, pa, pb, he, Result.andThen_ok, Bool.not_true, Bool.false_eq_true, if_false, hr]
theorem eqin3 (w : World) (d : Nat) (q : Int) : (Op.equalIn (d + 2) 3 (.int .i64 q) (.int .i64 q)).run Try.prog w = .ok true w := by
  rw [run_equalIn_int w (d + 1) 3 .i64 .i64 _ _ Try.underlying3]; simp
theorem eqflds (w : World) (d : Nat) (M : List Int) (q : Int) (hM : M.length = 26) : (Op.eqFields (d + 2) (mk (M ++ [q])) (mk (M ++ [q])) [⟨ "Names", 22, 0, false, "", "", 0⟩, ⟨ "Back", 3, 26, false, "", "", 208⟩]).run Try.prog w = .ok true w :=
  eqf_cons (a := .agg (mk M)) (b := .agg (mk M)) (by decide) (part22 w M q hM) (part22 w M q hM) (eqin22 w d M hM) (eqf_cons (a := .int .i64 q) (b := .int .i64 q) (by decide) (part3 w M q hM) (part3 w M q hM) (eqin3 w d q) rfl)
theorem eqin24 (w : World) (d : Nat) (L : List Int) (hL : L.length = 27) : (Op.equalIn (d + 3) 24 (.agg (mk L)) (.agg (mk L))).run Try.prog w = .ok true w := by
  obtain ⟨M, q, rfl, hM⟩ := parts24 hL
  rw [run_equalIn_struct w (d + 2) 24 _ _ undf24 held24, flds24]
  exact eqflds w d M q hM
theorem eq24 (w : World) (L : List Int) (hL : L.length = 27) : (binOp .eql 24 (.agg (mk L)) (.agg (mk L))).run Try.prog w = .ok (.bool true) w := by
  rw [run_eql_struct, eqin24 w 9997 L hL]; rfl
theorem ne24 (w : World) (L : List Int) (hL : L.length = 27) : (binOp .neq 24 (.agg (mk L)) (.agg (mk L))).run Try.prog w = .ok (.bool false) w := by
  rw [run_neq_struct, eqin24 w 9997 L hL]; rfl
end Go.Proofs.Ytdoheblkhnmmiaa
