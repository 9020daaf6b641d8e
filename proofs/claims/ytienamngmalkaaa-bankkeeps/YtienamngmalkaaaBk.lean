/- Registers in memory: three cells each, one behind the other. -/
import Derived.Test.YtienamngmalkaaaBig
import Derived.Deep.MidRow
namespace Go.Proofs.Ytienamngmalkaaa
open Go.RowKit

def Blk (W : World) (B : Nat) (e : Nat) (cs : Array Value) : Prop := W.heap[B]? = some (.cells cs e (0, 0))
theorem Blk.cell {W : World} {B e j : Nat} {cs : Array Value} {v : Value} (h : Blk W B e cs) (hj : cs[j]? = some v) : W.cell? ⟨B, j, none⟩ = some v := by
  rw [cell_of_row W B j cs e (0, 0) h]; exact hj
theorem Blk.frozen {W : World} {B e : Nat} {cs : Array Value} (h : Blk W B e cs) (j : Nat) : W.frozen? ⟨B, j, none⟩ = false := frozen_of_row W B j cs e h
theorem Blk.lt {W : World} {B e : Nat} {cs : Array Value} (h : Blk W B e cs) : B < W.heap.size := (Array.getElem?_eq_some_iff.1 h).1
theorem Blk.keep {W W' : World} {B e : Nat} {cs : Array Value} (h : Blk W B e cs) (hb : Below W.heap.size W W') : Blk W' B e cs := by unfold Blk; rw [hb.block B h.lt]; exact h
theorem Blk.new (W : World) (e : Nat) (cs : Array Value) : Blk (W.alloc (.cells cs e)) W.heap.size e cs := heap_alloc_new W _
theorem Blk.set {W : World} {B e j : Nat} {cs : Array Value} (h : Blk W B e cs) (v : Value) : Blk (W.setCell ⟨B, j, none⟩ v) B e (cs.setIfInBounds j v) := heap_setCell_same _ _ _ _ _ _ h
theorem Blk.off {W : World} {B B' e j : Nat} {cs : Array Value} (h : Blk W B' e cs) (hne : B' ≠ B) (v : Value) : Blk (W.setCell ⟨B, j, none⟩ v) B' e cs := by
  unfold Blk; rw [heap_setCell_other _ _ _ _ hne]; exact h
theorem Blk.grown {W W' : World} {B e : Nat} {cs : Array Value} {r : Option Nat} (h : Blk W B e cs) (hg : W.grownBy W' r) (hne : some B ≠ r) : Blk W' B e cs := by
  unfold Blk; rw [hg.block B h.lt hne]; exact h

/-- a register as a value's three cells -/
structure Rg where
  s : Bool
  l : Bool
  a : Option Addr
  n : Nat
  c : Nat
def Rg.v (r : Rg) : Value := .slice r.a r.n r.c
def Rg.cs (r : Rg) : List Value := [.bool r.s, .bool r.l, .slice r.a r.n r.c]
def rl (L : List Rg) : List Value := L.flatMap Rg.cs
def bk (L : List Rg) : Array Value := (rl L).toArray
def zr : Rg := ⟨false, false, none, 0, 0⟩
theorem rl_nil : rl [] = [] := rfl
theorem rl_cons (r : Rg) (L : List Rg) : rl (r :: L) = r.cs ++ rl L := rfl
theorem rl_append (A C : List Rg) : rl (A ++ C) = rl A ++ rl C := by simp [rl]
theorem rl_len (L : List Rg) : (rl L).length = 3 * L.length := by
  induction L with
  | nil => rfl
  | cons r L ih => rw [rl_cons, List.length_append, ih, List.length_cons]; simp [Rg.cs]; omega
theorem bk_size (L : List Rg) : (bk L).size = 3 * L.length := by simp [bk, rl_len]
theorem rl_at {L : List Rg} {k : Nat} {r : Rg} (h : L[k]? = some r) : (rl L)[3 * k]? = some (.bool r.s) ∧ (rl L)[3 * k + 1]? = some (.bool r.l) ∧ (rl L)[3 * k + 2]? = some (.slice r.a r.n r.c) := by
  induction L generalizing k with
  | nil => simp at h
  | cons x L ih =>
    cases k with
    | zero => simp at h; subst h; exact ⟨rfl, rfl, rfl⟩
    | succ k =>
      rw [List.getElem?_cons_succ] at h
      obtain ⟨h1, h2, h3⟩ := ih h
      have e : ∀ j, (rl (x :: L))[3 * (k + 1) + j]? = (rl L)[3 * k + j]? := fun j => by
        rw [rl_cons, List.getElem?_append_right (by simp [Rg.cs]; omega)]
        congr 1; simp [Rg.cs]; omega
      refine ⟨by rw [← h1]; exact e 0, by rw [← h2]; exact e 1, by rw [← h3]; exact e 2⟩
theorem rl_set (L : List Rg) (k : Nat) (r : Rg) : (((rl L).set (3 * k) (.bool r.s)).set (3 * k + 1) (.bool r.l)).set (3 * k + 2) (.slice r.a r.n r.c) = rl (L.set k r) := by
  induction L generalizing k with
  | nil => rfl
  | cons x L ih =>
    cases k with
    | zero => rfl
    | succ k =>
      rw [List.set_cons_succ, rl_cons, rl_cons, ← ih k]
      show _ = [_, _, _] ++ _
      simp [Rg.cs, show 3 * (k + 1) = 3 * k + 1 + 1 + 1 from by omega]
theorem rl_one (L : List Rg) : ∀ v ∈ rl L, v.oneCell' = true := by
  intro v hv
  obtain ⟨r, _, hr⟩ := List.mem_flatMap.1 hv
  simp [Rg.cs] at hr
  rcases hr with rfl | rfl | rfl <;> rfl

/-- a register of a block -/
theorem Blk.rg {W : World} {B e k : Nat} {L : List Rg} {r : Rg} (h : Blk W B e (bk L)) (hk : L[k]? = some r) :
    W.cell? ⟨B, 3 * k, none⟩ = some (.bool r.s) ∧ W.cell? ⟨B, 3 * k + 1, none⟩ = some (.bool r.l) ∧ W.cell? ⟨B, 3 * k + 2, none⟩ = some (.slice r.a r.n r.c) := by
  obtain ⟨h1, h2, h3⟩ := rl_at hk
  exact ⟨h.cell (by simpa [bk] using h1), h.cell (by simpa [bk] using h2), h.cell (by simpa [bk] using h3)⟩
/-- a register stored -/
def putr (W : World) (B k : Nat) (s l : Bool) (v : Value) : World := ((W.setCell ⟨B, 3 * k, none⟩ (.bool s)).setCell ⟨B, 3 * k + 1, none⟩ (.bool l)).setCell ⟨B, 3 * k + 2, none⟩ v
theorem Blk.putr {W : World} {B e k : Nat} {L : List Rg} (h : Blk W B e (bk L)) (r : Rg) : Blk (putr W B k r.s r.l r.v) B e (bk (L.set k r)) := by
  have := ((h.set (j := 3 * k) (.bool r.s)).set (j := 3 * k + 1) (.bool r.l)).set (j := 3 * k + 2) (.slice r.a r.n r.c)
  show Blk (((W.setCell ⟨B, 3 * k, none⟩ (.bool r.s)).setCell ⟨B, 3 * k + 1, none⟩ (.bool r.l)).setCell ⟨B, 3 * k + 2, none⟩ (.slice r.a r.n r.c)) B e (bk (L.set k r))
  simpa [bk, List.setIfInBounds_toArray, rl_set] using this
theorem Blk.putr_off {W : World} {B B' e k : Nat} {cs : Array Value} (h : Blk W B' e cs) (hne : B' ≠ B) (s l : Bool) (v : Value) : Blk (Go.Proofs.Ytienamngmalkaaa.putr W B k s l v) B' e cs := ((h.off hne _).off hne _).off hne _
theorem below_putr {a W : World} {n B k : Nat} (h : Below n a W) (hb : n ≤ B) (s l : Bool) (v : Value) : Below n a (putr W B k s l v) := ((h.setCell hb _).setCell hb _).setCell hb _

/-- cells stored one behind the other -/
theorem below_setCells {a : World} {n B : Nat} (hb : n ≤ B) : ∀ (vs : List Value) (o : Nat) {W : World}, Below n a W → Below n a (W.setCells B o vs)
  | [], _, _, h => h
  | v :: r, o, _, h => below_setCells hb r (o + 1) (h.setCell hb v)
theorem blk_setCells_off {B B' e : Nat} {cs : Array Value} (hne : B' ≠ B) : ∀ (vs : List Value) (o : Nat) {W : World}, Blk W B' e cs → Blk (W.setCells B o vs) B' e cs
  | [], _, _, h => h
  | v :: r, o, _, h => blk_setCells_off hne r (o + 1) (h.off hne v)
theorem blk_setCells {B e : Nat} : ∀ (vs pre old post : List Value) {W : World}, old.length = vs.length → Blk W B e (pre ++ old ++ post).toArray → Blk (W.setCells B pre.length vs) B e (pre ++ vs ++ post).toArray
  | [], pre, old, post, W, hl, h => by
    have : old = [] := List.eq_nil_of_length_eq_zero hl
    subst this; exact h
  | v :: r, pre, [], post, W, hl, h => by cases hl
  | v :: r, pre, x :: old, post, W, hl, h => by
    have h1 : Blk (W.setCell ⟨B, pre.length, none⟩ v) B e ((pre ++ [v]) ++ old ++ post).toArray := by
      have := h.set (j := pre.length) v
      simpa [List.setIfInBounds_toArray, List.set_append] using this
    have h2 := blk_setCells r (pre ++ [v]) old post (by simpa using hl) h1
    rw [List.length_append] at h2
    simpa [World.setCells] using h2
theorem blk_range {W : World} {B e : Nat} {pre mid post : List Value} (h : Blk W B e (pre ++ mid ++ post).toArray) : W.rangeAt B pre.length mid := by
  intro j v hv
  refine h.cell ?_
  rw [List.getElem?_toArray, List.append_assoc, List.getElem?_append_right (by omega), show pre.length + j - pre.length = j by omega, List.getElem?_append_left (List.getElem?_eq_some_iff.1 hv).1]
  exact hv
theorem blk_there {W : World} {B e : Nat} {pre mid post : List Value} (h : Blk W B e (pre ++ mid ++ post).toArray) : W.there B pre.length mid.length := by
  intro j hj
  refine ⟨?_, h.frozen _⟩
  have := blk_range h j mid[j] (List.getElem?_eq_getElem hj)
  rw [this]; rfl

theorem info28 : (Try.prog.info? 28).map (·.size) = some 111 := by kernel_rfl
theorem info25 : (Try.prog.info? 25).map (·.size) = some 27 := by kernel_rfl
theorem info26 : (Try.prog.info? 26).map (·.size) = some 78 := by kernel_rfl
/-- the empty bank -/
def zb : List Rg := List.replicate 37 zr
theorem z28 (w : World) : (zeroValue 28).run Try.prog w = .ok (.agg (bk zb)) w := by
  have h : (Try.prog.info? 28).map (·.zero) = some (some (.agg (bk zb))) := by kernel_rfl
  cases hq : Try.prog.info? 28 with
  | none => rw [hq] at h; cases h
  | some i =>
    rw [hq] at h
    simp at h
    simp [zeroValue, typeInfo, hq, h]
theorem b28 (w : World) : (Instr.build 28 #[]).run Try.prog w = .ok (.agg (bk zb)) w := by kernel_rfl
theorem ld28 {W : World} {B : Nat} {L : List Rg} (hL : L.length = 37) (h : Blk W B 28 (bk L)) : (loadVar 28 ⟨B, 0, none⟩).run Try.prog W = .ok (.agg (bk L)) W :=
  run_loadVar_mid W B 0 28 (rl L) _ (blk_range (pre := []) (mid := rl L) (post := []) (by simpa [bk] using h)) Try.underlying28 rfl (by rw [info28, rl_len, hL])
/-- a bank stored over another -/
def put28 (W : World) (B : Nat) (L : List Rg) : World := W.setCells B 0 (rl L)
theorem Blk.put28 {W : World} {B : Nat} {L M : List Rg} (hL : L.length = 37) (hM : M.length = 37) (h : Blk W B 28 (bk M)) : Blk (put28 W B L) B 28 (bk L) := by
  have := blk_setCells (rl L) [] (rl M) [] (by rw [rl_len, rl_len, hL, hM]) (by simpa [bk] using h)
  simpa [bk, Go.Proofs.Ytienamngmalkaaa.put28] using this
theorem Blk.put28_off {W : World} {B B' e : Nat} {cs : Array Value} (h : Blk W B' e cs) (hne : B' ≠ B) (L : List Rg) : Blk (Go.Proofs.Ytienamngmalkaaa.put28 W B L) B' e cs := blk_setCells_off hne _ _ h
theorem below_put28 {a W : World} {n B : Nat} (h : Below n a W) (hb : n ≤ B) (L : List Rg) : Below n a (put28 W B L) := below_setCells hb _ _ h
section
variable {ops : Array Oper} {rest : List Oper} {op : Oper} {a : Act} {w : World} {Q : Exit → Act → World → Prop} {L M : List Rg} {B : Nat}
theorem wl_load28 (x : Operand) (hgd : op.guard = none) (ho : op.op = .load 28 x) (hx : a.eval x = .pointer (some ⟨B, 0, none⟩)) (hL : L.length = 37) (h : Blk w B 28 (bk L)) (hr : wpList Try.prog ops Q rest (a.put op.dst (.agg (bk L))) w) : wpList Try.prog ops Q (op :: rest) a w :=
  wpList_load_mid hgd 28 x ho B 0 hx (rl L) _ (blk_range (pre := []) (mid := rl L) (post := []) (by simpa [bk] using h)) Try.underlying28 rfl (by rw [info28, rl_len, hL]) hr
theorem wl_store28 (x y : Operand) (hgd : op.guard = none) (ho : op.op = .store 28 x y) (hx : a.eval x = .pointer (some ⟨B, 0, none⟩)) (hy : a.eval y = .agg (bk L)) (hL : L.length = 37) (hM : M.length = 37) (h : Blk w B 28 (bk M)) (hr : wpList Try.prog ops Q rest (a.put op.dst undef) (put28 w B L)) : wpList Try.prog ops Q (op :: rest) a w := by
  have ht : w.there B 0 (bk L).size := by
    have := blk_there (pre := []) (mid := rl M) (post := []) (by simpa [bk] using h)
    rw [rl_len, hM] at this
    rw [bk_size, hL]; exact this
  exact wpList_store_mid hgd 28 x y ho B 0 (bk L) hx hy ht (by rw [info28, bk_size, hL]) (all_oneCell_toArray (rl_one L)) (by simpa [put28, bk] using hr)
theorem wl_load25 (x : Operand) (hgd : op.guard = none) (ho : op.op = .load 25 x) (hx : a.eval x = .pointer (some ⟨B, 6, none⟩)) (p m q : List Rg) (hp : p.length = 2) (hm : m.length = 9) (h : Blk w B 28 (bk (p ++ m ++ q))) (hr : wpList Try.prog ops Q rest (a.put op.dst (.agg (bk m))) w) : wpList Try.prog ops Q (op :: rest) a w :=
  wpList_load_mid hgd 25 x ho B 6 hx (rl m) _ (by have := blk_range (pre := rl p) (mid := rl m) (post := rl q) (by simpa [bk, rl_append] using h); rwa [rl_len, hp] at this) Try.underlying25 rfl (by rw [info25, rl_len, hm]) hr
theorem wl_load26 (x : Operand) (hgd : op.guard = none) (ho : op.op = .load 26 x) (hx : a.eval x = .pointer (some ⟨B, 33, none⟩)) (p m : List Rg) (hp : p.length = 11) (hm : m.length = 26) (h : Blk w B 28 (bk (p ++ m))) (hr : wpList Try.prog ops Q rest (a.put op.dst (.agg (bk m))) w) : wpList Try.prog ops Q (op :: rest) a w :=
  wpList_load_mid hgd 26 x ho B 33 hx (rl m) _ (by have := blk_range (pre := rl p) (mid := rl m) (post := []) (by simpa [bk, rl_append] using h); rwa [rl_len, hp] at this) Try.underlying26 rfl (by rw [info26, rl_len, hm]) hr
end
end Go.Proofs.Ytienamngmalkaaa
