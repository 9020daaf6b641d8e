/- A register out of a list of registers; rows of many registers. -/
import Derived.Test.YtienamngmalkaaaGet
namespace Go.Proofs.Ytienamngmalkaaa
open Go.RowKit

set_option maxRecDepth 8000
theorem ext3 {L : List Rg} {k : Nat} {r : Rg} (h : L[k]? = some r) : (bk L).extract (3 * k) (3 * k + 3) = #[.bool r.s, .bool r.l, .slice r.a r.n r.c] := by
  have hk := (List.getElem?_eq_some_iff.1 h).1
  obtain ⟨h1, h2, h3⟩ := rl_at h
  apply Array.ext'
  rw [Array.toList_extract]
  apply List.ext_getElem?
  intro j
  simp only [bk, List.extract_eq_take_drop]
  rw [List.getElem?_take]
  split
  · rename_i hj
    rw [List.getElem?_drop]
    match j, hj with
    | 0, _ => rw [Nat.add_zero, h1]; rfl
    | 1, _ => rw [h2]; rfl
    | 2, _ => rw [h3]; rfl
    | j + 3, hj => omega
  · rename_i hj
    rw [List.getElem?_eq_none]
    simp; omega
theorem sz24 (w : World) : (sizeOf 24).run Try.prog w = .ok 3 w := by kernel_rfl
theorem ag24 (w : World) : (isAgg 24).run Try.prog w = .ok true w := by kernel_rfl
theorem ix25 {M : List Rg} (hM : M.length = 9) {i : Nat} {r : Rg} (h : M[i]? = some r) (w : World) : (Instr.index 25 (.agg (bk M)) (.int .i64 (i : Int))).run Try.prog w = .ok (.agg #[.bool r.s, .bool r.l, .slice r.a r.n r.c]) w := by
  have hi : i < 9 := by rw [← hM]; exact (List.getElem?_eq_some_iff.1 h).1
  have he := ext3 h
  rw [Nat.mul_comm] at he
  simp [Instr.index, asIntOf, run_underlying Try.underlying25, part, he]
  omega
theorem ix26 {M : List Rg} (hM : M.length = 26) {i : Nat} {r : Rg} (h : M[i]? = some r) (w : World) : (Instr.index 26 (.agg (bk M)) (.int .i64 (i : Int))).run Try.prog w = .ok (.agg #[.bool r.s, .bool r.l, .slice r.a r.n r.c]) w := by
  have hi : i < 26 := by rw [← hM]; exact (List.getElem?_eq_some_iff.1 h).1
  have he := ext3 h
  rw [Nat.mul_comm] at he
  simp [Instr.index, asIntOf, run_underlying Try.underlying26, part, he]
  omega

/-- many rows, each in a block of its own, from block b on -/
structure Rwz (b : Nat) (W : World) (R : List Rw) : Prop where
  own : ∀ (i : Nat) (r : Rw), R[i]? = some r → W.ownsRow b r.t r.s r.v r.n r.xs
  far : ∀ (i j : Nat) (p q : Rw), i ≠ j → R[i]? = some p → R[j]? = some q → Far p.v q.v
  sz : b ≤ W.heap.size
theorem Rwz.nil {b : Nat} {W : World} (h : b ≤ W.heap.size) : Rwz b W [] := ⟨fun i r hi => by simp at hi, fun i j p q _ hi => by simp at hi, h⟩
theorem Rwz.keep {b : Nat} {W W' : World} {R : List Rw} (h : Rwz b W R) (hb : Below W.heap.size W W') : Rwz b W' R :=
  ⟨fun i r hi => own_keep (h.own i r hi) hb, h.far, Nat.le_trans h.sz hb.size⟩
theorem Rwz.set {b : Nat} {W : World} {R : List Rw} {k j : Nat} (h : Rwz b W R) (hk : k < b) (u : Value) : Rwz b (W.setCell ⟨k, j, none⟩ u) R :=
  ⟨fun i r hi => own_set (h.own i r hi) hk, h.far, by simpa using h.sz⟩
theorem Rwz.putr {b : Nat} {W : World} {R : List Rw} {B k : Nat} (h : Rwz b W R) (hk : B < b) (s l : Bool) (v : Value) : Rwz b (Go.Proofs.Ytienamngmalkaaa.putr W B k s l v) R := ((h.set hk _).set hk _).set hk _
theorem Rwz.new {b : Nat} {W W' : World} {R : List Rw} {t s n : Nat} {v : Value} {xs : List Value} (h : Rwz b W R) (hb : Below W.heap.size W W') (ho : W'.ownsRow W.heap.size t s v n xs) : Rwz b W' (R ++ [⟨t, s, v, n, xs⟩]) := by
  have hk := h.keep hb
  refine ⟨fun i r hi => ?_, fun i j p q hij hi hj => ?_, hk.sz⟩
  · rcases snoc_at hi with hi | ⟨_, rfl⟩
    · exact hk.own i r hi
    · exact own_lower ho h.sz
  · rcases snoc_at hi with hi | ⟨e1, rfl⟩
    · rcases snoc_at hj with hj | ⟨e2, rfl⟩
      · exact h.far i j p q hij hi hj
      · exact far_new (h.own i p hi) ho
    · rcases snoc_at hj with hj | ⟨e2, rfl⟩
      · exact (far_new (h.own j q hj) ho).symm
      · omega
theorem Rwz.rws {b : Nat} {w W : World} {R : List Rw} (h : Rwz b W R) (hb : w.heap.size ≤ b) (hB : Below w.heap.size w W) : Rws w W R :=
  ⟨fun i r hi => own_lower (h.own i r hi) hb, h.far, hB⟩

/-- registers' rows -/
def rwr (r : Rg) (c : Ct) : Rw := ⟨5, 1, .slice r.a r.n r.c, r.n, bv c.t⟩
def rows (N : List Rg) (P : List Ct) : List Rw := List.zipWith rwr N P
/-- registers' flags are those of the contents -/
def Fl (N : List Rg) (P : List Ct) : Prop := N.length = P.length ∧ ∀ (k : Nat) (r : Rg) (c : Ct), N[k]? = some r → P[k]? = some c → r.s = c.s ∧ r.l = c.l ∧ r.n = c.t.length
theorem rows_snoc {N : List Rg} {P : List Ct} (h : N.length = P.length) (r : Rg) (c : Ct) : rows (N ++ [r]) (P ++ [c]) = rows N P ++ [rwr r c] := by
  unfold rows; rw [List.zipWith_append h]; rfl
theorem rows_at {N : List Rg} {P : List Ct} {k : Nat} {r : Rg} {c : Ct} (h1 : N[k]? = some r) (h2 : P[k]? = some c) : (rows N P)[k]? = some (rwr r c) := by
  unfold rows; rw [List.getElem?_zipWith, h1, h2]
theorem Fl.snoc {N : List Rg} {P : List Ct} (h : Fl N P) {r : Rg} {c : Ct} (h1 : r.s = c.s) (h2 : r.l = c.l) (h3 : r.n = c.t.length) : Fl (N ++ [r]) (P ++ [c]) := by
  refine ⟨by simp [h.1], fun k x y hx hy => ?_⟩
  rcases snoc_at hx with hx | ⟨e, rfl⟩
  · rcases snoc_at hy with hy | ⟨e2, rfl⟩
    · exact h.2 k x y hx hy
    · have := (List.getElem?_eq_some_iff.1 hx).1; have := h.1; omega
  · rcases snoc_at hy with hy | ⟨e2, rfl⟩
    · have := (List.getElem?_eq_some_iff.1 hy).1; have := h.1; omega
    · exact ⟨h1, h2, h3⟩
end Go.Proofs.Ytienamngmalkaaa
