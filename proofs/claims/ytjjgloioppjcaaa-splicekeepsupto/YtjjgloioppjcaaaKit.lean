/- How a list of spans lies in memory; the contracts of right, allRight, Size and of the reference's. -/
import Derived.Test.YtjjgloioppjcaaaPure
import Derived.WalkKit
import Derived.WalkSpells
import Derived.WalkLawsBesides
import Derived.Outline
import Derived.RegionTactic
import Derived.BigRegion
import Derived.Deep.RegionWith
import Derived.Deep.QuietTactic
import Derived.BigQuiet
import Derived.Deep.RegionHeld3
import Derived.OwnWalk
import Derived.Laws.AppendOwnNone
namespace Go.Proofs.Ytjjgloioppjcaaa
open Go.RowKit

/-- A span's cells. -/
def Sp.cs (p : Sp) : List Value := [.int .i64 p.s, .int .i64 p.o, .int .i64 p.l]
def cells (L : List Sp) : List Value := L.flatMap Sp.cs
theorem cells_length (L : List Sp) : (cells L).length = L.length * 3 := by
  induction L with
  | nil => rfl
  | cons p L ih => simp only [cells, List.flatMap_cons, List.length_append, List.length_cons] at *; rw [ih]; simp [Sp.cs]; omega
theorem cells_append (L M : List Sp) : cells (L ++ M) = cells L ++ cells M := by simp [cells]
theorem cells_at {L : List Sp} {j : Nat} {p : Sp} (h : L[j]? = some p) (i : Nat) (hi : i < 3) : (cells L)[j * 3 + i]? = p.cs[i]? := by
  induction L generalizing j with
  | nil => simp at h
  | cons q L ih =>
    have e : cells (q :: L) = q.cs ++ cells L := by simp [cells]
    rw [e]
    cases j with
    | zero =>
      simp at h; subst h
      rw [Nat.zero_mul, Nat.zero_add, List.getElem?_append_left (by simp [Sp.cs]; omega)]
    | succ j =>
      rw [List.getElem?_cons_succ] at h
      rw [List.getElem?_append_right (by simp [Sp.cs]; omega)]
      rw [← ih h]
      congr 1
      simp [Sp.cs]; omega

/-- The spans of L lie one behind the other in block b of W, from the cell off on. -/
def Row (W : World) (b off : Nat) (L : List Sp) : Prop :=
  ∀ j p, L[j]? = some p → W.cell? ⟨b, off + j * 3, none⟩ = some (.int .i64 p.s) ∧ W.cell? ⟨b, off + j * 3 + 1, none⟩ = some (.int .i64 p.o) ∧ W.cell? ⟨b, off + j * 3 + 2, none⟩ = some (.int .i64 p.l)
/-- A list value whose spans are L. -/
def Rdb (W : World) (v : Value) (L : List Sp) : Prop := ∃ ao n c, v = .slice ao n c ∧ n = L.length ∧ n ≤ c ∧ (L = [] ∨ ∃ b off, ao = some ⟨b, off, none⟩ ∧ Row W b off L)
def Rng (L : List Sp) : Prop := ∀ p ∈ L, p.l ≤ 9223372036854775807
theorem okL_rng {L : List Sp} (h : okL L = true) : Rng L := fun p hp => by have := (rgt_iff p).1 (okL_mem h hp); omega

theorem bAlloc {a w : World} (h : Below a.heap.size a w) (o : Obj) : Below a.heap.size a (w.alloc o) := h.alloc h.size o
theorem bD {w w' : World} (h : Below w.drew.heap.size w.drew w') : Below w.heap.size w w' := Below.trans (Below.refl w.heap.size w).drew h
theorem bA {w w' : World} {x : Obj} (h : Below (w.alloc x).heap.size (w.alloc x) w') : Below w.heap.size w w' := Below.trans (bAlloc (Below.refl w.heap.size w) x) (h.mono (by simp))
theorem bT {a b c : World} (h : Below a.heap.size a b) (k : Below b.heap.size b c) : Below a.heap.size a c := h.trans (k.mono h.size)
theorem ret_bool {a b : Bool} (h : a = b) : Ending.returned (.bool a) = .returned (.bool b) := by rw [h]
theorem cell_lt {w : World} {b j : Nat} {v : Value} (h : w.cell? ⟨b, j, none⟩ = some v) : b < w.heap.size := by
  rcases Nat.lt_or_ge b w.heap.size with h' | h'
  · exact h'
  · simp [World.cell?, Array.getElem?_eq_none h'] at h
theorem Row.keep {w w' : World} {b off : Nat} {L : List Sp} (h : Row w b off L) (hb : Below w.heap.size w w') : Row w' b off L := by
  intro j p hj
  obtain ⟨h0, h1, h2⟩ := h j p hj
  have lt := cell_lt h0
  refine ⟨?_, ?_, ?_⟩ <;> (rw [hb.cell lt]; assumption)
theorem Rdb.keep {w w' : World} {v : Value} {L : List Sp} (h : Rdb w v L) (hb : Below w.heap.size w w') : Rdb w' v L := by
  obtain ⟨ao, n, c, h1, h2, h3, h4⟩ := h
  refine ⟨ao, n, c, h1, h2, h3, ?_⟩
  rcases h4 with h4 | ⟨b, off, h5, h6⟩
  · exact .inl h4
  · exact .inr ⟨b, off, h5, h6.keep hb⟩
theorem row3 {w : World} {b off m : Nat} {L : List Sp} {s o l : Int} (h : Row w b off L) (hp : L[m]? = some ⟨s, o, l⟩) :
    w.cell? ⟨b, off + m * 3, none⟩ = some (.int .i64 s) ∧ w.cell? ⟨b, off + m * 3 + 1, none⟩ = some (.int .i64 o) ∧ w.cell? ⟨b, off + m * 3 + 2, none⟩ = some (.int .i64 l) := h m _ hp
/-- a row that the call owns is a list that can be read -/
theorem own_rdb {w : World} {base e n : Nat} {v : Value} {L : List Sp} (h : w.ownsRow base e 3 v n (cells L)) : Rdb w v L := by
  have hl : n = L.length := by have := h.1; rw [cells_length] at this; omega
  rcases h.2 with ⟨rfl, rfl⟩ | ⟨g, cap, cur, rfl, hb, hg, h1, h2, h3, h4⟩
  · exact ⟨_, _, _, rfl, hl, Nat.le_refl _, .inl (List.eq_nil_of_length_eq_zero hl.symm)⟩
  · refine ⟨_, _, _, rfl, hl, h1, .inr ⟨g, 0, rfl, fun j p hj => ?_⟩⟩
    have hlt := (List.getElem?_eq_some_iff.1 hj).1
    have c := fun i (hi : i < 3) => (h.cellAt (j * 3 + i) (by omega)).trans (cells_at hj i hi)
    rw [Nat.zero_add]
    exact ⟨by simpa [Sp.cs] using c 0 (by omega), by simpa [Sp.cs] using c 1 (by omega), by simpa [Sp.cs] using c 2 (by omega)⟩
theorem own_shape {w : World} {base e size n : Nat} {v : Value} {xs : List Value} (h : w.ownsRow base e size v n xs) : ∃ ao cap, v = .slice ao n cap := by
  rcases h.2 with ⟨rfl, rfl⟩ | ⟨g, cap, cur, rfl, _⟩
  · exact ⟨_, _, rfl⟩
  · exact ⟨_, _, rfl⟩
theorem lit_cells (w : World) (cs : Array Value) (e : TypeId) (j : Nat) (u : Value) (h : cs.toList[j]? = some u) : (w.alloc (.cells cs e)).cell? ((⟨w.heap.size, 0, none⟩ : Addr).add j) = some u := by
  have : (⟨w.heap.size, 0, none⟩ : Addr).add j = ⟨w.heap.size, j, none⟩ := by unfold Addr.add; split <;> simp_all
  rw [this, World.cell?_alloc_mark, ← Array.getElem?_toList]; exact h
theorem info39 : (Try.prog.info? 39).map (fun i => (i.zero, i.size, i.bytes)) = some (some (.agg #[.int .i64 0, .int .i64 0, .int .i64 0]), 3, 24) := by kernel_rfl

set_option maxHeartbeats 400000 in
theorem right_any (s o l : Int) (w : World) (hl : l ≤ 9223372036854775807) :
    Calls Try.prog 36 #[.agg #[.int .i64 s, .int .i64 o, .int .i64 l]] w fun e w' => e = .returned (.bool (rgt ⟨s, o, l⟩)) ∧ w' = w.alloc (.cells #[.int .i64 s, .int .i64 o, .int .i64 l] 39) := by
  go_enter Try.func36, Try.ntmps36
  go_wp2
  all_goals go_ret
  all_goals refine ⟨ret_bool ?_, by first | rfl | (simp only [*]; done)⟩
  all_goals (rw [Bool.eq_iff_iff]; unfold rgt; simp only [decide_eq_true_eq]; first | omega | (simp; done) | (simp; omega))

set_option maxHeartbeats 400000 in
theorem refRight_any (s o l : Int) (w : World) :
    Calls Try.prog 35 #[.agg #[.int .i64 s, .int .i64 o, .int .i64 l]] w fun e w' => e = .returned (.bool (rgt ⟨s, o, l⟩)) ∧ w' = w.alloc (.cells #[.int .i64 s, .int .i64 o, .int .i64 l] 39) := by
  go_enter Try.func35, Try.ntmps35
  go_wp2
  all_goals go_ret
  all_goals refine ⟨ret_bool ?_, by first | rfl | (simp only [*]; done)⟩
  all_goals (rw [Bool.eq_iff_iff]; unfold rgt; simp only [decide_eq_true_eq]; first | omega | (simp; done) | (simp; omega))
end Go.Proofs.Ytjjgloioppjcaaa
