/- The contract of shade.Build: the pieces that are fit, made a tree. -/
import Derived.Test.YtmhpeppbhjpkiaaGreatPm03
import Derived.OwnWalk
import Derived.Laws.AppendOwnNone
namespace Go.Proofs.YtmhpeppbhjpkiaaGreat
open Go.RowKit

/-- A piece's cells. -/
def Pc.cs (p : Pc) : List Value := [.int .i64 p.s, .int .i64 p.o, .int .i64 p.l, .int .i64 p.n]
def cells (L : List Pc) : List Value := L.flatMap Pc.cs
theorem cells_length (L : List Pc) : (cells L).length = L.length * 4 := by
  induction L with
  | nil => rfl
  | cons p L ih => simp only [cells, List.flatMap_cons, List.length_append, List.length_cons] at *; rw [ih]; simp [Pc.cs]; omega
theorem cells_append (L M : List Pc) : cells (L ++ M) = cells L ++ cells M := by simp [cells]
theorem cells_at {L : List Pc} {j : Nat} {p : Pc} (h : L[j]? = some p) (i : Nat) (hi : i < 4) : (cells L)[j * 4 + i]? = p.cs[i]? := by
  induction L generalizing j with
  | nil => simp at h
  | cons q L ih =>
    have e : cells (q :: L) = q.cs ++ cells L := by simp [cells]
    rw [e]
    cases j with
    | zero =>
      simp at h; subst h
      rw [Nat.zero_mul, Nat.zero_add, List.getElem?_append_left (by simp [Pc.cs]; omega)]
    | succ j =>
      rw [List.getElem?_cons_succ] at h
      rw [List.getElem?_append_right (by simp [Pc.cs]; omega)]
      rw [← ih h]
      congr 1
      simp [Pc.cs]; omega

/-- a row that the call owns is a list that can be read -/
theorem own_rdb {w : World} {base e n : Nat} {v : Value} {L : List Pc} (h : w.ownsRow base e 4 v n (cells L)) : Rdb w v L := by
  have hl : n = L.length := by have := h.1; rw [cells_length] at this; omega
  rcases h.2 with ⟨rfl, rfl⟩ | ⟨g, cap, cur, rfl, hb, hg, h1, h2, h3, h4⟩
  · exact ⟨_, _, _, rfl, hl, Nat.le_refl _, .inl (List.eq_nil_of_length_eq_zero hl.symm)⟩
  · refine ⟨_, _, _, rfl, hl, h1, .inr ⟨g, 0, rfl, fun j p hj => ?_⟩⟩
    have hlt := (List.getElem?_eq_some_iff.1 hj).1
    have c := fun i (hi : i < 4) => (h.cellAt (j * 4 + i) (by omega)).trans (cells_at hj i hi)
    rw [Nat.zero_add]
    exact ⟨by simpa [Pc.cs] using c 0 (by omega), by simpa [Pc.cs] using c 1 (by omega), by simpa [Pc.cs] using c 2 (by omega), by simpa [Pc.cs] using c 3 (by omega)⟩

/-- the pieces that are fit -/
def good (L : List Pc) : List Pc := L.filter fun p => fitB p.l p.n
theorem good_le (L : List Pc) : (good L).length ≤ L.length := List.length_filter_le _ _
theorem good_fit {L : List Pc} : ∀ p ∈ good L, p.fit := by
  intro p hp
  have := (List.mem_filter.1 hp).2
  exact (fitB_iff p.s p.o p.l p.n).1 this
theorem good_take {L : List Pc} {j : Nat} {p : Pc} (h : L[j]? = some p) : good (L.take (j + 1)) = good (L.take j) ++ if fitB p.l p.n = true then [p] else [] := by
  obtain ⟨h1, h2⟩ := List.getElem?_eq_some_iff.1 h
  unfold good
  rw [List.take_succ_eq_append_getElem h1, List.filter_append, h2]
  congr 1
  simp only [List.filter_cons, List.filter_nil]

theorem info32 : (Tryz.prog.info? 59).map (fun i => (i.zero, i.size, i.bytes)) = some (some (.agg #[.int .i64 0, .int .i64 0, .int .i64 0, .int .i64 0]), 4, 32) := by kernel_rfl

theorem lit_cells (w : World) (cs : Array Value) (e : TypeId) (j : Nat) (u : Value) (h : cs.toList[j]? = some u) : (w.alloc (.cells cs e)).cell? ((⟨w.heap.size, 0, none⟩ : Addr).add j) = some u := by
  have : (⟨w.heap.size, 0, none⟩ : Addr).add j = ⟨w.heap.size, j, none⟩ := by unfold Addr.add; split <;> simp_all
  rw [this, World.cell?_alloc_mark, ← Array.getElem?_toList]; exact h

theorem Rdb.keep {w w' : World} {v : Value} {L : List Pc} (h : Rdb w v L) (hb : Below w.heap.size w w') : Rdb w' v L := by
  obtain ⟨ao, n, c, h1, h2, h3, h4⟩ := h
  refine ⟨ao, n, c, h1, h2, h3, ?_⟩
  rcases h4 with h4 | ⟨b, off, h5, h6⟩
  · exact .inl h4
  · exact .inr ⟨b, off, h5, h6.keep hb⟩

theorem fineL_good {L : List Pc} (h : L.length ≤ 1048576) : fineL (good L) := ⟨good_fit, Nat.le_trans (good_le L) h⟩

/-- a store into a block that is no node -/
theorem At.put {w : World} {b i t : Nat} {cs : Array Value} {v : Value} (hb : w.heap[b]? = some (.cells cs t (0, 0))) (ht : t ≠ 168) : ∀ {T : Tr} {a : Option Addr}, At w T a → At (w.setCell ⟨b, i, none⟩ v) T a
  | (Tr.mk none), _, h => h
  | (Tr.mk (some (c, l, p, r))), _, ⟨b', la, ra, e, h, h1, h2⟩ => by
    refine ⟨b', la, ra, e, ?_, h1.put hb ht, h2.put hb ht⟩
    rw [Below.heap_setCell _ _ _ _ ?_]
    · exact h
    · intro e1
      have e2 : b' = b := e1
      subst e2
      rw [hb] at h
      have := Option.some.inj h
      unfold nodeObj at this
      injection this with _ e3 _
      exact ht e3

end Go.Proofs.YtmhpeppbhjpkiaaGreat

/- The contracts of Len, Bytes, Lines, Height, hasGap, hasPiece, Get. -/
namespace Go.Proofs.YtmhpeppbhjpkiaaGreat
open Go.RowKit

theorem bcell {W w1 : World} (hb : Below W.heap.size W w1) : (∀ b o, b < W.heap.size → w1.cell? ⟨b, o, none⟩ = W.cell? ⟨b, o, none⟩) ∧ (∀ b o, b < W.heap.size → w1.frozen? ⟨b, o, none⟩ = W.frozen? ⟨b, o, none⟩) :=
  ⟨fun b o h => hb.cell (p := ⟨b, o, none⟩) h, fun b o h => hb.frozen (p := ⟨b, o, none⟩) h⟩

set_option maxHeartbeats 400000 in
theorem Len_any (t : Tr) (a : Option Addr) (w : World) (h : Hid (At w t a)) : Calls Tryz.prog 117 #[.agg #[.pointer a]] w fun e w' => e = .returned (.int .i64 (t.size : Nat)) ∧ w' = w.alloc (.cells #[.pointer a] 53) := by
  go_enter Tryz.func117, Tryz.ntmps117
  go_wp2_with (go_at_call 86; refine (pieces_any t _ _ (h.out.alloc _)).mono ?_; rintro e w' ⟨rfl, rfl⟩)
  go_ret
  exact ⟨rfl, rfl⟩
set_option maxHeartbeats 400000 in
theorem Bytes_any (t : Tr) (a : Option Addr) (w : World) (h : Hid (At w t a)) : Calls Tryz.prog 73 #[.agg #[.pointer a]] w fun e w' => e = .returned (.int .i64 t.byt) ∧ w' = w.alloc (.cells #[.pointer a] 53) := by
  go_enter Tryz.func73, Tryz.ntmps73
  go_wp2_with (go_at_call 106; refine (bytes_any t _ _ (h.out.alloc _)).mono ?_; rintro e w' ⟨rfl, rfl⟩)
  go_ret
  exact ⟨rfl, rfl⟩
set_option maxHeartbeats 400000 in
theorem Lines_any (t : Tr) (a : Option Addr) (w : World) (h : Hid (At w t a)) : Calls Tryz.prog 65 #[.agg #[.pointer a]] w fun e w' => e = .returned (.int .i64 t.lin) ∧ w' = w.alloc (.cells #[.pointer a] 53) := by
  go_enter Tryz.func65, Tryz.ntmps65
  go_wp2_with (go_at_call 108; refine (lines_any t _ _ (h.out.alloc _)).mono ?_; rintro e w' ⟨rfl, rfl⟩)
  go_ret
  exact ⟨rfl, rfl⟩
set_option maxHeartbeats 400000 in
theorem hasGap_any (t : Tr) (a : Option Addr) (i : Int) (w : World) (h : Hid (At w t a)) : Calls Tryz.prog 109 #[.agg #[.pointer a], .int .i64 i] w fun e w' => e = .returned (.bool (decide (0 ≤ i ∧ i ≤ (t.size : Int)))) ∧ Below w.heap.size w w' := by
  by_cases hi : 0 ≤ i
  · go_enter Tryz.func109, Tryz.ntmps109
    go_wp2_with (go_at_call 117; refine (Len_any t _ _ (h.out.alloc _)).mono ?_; rintro e w' ⟨rfl, rfl⟩)
    go_ret
    exact ⟨ret_bool (by simp [hi]), bAlloc (bAlloc (Below.refl _ _) _) _⟩
  · have hd : decide (0 ≤ i) = false := by simpa using hi
    go_enter Tryz.func109, Tryz.ntmps109
    go_wp2_with fail
    go_ret
    exact ⟨ret_bool (by first | rfl | (symm; rw [decide_eq_false_iff_not]; omega)), bAlloc (Below.refl _ _) _⟩
set_option maxHeartbeats 400000 in
theorem hasPiece_any (t : Tr) (a : Option Addr) (i : Int) (w : World) (h : Hid (At w t a)) : Calls Tryz.prog 107 #[.agg #[.pointer a], .int .i64 i] w fun e w' => e = .returned (.bool (decide (0 ≤ i ∧ i < (t.size : Int)))) ∧ Below w.heap.size w w' := by
  by_cases hi : 0 ≤ i
  · go_enter Tryz.func107, Tryz.ntmps107
    go_wp2_with (go_at_call 117; refine (Len_any t _ _ (h.out.alloc _)).mono ?_; rintro e w' ⟨rfl, rfl⟩)
    go_ret
    exact ⟨ret_bool (by simp [hi]), bAlloc (bAlloc (Below.refl _ _) _) _⟩
  · have hd : decide (0 ≤ i) = false := by simpa using hi
    go_enter Tryz.func107, Tryz.ntmps107
    go_wp2_with fail
    go_ret
    exact ⟨ret_bool (by first | rfl | (symm; rw [decide_eq_false_iff_not]; omega)), bAlloc (Below.refl _ _) _⟩

theorem bA2 {w w' : World} {x y : Obj} (h : Below ((w.alloc x).alloc y).heap.size ((w.alloc x).alloc y) w') : Below w.heap.size w w' := bA (bA h)

/-- what Get answers -/
def pcAt (L : List Pc) (i : Int) : Pc := if 0 ≤ i then (L[i.toNat]?).getD ⟨0, 0, 0, 0⟩ else ⟨0, 0, 0, 0⟩

set_option maxHeartbeats 1000000 in
theorem Get_yes (t : Tr) (a : Option Addr) (i : Nat) (w : World) (hi : i < t.size) (hz : t.size ≤ 1048576) (h : Hid (At w t a)) :
    Calls Tryz.prog 60 #[.agg #[.pointer a], .int .i64 (i : Nat)] w fun e w' => ∃ s o n k, t.list[i]? = some ⟨s, o, n, k⟩ ∧ e = .returned (.tuple #[.agg #[.int .i64 s, .int .i64 o, .int .i64 n, .int .i64 k], .int .i64 0]) ∧ Below w.heap.size w w' := by
  have hd : decide (0 ≤ (i : Int) ∧ (i : Int) < (t.size : Int)) = true := by simp; omega
  go_enter Tryz.func60, Tryz.ntmps60
  go_wp2_with (first | (go_at_call 107; refine (hasPiece_any t _ _ _ ((h.out.alloc _).alloc _)).mono ?_; rw [hd]; rintro e w9 ⟨rfl, hb9⟩; obtain ⟨c9, f9⟩ := bcell hb9)
                     | (go_at_call 88; refine (get_any t i _ _ hi hz (((h.out.alloc _).alloc _).keep hb9)).mono ?_; rintro e w8 ⟨s, o, n, k, hg, rfl, hb8⟩; have L8 := hb9.trans (hb8.mono hb9.size); obtain ⟨c8, f8⟩ := bcell L8))
  refine bodyPost_ret (v := .tuple #[.agg #[.int .i64 s, .int .i64 o, .int .i64 n, .int .i64 k], .int .i64 0]) (by simp [results, Tryz.results60, go_sem, c8]) rfl ⟨s, o, n, k, hg, rfl, ?_⟩
  exact below_put4 (bA2 L8) (by omega) _ _ _ _

set_option maxHeartbeats 1000000 in
theorem Get_no (t : Tr) (a : Option Addr) (i : Int) (w : World) (hd : decide (0 ≤ i ∧ i < (t.size : Int)) = false) (h : Hid (At w t a)) :
    Calls Tryz.prog 60 #[.agg #[.pointer a], .int .i64 i] w fun e w' => e = .returned (.tuple #[.agg #[.int .i64 0, .int .i64 0, .int .i64 0, .int .i64 0], .int .i64 20]) ∧ Below w.heap.size w w' := by
  go_enter Tryz.func60, Tryz.ntmps60
  go_wp2_with (first | (go_at_call 107; refine (hasPiece_any t _ _ _ ((h.out.alloc _).alloc _)).mono ?_; rw [hd]; rintro e w9 ⟨rfl, hb9⟩; obtain ⟨c9, f9⟩ := bcell hb9))
  refine bodyPost_ret (v := .tuple #[.agg #[.int .i64 0, .int .i64 0, .int .i64 0, .int .i64 0], .int .i64 20]) (by simp [results, Tryz.results60, go_sem, c9]) rfl ⟨rfl, ?_⟩
  exact below_put4 (bA2 hb9) (by omega) _ _ _ _
end Go.Proofs.YtmhpeppbhjpkiaaGreat

/- The contracts of Join, Split, Insert, Delete. -/
namespace Go.Proofs.YtmhpeppbhjpkiaaGreat
open Go.RowKit

/-- a tree stored into the answer's own block -/
theorem fin1 {w W w8 : World} {b : Nat} {T : Tr} {x : Option Addr} {v : Value} (hW : W.heap[b]? = some (Obj.cells #[.pointer none] 53 (0, 0))) (L : Below W.heap.size W w8) (hb : w.heap.size ≤ b) (hw : Below w.heap.size w W) (hx : At w8 T x) :
    At (w8.setCell ⟨b, 0, none⟩ v) T x ∧ Below w.heap.size w (w8.setCell ⟨b, 0, none⟩ v) :=
  ⟨hx.put (nkeep hW L) (by decide), (hw.trans (L.mono hw.size)).setCell (p := ⟨b, 0, none⟩) hb _⟩

theorem alloc2_here (w : World) (x y : Obj) : ((w.alloc x).alloc y).heap[w.heap.size + 1]? = some y := by
  have := heap_alloc_new (w.alloc x) y
  simpa using this
theorem alloc3_here (w : World) (x y z : Obj) : (((w.alloc x).alloc y).alloc z).heap[w.heap.size + 1 + 1]? = some z := by
  have := heap_alloc_new ((w.alloc x).alloc y) z
  simpa using this
theorem bAA (w : World) (x y : Obj) : Below w.heap.size w ((w.alloc x).alloc y) := bAlloc (bAlloc (Below.refl _ _) _) _
theorem bAAA (w : World) (x y z : Obj) : Below w.heap.size w (((w.alloc x).alloc y).alloc z) := bAlloc (bAlloc (bAlloc (Below.refl _ _) _) _) _

end Go.Proofs.YtmhpeppbhjpkiaaGreat

/- The contracts of set, Set, Insert, Split and Join. -/
namespace Go.Proofs.YtmhpeppbhjpkiaaGreat
open Go.RowKit

/-- another piece at a place -/
def Tr.setT : Tr → Nat → Pc → Tr
  | (Tr.mk none), _, _ => Tr.mk none
  | (Tr.mk (some (c, l, q, r))), i, p =>
    if i < l.size then Tr.mk (some (c, l.setT i p, q, r)) else if i = l.size then Tr.mk (some (c, l, p, r)) else Tr.mk (some (c, l, q, r.setT (i - l.size - 1) p))
theorem setT_size : ∀ (t : Tr) (i : Nat) (p : Pc), (t.setT i p).size = t.size ∧ (t.setT i p).bh = t.bh ∧ (t.setT i p).red = t.red ∧ (t.bal → (t.setT i p).bal)
  | (Tr.mk none), i, p => by simp [Tr.setT]
  | (Tr.mk (some (c, l, q, r))), i, p => by
    simp only [Tr.setT]
    have a := setT_size l i p
    have b := setT_size r (i - l.size - 1) p
    split
    · refine ⟨by simp only [Tr.size, a.1], by simp only [Tr.bh, a.2.1], rfl, fun h => ⟨a.2.2.2 h.1, h.2.1, by rw [a.2.1]; exact h.2.2.1, by rw [a.2.2.1]; exact h.2.2.2⟩⟩
    · split
      · exact ⟨rfl, rfl, rfl, fun h => h⟩
      · refine ⟨by simp only [Tr.size, b.1], rfl, rfl, fun h => ⟨h.1, b.2.2.2 h.2.1, by rw [b.2.1]; exact h.2.2.1, by rw [b.2.2.1]; exact h.2.2.2⟩⟩
theorem setT_whole {t : Tr} (h : t.whole) (i : Nat) (p : Pc) : (t.setT i p).whole := ⟨(setT_size t i p).2.2.2 h.1, by rw [(setT_size t i p).2.2.1]; exact h.2⟩
theorem setT_list : ∀ (t : Tr) (i : Nat) (p : Pc), (t.setT i p).list = t.list.set i p
  | (Tr.mk none), i, p => by simp [Tr.setT, Tr.list]
  | (Tr.mk (some (c, l, q, r))), i, p => by
    have z := Tr.size_list l
    simp only [Tr.setT]
    split
    · simp only [Tr.list]; rw [setT_list l i p, List.set_append_left _ _ (by omega)]
    · split
      · rename_i h; subst h; simp only [Tr.list]; rw [List.set_append_right _ _ (by omega), z, Nat.sub_self]; rfl
      · rename_i h1 h2
        simp only [Tr.list]
        rw [setT_list r _ p, List.set_append_right _ _ (by omega), z]
        obtain ⟨j, hj⟩ : ∃ j, i - l.size = j + 1 := ⟨i - l.size - 1, by omega⟩
        rw [hj]; rfl
theorem setT_fine {t : Tr} (h : t.fine) (i : Nat) {p : Pc} (hp : p.fit) : (t.setT i p).fine := by
  refine (Tr.fine_list _).2 ?_
  rw [setT_list, List.length_set]
  refine ⟨fun q hq => ?_, ((Tr.fine_list t).1 h).2⟩
  rcases List.mem_or_eq_of_mem_set hq with h1 | rfl
  · exact ((Tr.fine_list t).1 h).1 q h1
  · exact hp

theorem boxk {w w' : World} {x : Obj} (hb : Below ((w.alloc x).drew).heap.size ((w.alloc x).drew) w') : w'.heap[w.heap.size]? = some x := nkeep (heap_alloc_new w x) (bD hb)
theorem s11c {w : World} {b bx : Nat} {c : Bool} {l : Tr} {qs qo qn qk : Int} {r : Tr} {la ra : Option Addr} {s o n k : Int} (h : w.heap[b]? = some (nodeObj c l ⟨qs, qo, qn, qk⟩ r la ra)) (hx : w.heap[bx]? = some (Obj.cells #[.int .i64 s, .int .i64 o, .int .i64 n, .int .i64 k] 59 (0, 0))) :
    w.cell? ⟨b, 0, none⟩ = some (.int .i64 qs) ∧ w.cell? ⟨b, 1, none⟩ = some (.int .i64 qo) ∧ w.cell? ⟨b, 2, none⟩ = some (.int .i64 qn) ∧ w.cell? ⟨b, 3, none⟩ = some (.int .i64 qk) ∧ w.cell? ⟨b, 4, none⟩ = some (.bool c) ∧ w.cell? ⟨b, 10, none⟩ = some (.pointer la) ∧ w.cell? ⟨b, 11, none⟩ = some (.pointer ra) ∧ w.cell? ⟨bx, 0, none⟩ = some (.int .i64 s) ∧ w.cell? ⟨bx, 1, none⟩ = some (.int .i64 o) ∧ w.cell? ⟨bx, 2, none⟩ = some (.int .i64 n) ∧ w.cell? ⟨bx, 3, none⟩ = some (.int .i64 k) := by
  have q := ncells h
  have e := fun j => cell_of_row w bx j _ 59 (0, 0) hx
  exact ⟨q.c0, q.c1, q.c2, q.c3, q.c4, q.c10, q.c11, by rw [e]; rfl, by rw [e]; rfl, by rw [e]; rfl, by rw [e]; rfl⟩

end Go.Proofs.YtmhpeppbhjpkiaaGreat

