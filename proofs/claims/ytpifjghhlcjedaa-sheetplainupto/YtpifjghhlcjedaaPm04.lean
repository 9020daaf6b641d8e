/- The contract of shade.Build: the pieces that are fit, made a tree. -/
import Derived.Test.YtpifjghhlcjedaaPm03
import Derived.OwnWalk
import Derived.Laws.AppendOwnNone
namespace Go.Proofs.Ytpifjghhlcjedaa
open Go.RowKit

/-- A piece's cells. -/
def Pc.cs (p : Pc) : List Value := [.int .i64 p.s, .int .i64 p.o, .int .i64 p.l, .int .i64 p.n]
def cells (L : List Pc) : List Value := L.flatMap Pc.cs
theorem cells_length (L : List Pc) : (cells L).length = L.length * 4 := by
  induction L with
  | nil => rfl
  | cons p L ih => simp only [cells, List.flatMap_cons, List.length_append, List.length_cons] at *; rw [ih]; simp [Pc.cs]; omega
theorem cells_append (L M : List Pc) : cells (L ++ M) = cells L ++ cells M := by simp [cells]
theorem cells_at {L : List Pc} {j : Nat} {p : Pc} (h : L[j]? = some p) (i : Nat) (hi : i < 4) : (cells L)[j * 4 + i]? = p.cs[i]? := by
  induction L generalizing j with
  | nil => simp at h
  | cons q L ih =>
    have e : cells (q :: L) = q.cs ++ cells L := by simp [cells]
    rw [e]
    cases j with
    | zero =>
      simp at h; subst h
      rw [Nat.zero_mul, Nat.zero_add, List.getElem?_append_left (by simp [Pc.cs]; omega)]
    | succ j =>
      rw [List.getElem?_cons_succ] at h
      rw [List.getElem?_append_right (by simp [Pc.cs]; omega)]
      rw [← ih h]
      congr 1
      simp [Pc.cs]; omega

/-- a row that the call owns is a list that can be read -/
theorem own_rdb {w : World} {base e n : Nat} {v : Value} {L : List Pc} (h : w.ownsRow base e 4 v n (cells L)) : Rdb w v L := by
  have hl : n = L.length := by have := h.1; rw [cells_length] at this; omega
  rcases h.2 with ⟨rfl, rfl⟩ | ⟨g, cap, cur, rfl, hb, hg, h1, h2, h3, h4⟩
  · exact ⟨_, _, _, rfl, hl, Nat.le_refl _, .inl (List.eq_nil_of_length_eq_zero hl.symm)⟩
  · refine ⟨_, _, _, rfl, hl, h1, .inr ⟨g, 0, rfl, fun j p hj => ?_⟩⟩
    have hlt := (List.getElem?_eq_some_iff.1 hj).1
    have c := fun i (hi : i < 4) => (h.cellAt (j * 4 + i) (by omega)).trans (cells_at hj i hi)
    rw [Nat.zero_add]
    exact ⟨by simpa [Pc.cs] using c 0 (by omega), by simpa [Pc.cs] using c 1 (by omega), by simpa [Pc.cs] using c 2 (by omega), by simpa [Pc.cs] using c 3 (by omega)⟩

/-- the pieces that are fit -/
def good (L : List Pc) : List Pc := L.filter fun p => fitB p.l p.n
theorem good_le (L : List Pc) : (good L).length ≤ L.length := List.length_filter_le _ _
theorem good_fit {L : List Pc} : ∀ p ∈ good L, p.fit := by
  intro p hp
  have := (List.mem_filter.1 hp).2
  exact (fitB_iff p.s p.o p.l p.n).1 this
theorem good_take {L : List Pc} {j : Nat} {p : Pc} (h : L[j]? = some p) : good (L.take (j + 1)) = good (L.take j) ++ if fitB p.l p.n = true then [p] else [] := by
  obtain ⟨h1, h2⟩ := List.getElem?_eq_some_iff.1 h
  unfold good
  rw [List.take_succ_eq_append_getElem h1, List.filter_append, h2]
  congr 1
  simp only [List.filter_cons, List.filter_nil]

theorem info32 : (Try.prog.info? 32).map (fun i => (i.zero, i.size, i.bytes)) = some (some (.agg #[.int .i64 0, .int .i64 0, .int .i64 0, .int .i64 0]), 4, 32) := by kernel_rfl

theorem lit_cells (w : World) (cs : Array Value) (e : TypeId) (j : Nat) (u : Value) (h : cs.toList[j]? = some u) : (w.alloc (.cells cs e)).cell? ((⟨w.heap.size, 0, none⟩ : Addr).add j) = some u := by
  have : (⟨w.heap.size, 0, none⟩ : Addr).add j = ⟨w.heap.size, j, none⟩ := by unfold Addr.add; split <;> simp_all
  rw [this, World.cell?_alloc_mark, ← Array.getElem?_toList]; exact h

theorem Rdb.keep {w w' : World} {v : Value} {L : List Pc} (h : Rdb w v L) (hb : Below w.heap.size w w') : Rdb w' v L := by
  obtain ⟨ao, n, c, h1, h2, h3, h4⟩ := h
  refine ⟨ao, n, c, h1, h2, h3, ?_⟩
  rcases h4 with h4 | ⟨b, off, h5, h6⟩
  · exact .inl h4
  · exact .inr ⟨b, off, h5, h6.keep hb⟩

theorem fineL_good {L : List Pc} (h : L.length ≤ 1048576) : fineL (good L) := ⟨good_fit, Nat.le_trans (good_le L) h⟩

/-- a store into a block that is no node -/
theorem At.put {w : World} {b i t : Nat} {cs : Array Value} {v : Value} (hb : w.heap[b]? = some (.cells cs t (0, 0))) (ht : t ≠ 137) : ∀ {T : Tr} {a : Option Addr}, At w T a → At (w.setCell ⟨b, i, none⟩ v) T a
  | (Tr.mk none), _, h => h
  | (Tr.mk (some (c, l, p, r))), _, ⟨b', la, ra, e, h, h1, h2⟩ => by
    refine ⟨b', la, ra, e, ?_, h1.put hb ht, h2.put hb ht⟩
    rw [Below.heap_setCell _ _ _ _ ?_]
    · exact h
    · intro e1
      have e2 : b' = b := e1
      subst e2
      rw [hb] at h
      have := Option.some.inj h
      unfold nodeObj at this
      injection this with _ e3 _
      exact ht e3

set_option maxHeartbeats 4000000 in
theorem Build_any (v : Value) (L : List Pc) (w : World) (hz : L.length ≤ 1048576) (h : Hid (Rdb w v L)) :
    Calls Try.prog 12 #[v] w fun e w' => ∃ a, e = .returned (.agg #[.pointer a]) ∧ At w' (Tr.buildT (good L)) a ∧ Below w.heap.size w w' := by
  obtain ⟨ao, n, c, rfl, hn, hc, hr⟩ := h.out
  have HR : Hid (L = [] ∨ ∃ b off, ao = some ⟨b, off, none⟩ ∧ Row w b off L) := hr
  subst hn
  clear h hr
  obtain ⟨i0, hi, hz0, hz1, hz2⟩ := info_parts info32
  go_enter Try.func12, Try.ntmps12
  go_wp2
  go_loopw [3, 8] (fun g i wr => ∃ j : Nat, j ≤ L.length ∧ i = .int .i64 j ∧ wr.ownsRow (w.heap.size + 1) 32 4 g (good (L.take j)).length (cells (good (L.take j))) ∧ Below (w.alloc (.cells #[.pointer none] 26)).heap.size (w.alloc (.cells #[.pointer none] 26)) wr) (fun _ i _ => L.length - (intOf i).toNat)
  case atStart => exact ⟨0, Nat.zero_le _, rfl, World.ownsRow_nil _ _ _ _, Below.refl _ _⟩
  case round =>
    obtain ⟨j, hj, rfl, hown, hb⟩ := hrel
    have HW : Hid (wr.ownsRow (w.heap.size + 1) 32 4 u3 (good (L.take j)).length (cells (good (L.take j)))) := hown
    have HB : Hid (Below (w.alloc (.cells #[.pointer none] 26)).heap.size (w.alloc (.cells #[.pointer none] 26)) wr) := hb
    clear hown hb
    by_cases hlt : j < L.length
    · rcases HR.out with hn | ⟨b, off, rfl, hr⟩
      · rw [hn] at hlt; simp at hlt
      rcases hp : L[j]? with _ | ⟨s, o, n, k⟩
      · have := List.getElem?_eq_none_iff.1 hp; omega
      obtain ⟨r0, r1, r2, r3⟩ := row4 (hr.keep (bA HB.out)) hp
      have hj0 : (0 : Int) ≤ (j : Int) := by omega
      have hjl : (j : Int) < (L.length : Int) := by omega
      have HG : Hid (good (L.take (j + 1)) = good (L.take j) ++ if fitB n k = true then [⟨s, o, n, k⟩] else []) := good_take hp
      have hgl : (good (L.take j)).length ≤ j := by have := good_le (L.take j); have := List.length_take_le j L; omega
      clear hr hp
      cases hf : fitB n k with
      | false =>
        rw [hf] at HG
        go_wp2_with (go_at_call 53; refine (fit_any s o n k _).mono ?_; rintro e w' ⟨rfl, rfl⟩; rw [hf])
        go_roundw
        case rel => exact ⟨j + 1, by omega, by go_num, by rw [HG.out]; simpa using (HW.out.alloc _).alloc _, bAlloc (bAlloc HB.out _) _⟩
        case measure => simp [intOf]; omega
      | true =>
        rw [hf] at HG
        go_wp2_with (first | (go_at_call 53; refine (fit_any s o n k _).mono ?_; rintro e w' ⟨rfl, rfl⟩; rw [hf])
                           | (at_builtin; refine wpList_append_own _ rfl (.tmp 14) (.tmp 16) 33 rfl (w.heap.size + 1) 32 i0 (.agg #[.int .i64 0, .int .i64 0, .int .i64 0, .int .i64 0]) 4 32 Try.underlying33 hi hz0 hz1 hz2 rfl (by decide) u3 (good (L.take j)).length (cells (good (L.take j))) rfl (((HW.out.alloc _).alloc _).alloc _) ⟨wr.heap.size + 1 + 1, 0, none⟩ 1 1 [.int .i64 s, .int .i64 o, .int .i64 n, .int .i64 k] rfl rfl ?qd2 ?qd3 ?qd4 ?qd5 ?qd6 ?_))
        case qd2 => exact fun k' u hk => by have := lit_cells ((wr.alloc (.cells #[.int .i64 s, .int .i64 o, .int .i64 n, .int .i64 k] 32)).alloc (.cells #[.int .i64 s, .int .i64 o, .int .i64 n, .int .i64 k] 32)) #[.int .i64 s, .int .i64 o, .int .i64 n, .int .i64 k] 32 k' u hk; simpa using this
        case qd3 => intro u hu; simp at hu; rcases hu with rfl | rfl | rfl | rfl <;> rfl
        case qd4 => unfold maxLen; omega
        case qd5 => omega
        case qd6 => have := HB.out.size; simp at this ⊢; omega
        intro v' w2 hown hgrow _
        have HW2 : Hid (w2.ownsRow (w.heap.size + 1) 32 4 v' (good (L.take (j + 1))).length (cells (good (L.take (j + 1))))) := by
          unfold Hid
          rw [HG.out]
          simp only [if_true, List.length_append, cells_append]
          exact hown
        have HB2 : Hid (Below (w.alloc (.cells #[.pointer none] 26)).heap.size (w.alloc (.cells #[.pointer none] 26)) w2) := (bAlloc (bAlloc (bAlloc HB.out _) _) _).grown hgrow (by have := HB.out.size; simp at this ⊢; omega) (fun k hk => by have := (HW.out.lt k hk).1; simpa using this)
        clear hown hgrow
        go_wp2
        go_roundw
        case rel => exact ⟨j + 1, by omega, by go_num, HW2.out, HB2.out⟩
        case measure => simp [intOf]; omega
    · obtain rfl : j = L.length := by omega
      rw [List.take_length] at HW
      have HB' := HB.out
      have c0 : (w.alloc (.cells #[.pointer none] 26)).cell? ⟨w.heap.size, 0, none⟩ = some (.pointer none) := by simp
      have f0 : (w.alloc (.cells #[.pointer none] 26)).frozen? ⟨w.heap.size, 0, none⟩ = false := by simp
      have z0 : wr.cell? ⟨w.heap.size, 0, none⟩ = some (.pointer none) := by rw [HB'.cell (by simp)]; exact c0
      have z1 : wr.frozen? ⟨w.heap.size, 0, none⟩ = false := by rw [HB'.frozen (by simp)]; exact f0
      clear c0 f0 HB'
      have hzl : (w.alloc (.cells #[.pointer none] 26)).heap.size ≤ wr.heap.size := HB.out.size
      simp at hzl
      go_wp2_with (go_at_call 54; refine (build_any _ (good L) _ _ (Nat.le_refl _) (fineL_good hz) (own_rdb HW.out)).mono ?_; rintro e w9 ⟨x9, rfl, hx9, hb9⟩; have y0 : w9.cell? ⟨w.heap.size, 0, none⟩ = some (.pointer none) := (hb9.cell (p := ⟨w.heap.size, 0, none⟩) (by simp; omega)).trans z0; have y1 : w9.frozen? ⟨w.heap.size, 0, none⟩ = false := (hb9.frozen (p := ⟨w.heap.size, 0, none⟩) (by simp; omega)).trans z1)
      have hh : wr.heap[w.heap.size]? = some (.cells #[.pointer none] 26 (0, 0)) := by
        rw [HB.out.block w.heap.size (by simp)]; exact heap_alloc_new _ _
      refine bodyPost_ret (v := .agg #[.pointer x9]) (by simp [results, Try.results12, go_sem, y0]) rfl ⟨x9, rfl, hx9.put (nkeep hh hb9) (by decide), ?_⟩
      exact ((bA HB.out).trans (hb9.mono (by omega))).setCell (p := ⟨w.heap.size, 0, none⟩) (Nat.le_refl _) _
end Go.Proofs.Ytpifjghhlcjedaa

/- The contracts of Len, Bytes, Lines, Height, hasGap, hasPiece, Get. -/
namespace Go.Proofs.Ytpifjghhlcjedaa
open Go.RowKit

theorem bcell {W w1 : World} (hb : Below W.heap.size W w1) : (∀ b o, b < W.heap.size → w1.cell? ⟨b, o, none⟩ = W.cell? ⟨b, o, none⟩) ∧ (∀ b o, b < W.heap.size → w1.frozen? ⟨b, o, none⟩ = W.frozen? ⟨b, o, none⟩) :=
  ⟨fun b o h => hb.cell (p := ⟨b, o, none⟩) h, fun b o h => hb.frozen (p := ⟨b, o, none⟩) h⟩

set_option maxHeartbeats 400000 in
theorem Len_any (t : Tr) (a : Option Addr) (w : World) (h : Hid (At w t a)) : Calls Try.prog 19 #[.agg #[.pointer a]] w fun e w' => e = .returned (.int .i64 (t.size : Nat)) ∧ w' = w.alloc (.cells #[.pointer a] 26) := by
  go_enter Try.func19, Try.ntmps19
  go_wp2_with (go_at_call 61; refine (pieces_any t _ _ (h.out.alloc _)).mono ?_; rintro e w' ⟨rfl, rfl⟩)
  go_ret
  exact ⟨rfl, rfl⟩
set_option maxHeartbeats 400000 in
theorem Bytes_any (t : Tr) (a : Option Addr) (w : World) (h : Hid (At w t a)) : Calls Try.prog 52 #[.agg #[.pointer a]] w fun e w' => e = .returned (.int .i64 t.byt) ∧ w' = w.alloc (.cells #[.pointer a] 26) := by
  go_enter Try.func52, Try.ntmps52
  go_wp2_with (go_at_call 89; refine (bytes_any t _ _ (h.out.alloc _)).mono ?_; rintro e w' ⟨rfl, rfl⟩)
  go_ret
  exact ⟨rfl, rfl⟩
set_option maxHeartbeats 400000 in
theorem Lines_any (t : Tr) (a : Option Addr) (w : World) (h : Hid (At w t a)) : Calls Try.prog 63 #[.agg #[.pointer a]] w fun e w' => e = .returned (.int .i64 t.lin) ∧ w' = w.alloc (.cells #[.pointer a] 26) := by
  go_enter Try.func63, Try.ntmps63
  go_wp2_with (go_at_call 96; refine (lines_any t _ _ (h.out.alloc _)).mono ?_; rintro e w' ⟨rfl, rfl⟩)
  go_ret
  exact ⟨rfl, rfl⟩
set_option maxHeartbeats 400000 in
theorem Height_any (t : Tr) (a : Option Addr) (w : World) (h : Hid (At w t a)) : Calls Try.prog 62 #[.agg #[.pointer a]] w fun e w' => e = .returned (.int .i64 (t.ht : Nat)) ∧ w' = w.alloc (.cells #[.pointer a] 26) := by
  go_enter Try.func62, Try.ntmps62
  go_wp2_with (go_at_call 95; refine (height_any t _ _ (h.out.alloc _)).mono ?_; rintro e w' ⟨rfl, rfl⟩)
  go_ret
  exact ⟨rfl, rfl⟩

set_option maxHeartbeats 400000 in
theorem hasGap_any (t : Tr) (a : Option Addr) (i : Int) (w : World) (h : Hid (At w t a)) : Calls Try.prog 57 #[.agg #[.pointer a], .int .i64 i] w fun e w' => e = .returned (.bool (decide (0 ≤ i ∧ i ≤ (t.size : Int)))) ∧ Below w.heap.size w w' := by
  by_cases hi : 0 ≤ i
  · go_enter Try.func57, Try.ntmps57
    go_wp2_with (go_at_call 19; refine (Len_any t _ _ (h.out.alloc _)).mono ?_; rintro e w' ⟨rfl, rfl⟩)
    go_ret
    exact ⟨ret_bool (by simp [hi]), bAlloc (bAlloc (Below.refl _ _) _) _⟩
  · have hd : decide (0 ≤ i) = false := by simpa using hi
    go_enter Try.func57, Try.ntmps57
    go_wp2_with fail
    go_ret
    exact ⟨ret_bool (by first | rfl | (symm; rw [decide_eq_false_iff_not]; omega)), bAlloc (Below.refl _ _) _⟩
set_option maxHeartbeats 400000 in
theorem hasPiece_any (t : Tr) (a : Option Addr) (i : Int) (w : World) (h : Hid (At w t a)) : Calls Try.prog 59 #[.agg #[.pointer a], .int .i64 i] w fun e w' => e = .returned (.bool (decide (0 ≤ i ∧ i < (t.size : Int)))) ∧ Below w.heap.size w w' := by
  by_cases hi : 0 ≤ i
  · go_enter Try.func59, Try.ntmps59
    go_wp2_with (go_at_call 19; refine (Len_any t _ _ (h.out.alloc _)).mono ?_; rintro e w' ⟨rfl, rfl⟩)
    go_ret
    exact ⟨ret_bool (by simp [hi]), bAlloc (bAlloc (Below.refl _ _) _) _⟩
  · have hd : decide (0 ≤ i) = false := by simpa using hi
    go_enter Try.func59, Try.ntmps59
    go_wp2_with fail
    go_ret
    exact ⟨ret_bool (by first | rfl | (symm; rw [decide_eq_false_iff_not]; omega)), bAlloc (Below.refl _ _) _⟩

theorem bA2 {w w' : World} {x y : Obj} (h : Below ((w.alloc x).alloc y).heap.size ((w.alloc x).alloc y) w') : Below w.heap.size w w' := bA (bA h)

/-- what Get answers -/
def pcAt (L : List Pc) (i : Int) : Pc := if 0 ≤ i then (L[i.toNat]?).getD ⟨0, 0, 0, 0⟩ else ⟨0, 0, 0, 0⟩

set_option maxHeartbeats 1000000 in
theorem Get_yes (t : Tr) (a : Option Addr) (i : Nat) (w : World) (hi : i < t.size) (hz : t.size ≤ 1048576) (h : Hid (At w t a)) :
    Calls Try.prog 24 #[.agg #[.pointer a], .int .i64 (i : Nat)] w fun e w' => ∃ s o n k, t.list[i]? = some ⟨s, o, n, k⟩ ∧ e = .returned (.tuple #[.agg #[.int .i64 s, .int .i64 o, .int .i64 n, .int .i64 k], .int .i64 0]) ∧ Below w.heap.size w w' := by
  have hd : decide (0 ≤ (i : Int) ∧ (i : Int) < (t.size : Int)) = true := by simp; omega
  go_enter Try.func24, Try.ntmps24
  go_wp2_with (first | (go_at_call 59; refine (hasPiece_any t _ _ _ ((h.out.alloc _).alloc _)).mono ?_; rw [hd]; rintro e w9 ⟨rfl, hb9⟩; obtain ⟨c9, f9⟩ := bcell hb9)
                     | (go_at_call 68; refine (get_any t i _ _ hi hz (((h.out.alloc _).alloc _).keep hb9)).mono ?_; rintro e w8 ⟨s, o, n, k, hg, rfl, hb8⟩; have L8 := hb9.trans (hb8.mono hb9.size); obtain ⟨c8, f8⟩ := bcell L8))
  refine bodyPost_ret (v := .tuple #[.agg #[.int .i64 s, .int .i64 o, .int .i64 n, .int .i64 k], .int .i64 0]) (by simp [results, Try.results24, go_sem, c8]) rfl ⟨s, o, n, k, hg, rfl, ?_⟩
  exact below_put4 (bA2 L8) (by omega) _ _ _ _

set_option maxHeartbeats 1000000 in
theorem Get_no (t : Tr) (a : Option Addr) (i : Int) (w : World) (hd : decide (0 ≤ i ∧ i < (t.size : Int)) = false) (h : Hid (At w t a)) :
    Calls Try.prog 24 #[.agg #[.pointer a], .int .i64 i] w fun e w' => e = .returned (.tuple #[.agg #[.int .i64 0, .int .i64 0, .int .i64 0, .int .i64 0], .int .i64 20]) ∧ Below w.heap.size w w' := by
  go_enter Try.func24, Try.ntmps24
  go_wp2_with (first | (go_at_call 59; refine (hasPiece_any t _ _ _ ((h.out.alloc _).alloc _)).mono ?_; rw [hd]; rintro e w9 ⟨rfl, hb9⟩; obtain ⟨c9, f9⟩ := bcell hb9))
  refine bodyPost_ret (v := .tuple #[.agg #[.int .i64 0, .int .i64 0, .int .i64 0, .int .i64 0], .int .i64 20]) (by simp [results, Try.results24, go_sem, c9]) rfl ⟨rfl, ?_⟩
  exact below_put4 (bA2 hb9) (by omega) _ _ _ _
end Go.Proofs.Ytpifjghhlcjedaa

/- The contracts of Join, Split, Insert, Delete. -/
namespace Go.Proofs.Ytpifjghhlcjedaa
open Go.RowKit

/-- a tree stored into the answer's own block -/
theorem fin1 {w W w8 : World} {b : Nat} {T : Tr} {x : Option Addr} {v : Value} (hW : W.heap[b]? = some (Obj.cells #[.pointer none] 26 (0, 0))) (L : Below W.heap.size W w8) (hb : w.heap.size ≤ b) (hw : Below w.heap.size w W) (hx : At w8 T x) :
    At (w8.setCell ⟨b, 0, none⟩ v) T x ∧ Below w.heap.size w (w8.setCell ⟨b, 0, none⟩ v) :=
  ⟨hx.put (nkeep hW L) (by decide), (hw.trans (L.mono hw.size)).setCell (p := ⟨b, 0, none⟩) hb _⟩

theorem alloc2_here (w : World) (x y : Obj) : ((w.alloc x).alloc y).heap[w.heap.size + 1]? = some y := by
  have := heap_alloc_new (w.alloc x) y
  simpa using this
theorem alloc3_here (w : World) (x y z : Obj) : (((w.alloc x).alloc y).alloc z).heap[w.heap.size + 1 + 1]? = some z := by
  have := heap_alloc_new ((w.alloc x).alloc y) z
  simpa using this
theorem bAA (w : World) (x y : Obj) : Below w.heap.size w ((w.alloc x).alloc y) := bAlloc (bAlloc (Below.refl _ _) _) _
theorem bAAA (w : World) (x y z : Obj) : Below w.heap.size w (((w.alloc x).alloc y).alloc z) := bAlloc (bAlloc (bAlloc (Below.refl _ _) _) _) _

set_option maxHeartbeats 1000000 in
theorem Delete_yes (t : Tr) (a : Option Addr) (i : Nat) (w : World) (hi : Hid (i < t.size)) (hz : Hid t.fine) (hb : Hid t.whole) (h : Hid (At w t a)) :
    Calls Try.prog 17 #[.agg #[.pointer a], .int .i64 (i : Nat)] w fun e w' => ∃ x, e = .returned (.tuple #[.agg #[.pointer x], .int .i64 0]) ∧ At w' (Tr.gluT (Tr.splitT t i).1 (Tr.splitT t (i + 1)).2) x ∧ Below w.heap.size w w' := by
  have hd : decide (0 ≤ (i : Int) ∧ (i : Int) < (t.size : Int)) = true := by have := hi.out; simp; omega
  have hw : wrap64 ((i : Int) + 1) = ((i + 1 : Nat) : Int) := by have := hi.out; have := hz.out.2; rw [w64 (by omega) (by omega)]; omega
  have HF : Hid (fineL ((Tr.splitT t i).1.list ++ (Tr.splitT t (i + 1)).2.list)) := by
    unfold Hid
    rw [(Tr.splitT_list t i).1, (Tr.splitT_list t (i + 1)).2]
    refine hz.out.list.sub ?_
    conv => rhs; rw [← List.take_append_drop i t.list]
    refine List.Sublist.append (List.Sublist.refl _) ?_
    rw [← List.drop_drop]
    exact List.drop_sublist _ _
  go_enter Try.func17, Try.ntmps17
  go_wp2_with (first | (go_at_call 59; refine (hasPiece_any t _ _ _ ((h.out.alloc _).alloc _)).mono ?_; rw [hd]; rintro e w9 ⟨rfl, hb9⟩; obtain ⟨c9, f9⟩ := bcell hb9)
                     | (go_at_call_of 58 (Value.int .i64 (i : Int)); refine (split_any t i a _ (by have := hi.out; omega) hb.out.1 hz.out (((h.out.alloc _).alloc _).keep hb9)).mono ?_; rintro e w8 ⟨x8, y8, rfl, hx8, hy8, hb8⟩; have L8 := hb9.trans (hb8.mono hb9.size); obtain ⟨c8, f8⟩ := bcell L8)
                     | (go_at_call 58; refine (split_any t (i + 1) a _ (by have := hi.out; omega) hb.out.1 hz.out (((h.out.alloc _).alloc _).keep L8)).mono ?_; rintro e w7 ⟨x7, y7, rfl, hx7, hy7, hb7⟩; have L7 := L8.trans (hb7.mono L8.size); obtain ⟨c7, f7⟩ := bcell L7)
                     | (go_at_call 55; refine (together_any _ _ _ _ _ HF.out (Tr.splitT_whole t i hb.out.1).1 (Tr.splitT_whole t (i + 1) hb.out.1).2 (hx8.keep hb7) hy7).mono ?_; rintro e w6 ⟨z6, rfl, hz6, hb6⟩; have L6 := L7.trans (hb6.mono L7.size); obtain ⟨c6, f6⟩ := bcell L6))
  have F := fin1 (v := .pointer z6) (alloc2_here w _ _) L6 (by omega) (bAA w _ _) hz6
  refine bodyPost_ret (v := .tuple #[.agg #[.pointer z6], .int .i64 0]) (by simp [results, Try.results17, go_sem, c6]) rfl ⟨z6, rfl, F.1, F.2⟩

set_option maxHeartbeats 1000000 in
theorem Delete_no (t : Tr) (a : Option Addr) (i : Int) (w : World) (hd : decide (0 ≤ i ∧ i < (t.size : Int)) = false) (h : Hid (At w t a)) :
    Calls Try.prog 17 #[.agg #[.pointer a], .int .i64 i] w fun e w' => e = .returned (.tuple #[.agg #[.pointer none], .int .i64 20]) ∧ Below w.heap.size w w' := by
  go_enter Try.func17, Try.ntmps17
  go_wp2_with (first | (go_at_call 59; refine (hasPiece_any t _ _ _ ((h.out.alloc _).alloc _)).mono ?_; rw [hd]; rintro e w9 ⟨rfl, hb9⟩; obtain ⟨c9, f9⟩ := bcell hb9))
  refine bodyPost_ret (v := .tuple #[.agg #[.pointer none], .int .i64 20]) (by simp [results, Try.results17, go_sem, c9]) rfl ⟨rfl, (bA2 hb9).setCell (p := ⟨w.heap.size + 1, 0, none⟩) (by simp) _⟩

set_option maxHeartbeats 1000000 in
theorem Insert_place (t : Tr) (a : Option Addr) (i : Int) (s o n k : Int) (w : World) (hd : decide (0 ≤ i ∧ i ≤ (t.size : Int)) = false) (h : Hid (At w t a)) :
    Calls Try.prog 16 #[.agg #[.pointer a], .int .i64 i, .agg #[.int .i64 s, .int .i64 o, .int .i64 n, .int .i64 k]] w fun e w' => e = .returned (.tuple #[.agg #[.pointer none], .int .i64 20]) ∧ Below w.heap.size w w' := by
  go_enter Try.func16, Try.ntmps16
  go_wp2_with (first | (go_at_call 57; refine (hasGap_any t _ _ _ (((h.out.alloc _).alloc _).alloc _)).mono ?_; rw [hd]; rintro e w9 ⟨rfl, hb9⟩; obtain ⟨c9, f9⟩ := bcell hb9))
  refine bodyPost_ret (v := .tuple #[.agg #[.pointer none], .int .i64 20]) (by simp [results, Try.results16, go_sem, c9]) rfl ⟨rfl, (bA (bA2 hb9)).setCell (p := ⟨w.heap.size + 1 + 1, 0, none⟩) (by simp; omega) _⟩
end Go.Proofs.Ytpifjghhlcjedaa

/- The contracts of set, Set, Insert, Split and Join. -/
namespace Go.Proofs.Ytpifjghhlcjedaa
open Go.RowKit

/-- another piece at a place -/
def Tr.setT : Tr → Nat → Pc → Tr
  | (Tr.mk none), _, _ => Tr.mk none
  | (Tr.mk (some (c, l, q, r))), i, p =>
    if i < l.size then Tr.mk (some (c, l.setT i p, q, r)) else if i = l.size then Tr.mk (some (c, l, p, r)) else Tr.mk (some (c, l, q, r.setT (i - l.size - 1) p))
theorem setT_size : ∀ (t : Tr) (i : Nat) (p : Pc), (t.setT i p).size = t.size ∧ (t.setT i p).bh = t.bh ∧ (t.setT i p).red = t.red ∧ (t.bal → (t.setT i p).bal)
  | (Tr.mk none), i, p => by simp [Tr.setT]
  | (Tr.mk (some (c, l, q, r))), i, p => by
    simp only [Tr.setT]
    have a := setT_size l i p
    have b := setT_size r (i - l.size - 1) p
    split
    · refine ⟨by simp only [Tr.size, a.1], by simp only [Tr.bh, a.2.1], rfl, fun h => ⟨a.2.2.2 h.1, h.2.1, by rw [a.2.1]; exact h.2.2.1, by rw [a.2.2.1]; exact h.2.2.2⟩⟩
    · split
      · exact ⟨rfl, rfl, rfl, fun h => h⟩
      · refine ⟨by simp only [Tr.size, b.1], rfl, rfl, fun h => ⟨h.1, b.2.2.2 h.2.1, by rw [b.2.1]; exact h.2.2.1, by rw [b.2.2.1]; exact h.2.2.2⟩⟩
theorem setT_whole {t : Tr} (h : t.whole) (i : Nat) (p : Pc) : (t.setT i p).whole := ⟨(setT_size t i p).2.2.2 h.1, by rw [(setT_size t i p).2.2.1]; exact h.2⟩
theorem setT_list : ∀ (t : Tr) (i : Nat) (p : Pc), (t.setT i p).list = t.list.set i p
  | (Tr.mk none), i, p => by simp [Tr.setT, Tr.list]
  | (Tr.mk (some (c, l, q, r))), i, p => by
    have z := Tr.size_list l
    simp only [Tr.setT]
    split
    · simp only [Tr.list]; rw [setT_list l i p, List.set_append_left _ _ (by omega)]
    · split
      · rename_i h; subst h; simp only [Tr.list]; rw [List.set_append_right _ _ (by omega), z, Nat.sub_self]; rfl
      · rename_i h1 h2
        simp only [Tr.list]
        rw [setT_list r _ p, List.set_append_right _ _ (by omega), z]
        obtain ⟨j, hj⟩ : ∃ j, i - l.size = j + 1 := ⟨i - l.size - 1, by omega⟩
        rw [hj]; rfl
theorem setT_fine {t : Tr} (h : t.fine) (i : Nat) {p : Pc} (hp : p.fit) : (t.setT i p).fine := by
  refine (Tr.fine_list _).2 ?_
  rw [setT_list, List.length_set]
  refine ⟨fun q hq => ?_, ((Tr.fine_list t).1 h).2⟩
  rcases List.mem_or_eq_of_mem_set hq with h1 | rfl
  · exact ((Tr.fine_list t).1 h).1 q h1
  · exact hp

theorem boxk {w w' : World} {x : Obj} (hb : Below ((w.alloc x).drew).heap.size ((w.alloc x).drew) w') : w'.heap[w.heap.size]? = some x := nkeep (heap_alloc_new w x) (bD hb)
theorem s11c {w : World} {b bx : Nat} {c : Bool} {l : Tr} {qs qo qn qk : Int} {r : Tr} {la ra : Option Addr} {s o n k : Int} (h : w.heap[b]? = some (nodeObj c l ⟨qs, qo, qn, qk⟩ r la ra)) (hx : w.heap[bx]? = some (Obj.cells #[.int .i64 s, .int .i64 o, .int .i64 n, .int .i64 k] 32 (0, 0))) :
    w.cell? ⟨b, 0, none⟩ = some (.int .i64 qs) ∧ w.cell? ⟨b, 1, none⟩ = some (.int .i64 qo) ∧ w.cell? ⟨b, 2, none⟩ = some (.int .i64 qn) ∧ w.cell? ⟨b, 3, none⟩ = some (.int .i64 qk) ∧ w.cell? ⟨b, 4, none⟩ = some (.bool c) ∧ w.cell? ⟨b, 10, none⟩ = some (.pointer la) ∧ w.cell? ⟨b, 11, none⟩ = some (.pointer ra) ∧ w.cell? ⟨bx, 0, none⟩ = some (.int .i64 s) ∧ w.cell? ⟨bx, 1, none⟩ = some (.int .i64 o) ∧ w.cell? ⟨bx, 2, none⟩ = some (.int .i64 n) ∧ w.cell? ⟨bx, 3, none⟩ = some (.int .i64 k) := by
  have q := ncells h
  have e := fun j => cell_of_row w bx j _ 32 (0, 0) hx
  exact ⟨q.c0, q.c1, q.c2, q.c3, q.c4, q.c10, q.c11, by rw [e]; rfl, by rw [e]; rfl, by rw [e]; rfl, by rw [e]; rfl⟩

set_option maxHeartbeats 4000000 in
theorem set_left (c : Bool) (l r : Tr) (qs qo qn qk s o n k : Int) (i : Nat) (a : Option Addr) (w : World) (hi : Hid (i < l.size)) (_hz : Hid (i ≤ 1048576)) (hf : Hid ((Tr.mk (some (c, l.setT i ⟨s, o, n, k⟩, ⟨qs, qo, qn, qk⟩, r)))).fine) (h : Hid (At w (Tr.mk (some (c, l, ⟨qs, qo, qn, qk⟩, r))) a))
    (IH : Hid (∀ a w, At w l a → Calls Try.prog 60 #[.pointer a, .int .i64 (i : Nat), .agg #[.int .i64 s, .int .i64 o, .int .i64 n, .int .i64 k]] w fun e w' => Gave w (l.setT i ⟨s, o, n, k⟩) e w')) :
    Calls Try.prog 60 #[.pointer a, .int .i64 (i : Nat), .agg #[.int .i64 s, .int .i64 o, .int .i64 n, .int .i64 k]] w fun e w' => Gave w (Tr.mk (some (c, l.setT i ⟨s, o, n, k⟩, ⟨qs, qo, qn, qk⟩, r))) e w' := by
  obtain ⟨b, la, ra, rfl, hn, hl, hr⟩ := h.out
  have HL : Hid (At w l la) := hl
  have HR : Hid (At w r ra) := hr
  have HN : Hid (w.heap[b]? = some (nodeObj c l ⟨qs, qo, qn, qk⟩ r la ra)) := hn
  have c10 := s10 hn
  have g1 : (i : Int) < (l.size : Int) := by have := hi.out; omega
  clear hn hl hr h
  go_enter Try.func60, Try.ntmps60
  go_wp2_with (first | (go_at_call 61; refine (pieces_any l _ _ (HL.out.alloc _)).mono ?_; rintro e w' ⟨rfl, rfl⟩))
  go_region_held3 (fun w' => w'.cell? ⟨b, 0, none⟩ = some (.int .i64 qs) ∧ w'.cell? ⟨b, 1, none⟩ = some (.int .i64 qo) ∧ w'.cell? ⟨b, 2, none⟩ = some (.int .i64 qn) ∧ w'.cell? ⟨b, 3, none⟩ = some (.int .i64 qk) ∧ w'.cell? ⟨b, 4, none⟩ = some (.bool c) ∧ w'.cell? ⟨b, 10, none⟩ = some (.pointer la) ∧ w'.cell? ⟨b, 11, none⟩ = some (.pointer ra) ∧ w'.cell? ⟨w.heap.size, 0, none⟩ = some (.int .i64 s) ∧ w'.cell? ⟨w.heap.size, 1, none⟩ = some (.int .i64 o) ∧ w'.cell? ⟨w.heap.size, 2, none⟩ = some (.int .i64 n) ∧ w'.cell? ⟨w.heap.size, 3, none⟩ = some (.int .i64 k)) (first | assumption | exact s11c (nkeep HN.out (bAlloc (Below.refl _ _) _).drew) (heap_alloc_new w _) | simp [*, go_sem])
    (first | (go_at_call 60; (have Q := IH.out la ((w.alloc (.cells #[.int .i64 s, .int .i64 o, .int .i64 n, .int .i64 k] 32)).drew) ((HL.out.alloc _).drew)); refine Q.mono ?_; clear Q; rintro e w9 ⟨x9, rfl, hx9, hb9⟩; (have M9 := bA (bD hb9)); have k9 := s11c (nkeep HN.out M9) (boxk hb9))
           | (go_at_call 91; refine (make_any c (l.setT i ⟨s, o, n, k⟩) qs qo qn qk r x9 ra _ hf hx9 (HR.out.keep M9)).mono ?_; rintro e w8 ⟨b8, rfl, hat8, hb8⟩; have k8 := s11c (nkeep (nkeep HN.out M9) hb8) (nkeep (boxk hb9) hb8)))
  go_wp2
  go_ret
  exact ⟨_, rfl, hat8, M9.trans (hb8.mono M9.size)⟩

set_option maxHeartbeats 4000000 in
theorem set_here (c : Bool) (l r : Tr) (qs qo qn qk s o n k : Int) (i : Nat) (a : Option Addr) (w : World) (hi : Hid (i = l.size)) (_hz : Hid (i ≤ 1048576)) (hf : Hid ((Tr.mk (some (c, l, ⟨s, o, n, k⟩, r)))).fine) (h : Hid (At w (Tr.mk (some (c, l, ⟨qs, qo, qn, qk⟩, r))) a)) :
    Calls Try.prog 60 #[.pointer a, .int .i64 (i : Nat), .agg #[.int .i64 s, .int .i64 o, .int .i64 n, .int .i64 k]] w fun e w' => Gave w (Tr.mk (some (c, l, ⟨s, o, n, k⟩, r))) e w' := by
  obtain ⟨b, la, ra, rfl, hn, hl, hr⟩ := h.out
  have HL : Hid (At w l la) := hl
  have HR : Hid (At w r ra) := hr
  have HN : Hid (w.heap[b]? = some (nodeObj c l ⟨qs, qo, qn, qk⟩ r la ra)) := hn
  have c10 := s10 hn
  have g1 : (i : Int) = (l.size : Int) := by have := hi.out; omega
  clear hn hl hr h
  go_enter Try.func60, Try.ntmps60
  go_wp2_with (first | (go_at_call 61; refine (pieces_any l _ _ (HL.out.alloc _)).mono ?_; rintro e w' ⟨rfl, rfl⟩))
  go_region_held3 (fun w' => w'.cell? ⟨b, 0, none⟩ = some (.int .i64 qs) ∧ w'.cell? ⟨b, 1, none⟩ = some (.int .i64 qo) ∧ w'.cell? ⟨b, 2, none⟩ = some (.int .i64 qn) ∧ w'.cell? ⟨b, 3, none⟩ = some (.int .i64 qk) ∧ w'.cell? ⟨b, 4, none⟩ = some (.bool c) ∧ w'.cell? ⟨b, 10, none⟩ = some (.pointer la) ∧ w'.cell? ⟨b, 11, none⟩ = some (.pointer ra) ∧ w'.cell? ⟨w.heap.size, 0, none⟩ = some (.int .i64 s) ∧ w'.cell? ⟨w.heap.size, 1, none⟩ = some (.int .i64 o) ∧ w'.cell? ⟨w.heap.size, 2, none⟩ = some (.int .i64 n) ∧ w'.cell? ⟨w.heap.size, 3, none⟩ = some (.int .i64 k)) (first | assumption | exact s11c (nkeep HN.out (bAlloc (Below.refl _ _) _).drew) (heap_alloc_new w _) | simp [*, go_sem])
    (first | (go_at_call 91; refine (make_any c l s o n k r la ra _ hf ((HL.out.alloc _).drew) ((HR.out.alloc _).drew)).mono ?_; rintro e w8 ⟨b8, rfl, hat8, hb8⟩; have k8 := s11c (nkeep HN.out (bA (bD hb8))) (boxk hb8)))
  go_wp2
  go_ret
  exact ⟨_, rfl, hat8, bA (bD hb8)⟩

set_option maxHeartbeats 4000000 in
theorem set_right (c : Bool) (l r : Tr) (qs qo qn qk s o n k : Int) (i : Nat) (a : Option Addr) (w : World) (hi : Hid (l.size < i)) (hz : Hid (i ≤ 1048576)) (hf : Hid ((Tr.mk (some (c, l, ⟨qs, qo, qn, qk⟩, r.setT (i - l.size - 1) ⟨s, o, n, k⟩)))).fine) (h : Hid (At w (Tr.mk (some (c, l, ⟨qs, qo, qn, qk⟩, r))) a))
    (IH : Hid (∀ a w, At w r a → Calls Try.prog 60 #[.pointer a, .int .i64 ((i - l.size - 1 : Nat) : Int), .agg #[.int .i64 s, .int .i64 o, .int .i64 n, .int .i64 k]] w fun e w' => Gave w (r.setT (i - l.size - 1) ⟨s, o, n, k⟩) e w')) :
    Calls Try.prog 60 #[.pointer a, .int .i64 (i : Nat), .agg #[.int .i64 s, .int .i64 o, .int .i64 n, .int .i64 k]] w fun e w' => Gave w (Tr.mk (some (c, l, ⟨qs, qo, qn, qk⟩, r.setT (i - l.size - 1) ⟨s, o, n, k⟩))) e w' := by
  obtain ⟨b, la, ra, rfl, hn, hl, hr⟩ := h.out
  have HL : Hid (At w l la) := hl
  have HR : Hid (At w r ra) := hr
  have HN : Hid (w.heap[b]? = some (nodeObj c l ⟨qs, qo, qn, qk⟩ r la ra)) := hn
  have c10 := s10 hn
  have g1 : (l.size : Int) < (i : Int) := by have := hi.out; omega
  have g2 : ((i : Int) == (l.size : Int)) = false := by rw [beq_eq_false_iff_ne]; omega
  have g3 : IntKind.i64.wrap (IntKind.i64.wrap ((i : Int) - (l.size : Int)) - 1) = ((i - l.size - 1 : Nat) : Int) := by
    have h1 := hi.out; have h2 := hz.out
    rw [IntKind.wrap_i64, IntKind.wrap_i64]; omega
  clear hn hl hr h
  go_enter Try.func60, Try.ntmps60
  go_wp2_with (first | (go_at_call 61; refine (pieces_any l _ _ (HL.out.alloc _)).mono ?_; rintro e w' ⟨rfl, rfl⟩))
  go_region_held3 (fun w' => w'.cell? ⟨b, 0, none⟩ = some (.int .i64 qs) ∧ w'.cell? ⟨b, 1, none⟩ = some (.int .i64 qo) ∧ w'.cell? ⟨b, 2, none⟩ = some (.int .i64 qn) ∧ w'.cell? ⟨b, 3, none⟩ = some (.int .i64 qk) ∧ w'.cell? ⟨b, 4, none⟩ = some (.bool c) ∧ w'.cell? ⟨b, 10, none⟩ = some (.pointer la) ∧ w'.cell? ⟨b, 11, none⟩ = some (.pointer ra) ∧ w'.cell? ⟨w.heap.size, 0, none⟩ = some (.int .i64 s) ∧ w'.cell? ⟨w.heap.size, 1, none⟩ = some (.int .i64 o) ∧ w'.cell? ⟨w.heap.size, 2, none⟩ = some (.int .i64 n) ∧ w'.cell? ⟨w.heap.size, 3, none⟩ = some (.int .i64 k)) (first | assumption | exact s11c (nkeep HN.out (bAlloc (Below.refl _ _) _).drew) (heap_alloc_new w _) | simp [*, go_sem])
    (first | (go_at_call 60; (have Q := IH.out ra ((w.alloc (.cells #[.int .i64 s, .int .i64 o, .int .i64 n, .int .i64 k] 32)).drew) ((HR.out.alloc _).drew)); refine Q.mono ?_; clear Q; rintro e w9 ⟨x9, rfl, hx9, hb9⟩; (have M9 := bA (bD hb9)); have k9 := s11c (nkeep HN.out M9) (boxk hb9))
           | (go_at_call 91; refine (make_any c l qs qo qn qk (r.setT (i - l.size - 1) ⟨s, o, n, k⟩) la x9 _ hf (HL.out.keep M9) hx9).mono ?_; rintro e w8 ⟨b8, rfl, hat8, hb8⟩; have k8 := s11c (nkeep (nkeep HN.out M9) hb8) (nkeep (boxk hb9) hb8)))
  go_wp2
  go_ret
  exact ⟨_, rfl, hat8, M9.trans (hb8.mono M9.size)⟩

theorem set_any : ∀ (t : Tr) (i : Nat) (s o n k : Int) (a : Option Addr) (w : World), i < t.size → t.fine → Pc.fit ⟨s, o, n, k⟩ → At w t a →
    Calls Try.prog 60 #[.pointer a, .int .i64 (i : Nat), .agg #[.int .i64 s, .int .i64 o, .int .i64 n, .int .i64 k]] w fun e w' => Gave w (t.setT i ⟨s, o, n, k⟩) e w'
  | (Tr.mk none), i, s, o, n, k, a, w, hi, _, _, _ => absurd hi (by simp [Tr.size])
  | (Tr.mk (some (c, l, ⟨qs, qo, qn, qk⟩, r))), i, s, o, n, k, a, w, hi, hf, hp, h => by
    have z := hf.2
    have hF := setT_fine hf i hp
    simp only [Tr.size] at hi z
    simp only [Tr.setT] at hF ⊢
    by_cases h1 : i < l.size
    · rw [if_pos h1] at hF ⊢
      exact set_left c l r qs qo qn qk s o n k i a w h1 (by unfold Hid; omega) hF h (fun a w h => set_any l i s o n k a w h1 hf.left hp h)
    · rw [if_neg h1] at hF ⊢
      by_cases h2 : i = l.size
      · rw [if_pos h2] at hF ⊢
        exact set_here c l r qs qo qn qk s o n k i a w h2 (by unfold Hid; omega) hF h
      · rw [if_neg h2] at hF ⊢
        exact set_right c l r qs qo qn qk s o n k i a w (by unfold Hid; omega) (by unfold Hid; omega) hF h (fun a w h => set_any r (i - l.size - 1) s o n k a w (by omega) hf.right hp h)
end Go.Proofs.Ytpifjghhlcjedaa

