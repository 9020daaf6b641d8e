/- The contracts of Len, Bytes, Lines, Height, hasGap, hasPiece, Get. -/
import Derived.Test.YtcaegdfbbjfgpaaAm02
import Derived.Deep.AppendLies
import Derived.Lib.Strings
import Derived.Lib.Slices
import Derived.Lib.Small
import Derived.Lib.Walk
import Derived.Lib.BitFns
namespace Go.Proofs.Ytcaegdfbbjfgpaa
open Go.RowKit

theorem bcell {W w1 : World} (hb : Below W.heap.size W w1) : (∀ b o, b < W.heap.size → w1.cell? ⟨b, o, none⟩ = W.cell? ⟨b, o, none⟩) ∧ (∀ b o, b < W.heap.size → w1.frozen? ⟨b, o, none⟩ = W.frozen? ⟨b, o, none⟩) :=
  ⟨fun b o h => hb.cell (p := ⟨b, o, none⟩) h, fun b o h => hb.frozen (p := ⟨b, o, none⟩) h⟩

set_option maxHeartbeats 400000 in
theorem Len_any (t : Tr) (a : Option Addr) (w : World) (h : Hid (At w t a)) : Calls Try.prog 17 #[.agg #[.pointer a]] w fun e w' => e = .returned (.int .i64 (t.size : Nat)) ∧ w' = w.alloc (.cells #[.pointer a] 26) := by
  go_enter Try.func17, Try.ntmps17
  go_wp2_with (go_at_call 51; refine (pieces_any t _ _ (h.out.alloc _)).mono ?_; rintro e w' ⟨rfl, rfl⟩)
  go_ret
  exact ⟨rfl, rfl⟩
set_option maxHeartbeats 400000 in
theorem Bytes_any (t : Tr) (a : Option Addr) (w : World) (h : Hid (At w t a)) : Calls Try.prog 18 #[.agg #[.pointer a]] w fun e w' => e = .returned (.int .i64 t.byt) ∧ w' = w.alloc (.cells #[.pointer a] 26) := by
  go_enter Try.func18, Try.ntmps18
  go_wp2_with (go_at_call 52; refine (bytes_any t _ _ (h.out.alloc _)).mono ?_; rintro e w' ⟨rfl, rfl⟩)
  go_ret
  exact ⟨rfl, rfl⟩
set_option maxHeartbeats 400000 in
theorem Lines_any (t : Tr) (a : Option Addr) (w : World) (h : Hid (At w t a)) : Calls Try.prog 19 #[.agg #[.pointer a]] w fun e w' => e = .returned (.int .i64 t.lin) ∧ w' = w.alloc (.cells #[.pointer a] 26) := by
  go_enter Try.func19, Try.ntmps19
  go_wp2_with (go_at_call 53; refine (lines_any t _ _ (h.out.alloc _)).mono ?_; rintro e w' ⟨rfl, rfl⟩)
  go_ret
  exact ⟨rfl, rfl⟩
set_option maxHeartbeats 400000 in
theorem Height_any (t : Tr) (a : Option Addr) (w : World) (h : Hid (At w t a)) : Calls Try.prog 20 #[.agg #[.pointer a]] w fun e w' => e = .returned (.int .i64 (t.ht : Nat)) ∧ w' = w.alloc (.cells #[.pointer a] 26) := by
  go_enter Try.func20, Try.ntmps20
  go_wp2_with (go_at_call 54; refine (height_any t _ _ (h.out.alloc _)).mono ?_; rintro e w' ⟨rfl, rfl⟩)
  go_ret
  exact ⟨rfl, rfl⟩

set_option maxHeartbeats 400000 in
theorem hasGap_any (t : Tr) (a : Option Addr) (i : Int) (w : World) (h : Hid (At w t a)) : Calls Try.prog 61 #[.agg #[.pointer a], .int .i64 i] w fun e w' => e = .returned (.bool (decide (0 ≤ i ∧ i ≤ (t.size : Int)))) ∧ Below w.heap.size w w' := by
  by_cases hi : 0 ≤ i
  · go_enter Try.func61, Try.ntmps61
    go_wp2_with (go_at_call 17; refine (Len_any t _ _ (h.out.alloc _)).mono ?_; rintro e w' ⟨rfl, rfl⟩)
    go_ret
    exact ⟨ret_bool (by simp [hi]), bAlloc (bAlloc (Below.refl _ _) _) _⟩
  · have hd : decide (0 ≤ i) = false := by simpa using hi
    go_enter Try.func61, Try.ntmps61
    go_wp2_with fail
    go_ret
    exact ⟨ret_bool (by first | rfl | (symm; rw [decide_eq_false_iff_not]; omega)), bAlloc (Below.refl _ _) _⟩
set_option maxHeartbeats 400000 in
theorem hasPiece_any (t : Tr) (a : Option Addr) (i : Int) (w : World) (h : Hid (At w t a)) : Calls Try.prog 63 #[.agg #[.pointer a], .int .i64 i] w fun e w' => e = .returned (.bool (decide (0 ≤ i ∧ i < (t.size : Int)))) ∧ Below w.heap.size w w' := by
  by_cases hi : 0 ≤ i
  · go_enter Try.func63, Try.ntmps63
    go_wp2_with (go_at_call 17; refine (Len_any t _ _ (h.out.alloc _)).mono ?_; rintro e w' ⟨rfl, rfl⟩)
    go_ret
    exact ⟨ret_bool (by simp [hi]), bAlloc (bAlloc (Below.refl _ _) _) _⟩
  · have hd : decide (0 ≤ i) = false := by simpa using hi
    go_enter Try.func63, Try.ntmps63
    go_wp2_with fail
    go_ret
    exact ⟨ret_bool (by first | rfl | (symm; rw [decide_eq_false_iff_not]; omega)), bAlloc (Below.refl _ _) _⟩

theorem bA2 {w w' : World} {x y : Obj} (h : Below ((w.alloc x).alloc y).heap.size ((w.alloc x).alloc y) w') : Below w.heap.size w w' := bA (bA h)

/-- what Get answers -/
def pcAt (L : List Pc) (i : Int) : Pc := if 0 ≤ i then (L[i.toNat]?).getD ⟨0, 0, 0, 0⟩ else ⟨0, 0, 0, 0⟩

set_option maxHeartbeats 1000000 in
theorem Get_yes (t : Tr) (a : Option Addr) (i : Nat) (w : World) (hi : i < t.size) (hz : t.size ≤ 1048576) (h : Hid (At w t a)) :
    Calls Try.prog 35 #[.agg #[.pointer a], .int .i64 (i : Nat)] w fun e w' => ∃ s o n k, t.list[i]? = some ⟨s, o, n, k⟩ ∧ e = .returned (.tuple #[.agg #[.int .i64 s, .int .i64 o, .int .i64 n, .int .i64 k], .int .i64 0]) ∧ Below w.heap.size w w' := by
  have hd : decide (0 ≤ (i : Int) ∧ (i : Int) < (t.size : Int)) = true := by simp; omega
  go_enter Try.func35, Try.ntmps35
  go_wp2_with (first | (go_at_call 63; refine (hasPiece_any t _ _ _ ((h.out.alloc _).alloc _)).mono ?_; rw [hd]; rintro e w9 ⟨rfl, hb9⟩; obtain ⟨c9, f9⟩ := bcell hb9)
                     | (go_at_call 66; refine (get_any t i _ _ hi hz (((h.out.alloc _).alloc _).keep hb9)).mono ?_; rintro e w8 ⟨s, o, n, k, hg, rfl, hb8⟩; have L8 := hb9.trans (hb8.mono hb9.size); obtain ⟨c8, f8⟩ := bcell L8))
  refine bodyPost_ret (v := .tuple #[.agg #[.int .i64 s, .int .i64 o, .int .i64 n, .int .i64 k], .int .i64 0]) (by simp [results, Try.results35, go_sem, c8]) rfl ⟨s, o, n, k, hg, rfl, ?_⟩
  exact below_put4 (bA2 L8) (by omega) _ _ _ _

set_option maxHeartbeats 1000000 in
theorem Get_no (t : Tr) (a : Option Addr) (i : Int) (w : World) (hd : decide (0 ≤ i ∧ i < (t.size : Int)) = false) (h : Hid (At w t a)) :
    Calls Try.prog 35 #[.agg #[.pointer a], .int .i64 i] w fun e w' => e = .returned (.tuple #[.agg #[.int .i64 0, .int .i64 0, .int .i64 0, .int .i64 0], .int .i64 20]) ∧ Below w.heap.size w w' := by
  go_enter Try.func35, Try.ntmps35
  go_wp2_with (first | (go_at_call 63; refine (hasPiece_any t _ _ _ ((h.out.alloc _).alloc _)).mono ?_; rw [hd]; rintro e w9 ⟨rfl, hb9⟩; obtain ⟨c9, f9⟩ := bcell hb9))
  refine bodyPost_ret (v := .tuple #[.agg #[.int .i64 0, .int .i64 0, .int .i64 0, .int .i64 0], .int .i64 20]) (by simp [results, Try.results35, go_sem, c9]) rfl ⟨rfl, ?_⟩
  exact below_put4 (bA2 hb9) (by omega) _ _ _ _
end Go.Proofs.Ytcaegdfbbjfgpaa

/- The contracts of appendRows and of Rows. -/
namespace Go.Proofs.Ytcaegdfbbjfgpaa
open Go.RowKit

/-- A row: piece, colour, kids, sums. -/
structure Rw where
  p : Pc
  red : Bool
  left : Bool
  right : Bool
  cnt : Int
  byt : Int
  lin : Int
def Rw.cs (r : Rw) : List Value := [.int .i64 r.p.s, .int .i64 r.p.o, .int .i64 r.p.l, .int .i64 r.p.n, .bool r.red, .bool r.left, .bool r.right, .int .i64 r.cnt, .int .i64 r.byt, .int .i64 r.lin]
def rcells (L : List Rw) : List Value := L.flatMap Rw.cs
theorem rcells_length (L : List Rw) : (rcells L).length = L.length * 10 := by
  induction L with
  | nil => rfl
  | cons p L ih => simp only [rcells, List.flatMap_cons, List.length_append, List.length_cons] at *; rw [ih]; simp [Rw.cs]; omega
theorem rcells_append (L M : List Rw) : rcells (L ++ M) = rcells L ++ rcells M := by simp [rcells]
theorem rcells_cons (r : Rw) (M : List Rw) : rcells (r :: M) = r.cs ++ rcells M := by simp [rcells]
def rowOf (c : Bool) (l : Tr) (p : Pc) (r : Tr) : Rw := ⟨p, c, l.has, r.has, (((Tr.mk (some (c, l, p, r)))).size : Nat), ((Tr.mk (some (c, l, p, r)))).byt, ((Tr.mk (some (c, l, p, r)))).lin⟩
def rowsT : Tr → List Rw
  | (Tr.mk none) => []
  | (Tr.mk (some (c, l, p, r))) => rowOf c l p r :: (rowsT l ++ rowsT r)
theorem rowsT_length : ∀ t : Tr, (rowsT t).length = t.size
  | (Tr.mk none) => rfl
  | (Tr.mk (some (c, l, p, r))) => by simp only [rowsT, Tr.size, List.length_cons, List.length_append, rowsT_length l, rowsT_length r]; omega

theorem info72 : (Try.prog.info? 72).map (fun i => (i.zero, i.size, i.bytes)) = some (some (.agg #[.int .i64 0, .int .i64 0, .int .i64 0, .int .i64 0, .bool false, .bool false, .bool false, .int .i64 0, .int .i64 0, .int .i64 0]), 10, 64) := by kernel_rfl

/-- All nodes are as they were. -/
def Nods (w w' : World) : Prop := ∀ (b : Nat) (cs : Array Value), w.heap[b]? = some (Obj.cells cs 116 (0, 0)) → w'.heap[b]? = some (Obj.cells cs 116 (0, 0))
theorem Nods.at {w w' : World} (h : Nods w w') : ∀ {T : Tr} {a : Option Addr}, At w T a → At w' T a
  | (Tr.mk none), _, k => k
  | (Tr.mk (some (_, _, _, _))), _, ⟨b, la, ra, e, k, h1, h2⟩ => ⟨b, la, ra, e, h b _ k, h.at h1, h.at h2⟩
theorem Nods.node {w w' : World} (h : Nods w w') {b : Nat} {c : Bool} {l : Tr} {p : Pc} {r : Tr} {la ra : Option Addr} (k : w.heap[b]? = some (nodeObj c l p r la ra)) : w'.heap[b]? = some (nodeObj c l p r la ra) := h b _ k
theorem Nods.trans {a b c : World} (h : Nods a b) (k : Nods b c) : Nods a c := fun x cs e => k x cs (h x cs e)
theorem Nods.refl (w : World) : Nods w w := fun _ _ h => h
theorem Nods.below {w w' : World} (h : Below w.heap.size w w') : Nods w w' := fun _ _ k => nkeep k h
theorem Nods.grown {w w' : World} {row : Option Nat} (hg : w.grownBy w' row) (hr : ∀ k, row = some k → ∃ cs t, w.heap[k]? = some (.cells cs t (0, 0)) ∧ t ≠ 116) : Nods w w' := by
  intro b cs h
  rw [hg.block b (Array.getElem?_eq_some_iff.1 h).1 ?_]
  · exact h
  · intro e1
    obtain ⟨cs', t, h3, h4⟩ := hr b e1.symm
    rw [h3] at h
    have := Option.some.inj h
    injection this with _ e3 _
    exact h4 e3

theorem own_tag {w : World} {base e size n : Nat} {v : Value} {xs : List Value} (h : w.ownsRow base e size v n xs) (he : e ≠ 116) : ∀ k, v.ownBlock = some k → ∃ cs t, w.heap[k]? = some (.cells cs t (0, 0)) ∧ t ≠ 116 := by
  intro k hk
  rcases h.2 with ⟨rfl, _⟩ | ⟨g, cap, cur, rfl, _, hg, _⟩
  · simp [Value.ownBlock] at hk
  · simp [Value.ownBlock] at hk; subst hk; exact ⟨_, _, hg, he⟩

theorem own_shape {w : World} {base e size n : Nat} {v : Value} {xs : List Value} (h : w.ownsRow base e size v n xs) : ∃ ao cap, v = .slice ao n cap := by
  rcases h.2 with ⟨rfl, rfl⟩ | ⟨g, cap, cur, rfl, _⟩
  · exact ⟨_, _, rfl⟩
  · exact ⟨_, _, rfl⟩
theorem own_drew {w : World} {base e size n : Nat} {v : Value} {xs : List Value} (h : w.ownsRow base e size v n xs) : w.drew.ownsRow base e size v n xs := h

/-- all cells of a node but the last two -/
theorem s12 {w : World} {b : Nat} {c : Bool} {l : Tr} {s o n k : Int} {r : Tr} {la ra : Option Addr} (h : w.heap[b]? = some (nodeObj c l ⟨s, o, n, k⟩ r la ra)) :
    w.cell? ⟨b, 0, none⟩ = some (.int .i64 s) ∧ w.cell? ⟨b, 1, none⟩ = some (.int .i64 o) ∧ w.cell? ⟨b, 2, none⟩ = some (.int .i64 n) ∧ w.cell? ⟨b, 3, none⟩ = some (.int .i64 k) ∧ w.cell? ⟨b, 4, none⟩ = some (.bool c) ∧ w.cell? ⟨b, 5, none⟩ = some (.bool l.has) ∧ w.cell? ⟨b, 6, none⟩ = some (.bool r.has) ∧ w.cell? ⟨b, 7, none⟩ = some (.int .i64 (((Tr.mk (some (c, l, ⟨s, o, n, k⟩, r)))).size : Nat)) ∧ w.cell? ⟨b, 8, none⟩ = some (.int .i64 ((Tr.mk (some (c, l, ⟨s, o, n, k⟩, r)))).byt) ∧ w.cell? ⟨b, 9, none⟩ = some (.int .i64 ((Tr.mk (some (c, l, ⟨s, o, n, k⟩, r)))).lin) ∧ w.cell? ⟨b, 10, none⟩ = some (.pointer la) ∧ w.cell? ⟨b, 11, none⟩ = some (.pointer ra) := by
  have q := ncells h
  exact ⟨q.c0, q.c1, q.c2, q.c3, q.c4, q.c5, q.c6, q.c7, q.c8, q.c9, q.c10, q.c11⟩

set_option maxHeartbeats 400000 in
theorem appendRows_nil (v : Value) (w : World) : Calls Try.prog 44 #[v, .pointer none] w fun e w' => e = .returned v ∧ w' = w := by
  go_enter Try.func44, Try.ntmps44
  go_wp2
  go_ret
  exact ⟨rfl, rfl⟩

/-- What appendRows gives: the rows behind the list; of what was below B nothing has turned; the trees are as they were. -/
def RowsGave (B : Nat) (w0 w : World) (n : Nat) (xs : List Value) (t : Tr) (e : Ending) (w' : World) : Prop :=
  ∃ v', e = .returned v' ∧ w'.ownsRow B 72 10 v' (n + t.size) (xs ++ rcells (rowsT t)) ∧ Below B w0 w' ∧ w.heap.size ≤ w'.heap.size ∧ Nods w w'

theorem row_one : ∀ (r : Rw), ∀ u ∈ r.cs, u.oneCell' = true := by
  intro r u hu
  simp only [Rw.cs, List.mem_cons, List.not_mem_nil, or_false] at hu
  rcases hu with rfl | rfl | rfl | rfl | rfl | rfl | rfl | rfl | rfl | rfl <;> rfl

set_option maxRecDepth 100000 in
set_option maxHeartbeats 4000000 in
theorem appendRows_node (B : Nat) (w0 : World) (c : Bool) (l : Tr) (s o n k : Int) (r : Tr) (a : Option Addr) (ao : Option Addr) (m cap : Nat) (xs : List Value) (w : World) (h : Hid (At w ((Tr.mk (some (c, l, ⟨s, o, n, k⟩, r)))) a)) (hown : Hid (w.ownsRow B 72 10 (.slice ao m cap) m xs)) (hb : Hid (Below B w0 w)) (hB : Hid (B ≤ w.heap.size)) (hz : Hid (m + (l.size + 1 + r.size) ≤ 2097152))
    (IHL : Hid (∀ a v n xs w, At w l a → w.ownsRow B 72 10 v n xs → Below B w0 w → B ≤ w.heap.size → n + l.size ≤ 2097152 → Calls Try.prog 44 #[v, .pointer a] w fun e w' => RowsGave B w0 w n xs l e w'))
    (IHR : Hid (∀ a v n xs w, At w r a → w.ownsRow B 72 10 v n xs → Below B w0 w → B ≤ w.heap.size → n + r.size ≤ 2097152 → Calls Try.prog 44 #[v, .pointer a] w fun e w' => RowsGave B w0 w n xs r e w')) :
    Calls Try.prog 44 #[.slice ao m cap, .pointer a] w fun e w' => RowsGave B w0 w m xs ((Tr.mk (some (c, l, ⟨s, o, n, k⟩, r)))) e w' := by
  obtain ⟨b, la, ra, rfl, hn, hl, hr⟩ := h.out
  have HL : Hid (At w l la) := hl
  have HR : Hid (At w r ra) := hr
  have HN : Hid (w.heap[b]? = some (nodeObj c l ⟨s, o, n, k⟩ r la ra)) := hn
  obtain ⟨c0, c1, c2, c3, c4, c5, c6, c7, c8, c9, c10, c11⟩ := s12 hn
  obtain ⟨i0, hi, hz0, hz1, hz2⟩ := info_parts info72
  have hlt := (ncells hn).lt
  clear hn hl hr h
  go_enter Try.func44, Try.ntmps44
  go_wp2
  go_region_held3 (fun w' => w'.cell? ⟨b, 0, none⟩ = some (.int .i64 s) ∧ w'.cell? ⟨b, 1, none⟩ = some (.int .i64 o) ∧ w'.cell? ⟨b, 2, none⟩ = some (.int .i64 n) ∧ w'.cell? ⟨b, 3, none⟩ = some (.int .i64 k) ∧ w'.cell? ⟨b, 4, none⟩ = some (.bool c) ∧ w'.cell? ⟨b, 5, none⟩ = some (.bool l.has) ∧ w'.cell? ⟨b, 6, none⟩ = some (.bool r.has) ∧ w'.cell? ⟨b, 7, none⟩ = some (.int .i64 (((Tr.mk (some (c, l, ⟨s, o, n, k⟩, r)))).size : Nat)) ∧ w'.cell? ⟨b, 8, none⟩ = some (.int .i64 ((Tr.mk (some (c, l, ⟨s, o, n, k⟩, r)))).byt) ∧ w'.cell? ⟨b, 9, none⟩ = some (.int .i64 ((Tr.mk (some (c, l, ⟨s, o, n, k⟩, r)))).lin) ∧ w'.cell? ⟨b, 10, none⟩ = some (.pointer la) ∧ w'.cell? ⟨b, 11, none⟩ = some (.pointer ra)) (first | assumption | exact s12 (nkeep HN.out (bAlloc (Below.refl _ _) _).drew) | simp [*, go_sem])
    (first | ((refine step_append_lies _ (by rfl) (.tmp 8) (.tmp 13) 37 (by rfl) B 72 i0 (.agg #[.int .i64 0, .int .i64 0, .int .i64 0, .int .i64 0, .bool false, .bool false, .bool false, .int .i64 0, .int .i64 0, .int .i64 0]) 10 64 Try.underlying37 hi hz0 hz1 hz2 (by rfl) (by decide) (.slice ao m cap) m xs (by rfl) (own_drew (hown.out.alloc _)) ⟨w.heap.size, 0, none⟩ 1 1 (rowOf c l ⟨s, o, n, k⟩ r).cs (by rfl) (by rfl) (World.news_of_block (heap_alloc_new w _)) (row_one _) (by decide) (by have := hz.out; unfold maxLen; omega) (by have := hz.out; omega) (by have := hB.out; simp; omega) (w.heap.size + 1) (by simp) ?_; intro g9 cap9 w9 hown9 hgrow9 hat9 hlt9; have N9 : Nods w w9 := (Nods.below ((bAlloc (Below.refl w.heap.size w) _).drew)).trans (Nods.grown hgrow9 (own_tag (own_drew (hown.out.alloc _)) (by decide))); have k9 := s12 (N9.node HN.out)))
           | (go_at_call_of 44 (Value.pointer la); (have L9 : Below B w0 w9 := ((hb.out.alloc hB.out _).drew).grown hgrow9 (by have := hB.out; simp; omega) (fun k hk => (hown.out.lt k hk).1)); (have B9 : B ≤ w9.heap.size := by have := hB.out; have h' := hgrow9.size; simp at h'; omega); (have S9 : w.heap.size ≤ w9.heap.size := by have h' := hgrow9.size; simp at h'; omega); (have Z9 : m + 1 + l.size ≤ 2097152 := by have := hz.out; omega); (have Q := IHL.out la _ (m + 1) _ w9 (N9.at HL.out) hown9 L9 B9 Z9); refine Q.mono ?_; clear Q; rintro e w8 ⟨v8, rfl, hown8, hb8, hs8, N8⟩; have k8 := s12 (N8.node (N9.node HN.out)))
           | (go_at_call_of 44 (Value.pointer ra); (have Z8 : m + 1 + l.size + r.size ≤ 2097152 := by have := hz.out; omega); (have Q := IHR.out ra _ (m + 1 + l.size) _ w8 (N8.at (N9.at HR.out)) hown8 hb8 (Nat.le_trans B9 hs8) Z8); refine Q.mono ?_; clear Q; rintro e w7 ⟨v7, rfl, hown7, hb7, hs7, N7⟩; have k7 := s12 (N7.node (N8.node (N9.node HN.out)))))
  go_wp2
  go_ret
  refine ⟨v7, rfl, ?_, hb7, by omega, N9.trans (N8.trans N7)⟩
  simp only [Tr.size, rowsT, rcells_cons, rcells_append]
  rw [show m + (l.size + 1 + r.size) = m + 1 + l.size + r.size from by omega]
  simpa only [List.append_assoc] using hown7

theorem appendRows_any (B : Nat) (w0 : World) : ∀ (t : Tr) (a : Option Addr) (v : Value) (n : Nat) (xs : List Value) (w : World), At w t a → w.ownsRow B 72 10 v n xs → Below B w0 w → B ≤ w.heap.size → n + t.size ≤ 2097152 → Calls Try.prog 44 #[v, .pointer a] w fun e w' => RowsGave B w0 w n xs t e w'
  | (Tr.mk none), a, v, n, xs, w, h, hown, hb, hB, hz => by
    have e : a = none := h
    subst e
    refine (appendRows_nil v w).mono ?_
    rintro e w' ⟨rfl, rfl⟩
    exact ⟨v, rfl, by simpa [Tr.size, rowsT, rcells] using hown, hb, Nat.le_refl _, Nods.refl _⟩
  | (Tr.mk (some (c, l, ⟨s, o, n', k⟩, r))), a, v, n, xs, w, h, hown, hb, hB, hz => by
    obtain ⟨ao, cap, rfl⟩ := own_shape hown
    exact appendRows_node B w0 c l s o n' k r a ao n cap xs w h hown hb hB hz (appendRows_any B w0 l) (appendRows_any B w0 r)

set_option maxHeartbeats 400000 in
theorem Rows_any (t : Tr) (a : Option Addr) (w : World) (hz : Hid (t.size ≤ 2097152)) (h : Hid (At w t a)) :
    Calls Try.prog 13 #[.agg #[.pointer a]] w fun e w' => ∃ ao cap, e = .returned (.slice ao t.size cap) ∧ w'.ownsRow w.heap.size 72 10 (.slice ao t.size cap) t.size (rcells (rowsT t)) ∧ Below w.heap.size w w' := by
  go_enter Try.func13, Try.ntmps13
  go_wp2_with (go_at_call 44; refine (appendRows_any w.heap.size w t a _ 0 [] _ (h.out.alloc _) (World.ownsRow_nil _ _ _ _) (bAlloc (Below.refl _ _) _) (by simp) (by have := hz.out; omega)).mono ?_; rintro e w9 ⟨v9, rfl, hown9, hb9, hs9, N9⟩)
  go_ret
  rw [Nat.zero_add, List.nil_append] at hown9
  obtain ⟨ao, cap, rfl⟩ := own_shape hown9
  exact ⟨ao, cap, rfl, hown9, hb9⟩
end Go.Proofs.Ytcaegdfbbjfgpaa

/- The contracts of bits.Len and of highest. -/
namespace Go.Proofs.Ytcaegdfbbjfgpaa
open Go.RowKit

theorem lt_bitLenAux : ∀ (f x : Nat), x < 2 ^ f → x < 2 ^ Lib.bitLenAux f x
  | 0, x, h => by simpa [Lib.bitLenAux] using h
  | f + 1, x, h => by
    simp only [Lib.bitLenAux]
    split
    · subst x; simp
    · have := lt_bitLenAux f (x / 2) (by rw [Nat.pow_succ] at h; omega)
      rw [Nat.pow_add, Nat.pow_one]; omega
theorem lt_bitLen (x : Nat) (h : x ≤ 2097152) : x < 2 ^ Lib.bitLen x := lt_bitLenAux 64 x (by omega)

theorem l8_get (y : Int) (h : y.toNat < Lib.len8tab.size) : ((Lib.len8tab[y.toNat]'h).toNat : Int) = Lib.len8 y := by
  unfold Lib.len8
  have e : Lib.len8tab[y.toNat]? = some (Lib.len8tab[y.toNat]'h) := by rw [getElem?_pos]
  rw [e]; rfl
theorem ret_int {a b : Int} (h : a = b) : Ending.returned (.int .i64 a) = .returned (.int .i64 b) := by rw [h]

set_option maxHeartbeats 4000000 in
set_option maxRecDepth 100000 in
theorem len64_a (x : Int) (w : World) (h0 : 0 ≤ x) (h1 : x < 256) :
    Calls Try.prog 93 #[.int .u64 x] w fun e w' => e = .returned (.int .i64 (Lib.bitLen x.toNat)) ∧ w' = w := by
  go_enter Try.func93, Try.ntmps93
  go_wp2
  all_goals first
    | (go_ret; refine ⟨ret_int ?_, rfl⟩)
    | (exfalso; have hs := Lib.len8tab_size; omega)
  have l := Lib.bitLen_le8' x (by omega) (by omega)
  rw [l8_get x _, Lib.len8_of x (by omega) (by omega), w64 (x := (Lib.bitLen x.toNat : Int)) (by omega) (by omega), w64 (by omega) (by omega)]
set_option maxHeartbeats 4000000 in
set_option maxRecDepth 100000 in
theorem len64_b (x : Int) (w : World) (h0 : 256 ≤ x) (h1 : x < 65536) :
    Calls Try.prog 93 #[.int .u64 x] w fun e w' => e = .returned (.int .i64 (Lib.bitLen x.toNat)) ∧ w' = w := by
  go_enter Try.func93, Try.ntmps93
  go_wp2
  all_goals first
    | (go_ret; refine ⟨ret_int ?_, rfl⟩)
    | (exfalso; have hs := Lib.len8tab_size; omega)
  have l := Lib.bitLen_le8' (x / 256) (by omega) (by omega)
  have e : (x / 256).toNat = x.toNat / 256 := by omega
  have q := Lib.bitLen_shift8 x.toNat (by omega) (by omega)
  rw [l8_get (x / 256) _, Lib.len8_of (x / 256) (by omega) (by omega), w64 (x := (Lib.bitLen (x / 256).toNat : Int)) (by omega) (by omega), w64 (by omega) (by omega), q, e]
  omega
set_option maxHeartbeats 4000000 in
set_option maxRecDepth 100000 in
theorem len64_c (x : Int) (w : World) (h0 : 65536 ≤ x) (h1 : x ≤ 2097152) :
    Calls Try.prog 93 #[.int .u64 x] w fun e w' => e = .returned (.int .i64 (Lib.bitLen x.toNat)) ∧ w' = w := by
  go_enter Try.func93, Try.ntmps93
  go_wp2
  all_goals first
    | (go_ret; refine ⟨ret_int ?_, rfl⟩)
    | (exfalso; have hs := Lib.len8tab_size; omega)
  have l := Lib.bitLen_le8' (x / 65536) (by omega) (by omega)
  have e : (x / 65536).toNat = x.toNat / 65536 := by omega
  have q := Lib.bitLen_shift16 x.toNat (by omega) (by omega)
  rw [l8_get (x / 65536) _, Lib.len8_of (x / 65536) (by omega) (by omega), w64 (x := (Lib.bitLen (x / 65536).toNat : Int)) (by omega) (by omega), w64 (by omega) (by omega), q, e]
  omega
theorem len64_any (x : Int) (w : World) (h0 : 0 ≤ x) (h1 : x ≤ 2097152) :
    Calls Try.prog 93 #[.int .u64 x] w fun e w' => e = .returned (.int .i64 (Lib.bitLen x.toNat)) ∧ w' = w := by
  by_cases a : x < 256
  · exact len64_a x w h0 a
  · by_cases b : x < 65536
    · exact len64_b x w (by omega) b
    · exact len64_c x w (by omega) h1
set_option maxHeartbeats 4000000 in
theorem len_any (x : Int) (w : World) (h0 : 0 ≤ x) (h1 : x ≤ 2097152) :
    Calls Try.prog 79 #[.int .u64 x] w fun e w' => e = .returned (.int .i64 (Lib.bitLen x.toNat)) ∧ w' = w := by
  go_enter Try.func79, Try.ntmps79
  go_wp2_with (go_at_call 93; refine (len64_any x _ h0 h1).mono ?_; rintro e w' ⟨rfl, rfl⟩)
  go_ret
  exact ⟨rfl, rfl⟩
theorem bitLen_small (n : Nat) (h : n ≤ 1048576) : Lib.bitLen n ≤ 21 := Lib.bitLen_le n 21 (by omega) (by omega)
set_option maxHeartbeats 4000000 in
theorem highest_any (n : Nat) (w : World) (h1 : n ≤ 1048576) :
    Calls Try.prog 57 #[.int .i64 (n : Nat)] w fun e w' => e = .returned (.int .i64 ((2 * Lib.bitLen n : Nat) : Int)) ∧ w' = w := by
  have hb := bitLen_small n h1
  have hw : wrap64 (2 * (Lib.bitLen n : Int)) = ((2 * Lib.bitLen n : Nat) : Int) := by rw [w64 (by omega) (by omega)]; omega
  go_enter Try.func57, Try.ntmps57
  go_wp2_with (go_at_call 79; refine (len_any (n : Int) _ (by omega) (by omega)).mono ?_; rintro e w' ⟨rfl, rfl⟩; rw [show ((n : Int)).toNat = n from rfl])
  go_ret
  exact ⟨rfl, rfl⟩
end Go.Proofs.Ytcaegdfbbjfgpaa

/- Rows read as a tree: plain data; what reading a tree's own rows gives; the contract of balanced. -/
namespace Go.Proofs.Ytcaegdfbbjfgpaa
open Go.RowKit

/-- the same row? -/
def eqRw (a b : Rw) : Bool := decide (a.p.s = b.p.s) && decide (a.p.o = b.p.o) && decide (a.p.l = b.p.l) && decide (a.p.n = b.p.n) && (a.red == b.red) && (a.left == b.left) && (a.right == b.right) && decide (a.cnt = b.cnt) && decide (a.byt = b.byt) && decide (a.lin = b.lin)
theorem eqRw_iff {a b : Rw} : eqRw a b = true ↔ a = b := by
  obtain ⟨⟨a0, a1, a2, a3⟩, a4, a5, a6, a7, a8, a9⟩ := a
  obtain ⟨⟨b0, b1, b2, b3⟩, b4, b5, b6, b7, b8, b9⟩ := b
  simp [eqRw, and_assoc]

/-- what a node alone is asked -/
def balB (c : Bool) (l r : Tr) : Bool := decide (l.bh = r.bh) && !(c && (l.red || r.red))

/-- what is made of a row and what was read for its kids -/
def closeN (x : Rw) (l r : Tr) (rest : List Rw) : Option (Tr × List Rw) :=
  if eqRw (rowOf x.red l x.p r) x = true ∧ balB x.red l r = true then some ((Tr.mk (some (x.red, l, x.p, r))), rest) else none

def readN : Nat → List Rw → Option (Tr × List Rw)
  | 0, _ => none
  | _ + 1, [] => none
  | h + 1, x :: L => if fitB x.p.l x.p.n = true then
      match (if x.left = true then readN h L else some ((Tr.mk none), L)) with
      | none => none
      | some (l, L1) => match (if x.right = true then readN h L1 else some ((Tr.mk none), L1)) with
        | none => none
        | some (r, L2) => closeN x l r L2
    else none
def readK (h : Nat) (has : Bool) (L : List Rw) : Option (Tr × List Rw) := if has = true then readN h L else some ((Tr.mk none), L)
theorem readN_zero (L : List Rw) : readN 0 L = none := by simp [readN]
theorem readN_nil (h : Nat) : readN h [] = none := by cases h <;> simp [readN]
theorem readN_succ (h : Nat) (x : Rw) (L : List Rw) : readN (h + 1) (x :: L) = if fitB x.p.l x.p.n = true then
      match readK h x.left L with
      | none => none
      | some (l, L1) => match readK h x.right L1 with
        | none => none
        | some (r, L2) => closeN x l r L2
    else none := by unfold readK; conv => lhs; rw [readN]

/-- what was read: the rows are the tree's and the rest; it is red-black, of fit pieces. -/
def Reads (L : List Rw) (t : Tr) (rest : List Rw) : Prop := L = rowsT t ++ rest ∧ t.bal ∧ t.fits

theorem balB_iff {c : Bool} {l r : Tr} : balB c l r = true ↔ l.bh = r.bh ∧ (c = true → l.red = false ∧ r.red = false) := by
  unfold balB
  cases c <;> cases l.red <;> cases r.red <;> simp

theorem readN_ok : ∀ (h : Nat) (L : List Rw) (t : Tr) (rest : List Rw), readN h L = some (t, rest) → Reads L t rest
  | 0, L, t, rest, e => by rw [readN_zero] at e; cases e
  | h + 1, [], t, rest, e => by rw [readN_nil] at e; cases e
  | h + 1, x :: L, t, rest, e => by
    have kid : ∀ (b : Bool) (L : List Rw) (t : Tr) (rest : List Rw), readK h b L = some (t, rest) → Reads L t rest := by
      intro b L t rest e
      unfold readK at e
      split at e
      · exact readN_ok h L t rest e
      · simp at e; obtain ⟨rfl, rfl⟩ := e; exact ⟨by simp [rowsT], trivial, trivial⟩
    rw [readN_succ] at e
    split at e
    · rename_i hf
      cases hl : readK h x.left L with
      | none => rw [hl] at e; simp at e
      | some pl =>
        obtain ⟨l, L1⟩ := pl
        rw [hl] at e; simp only at e
        cases hr : readK h x.right L1 with
        | none => rw [hr] at e; simp at e
        | some pr =>
          obtain ⟨r, L2⟩ := pr
          rw [hr] at e; simp only at e
          unfold closeN at e
          split at e
          · rename_i hc
            simp at e; obtain ⟨rfl, rfl⟩ := e
            obtain ⟨a1, a2, a3⟩ := kid _ _ _ _ hl
            obtain ⟨b1, b2, b3⟩ := kid _ _ _ _ hr
            have hb := balB_iff.1 hc.2
            refine ⟨?_, ⟨a2, b2, hb.1, hb.2⟩, ⟨a3, (fitB_iff x.p.s x.p.o x.p.l x.p.n).1 hf, b3⟩⟩
            simp only [rowsT]
            rw [eqRw_iff.1 hc.1, a1, b1]; simp
          · simp at e
    · simp at e

/-- a tree's own rows are read as that tree, where the height is enough -/
theorem readN_rows : ∀ (t : Tr) (h : Nat) (rest : List Rw), t.has = true → t.ht ≤ h → t.bal → t.fits → readN h (rowsT t ++ rest) = some (t, rest)
  | (Tr.mk none), h, rest, e, _, _, _ => by simp [Tr.has] at e
  | (Tr.mk (some (c, l, p, r))), 0, rest, _, hh, _, _ => by simp [Tr.ht] at hh
  | (Tr.mk (some (c, l, p, r))), h + 1, rest, _, hh, hb, hf => by
    have kid : ∀ (u : Tr) (rest : List Rw), u.ht ≤ h → u.bal → u.fits → (∀ rest, u.has = true → readN h (rowsT u ++ rest) = some (u, rest)) → readK h u.has (rowsT u ++ rest) = some (u, rest) := by
      intro u rest h1 h2 h3 ih
      unfold readK
      cases u using Tr.el with
      | nil => simp [Tr.has, rowsT]
      | node c' l' p' r' => rw [if_pos (show ((Tr.mk (some (c', l', p', r')))).has = true from rfl)]; exact ih rest rfl
    simp only [Tr.ht] at hh
    have kl := kid l (rowsT r ++ rest) (by omega) hb.1 hf.1 (fun rest e => readN_rows l h rest e (by omega) hb.1 hf.1)
    have kr := kid r rest (by omega) hb.2.1 hf.2.2 (fun rest e => readN_rows r h rest e (by omega) hb.2.1 hf.2.2)
    have hfit : fitB p.l p.n = true := (fitB_iff p.s p.o p.l p.n).2 hf.2.1
    simp only [rowsT, List.cons_append, readN_succ]
    have e1 : (rowOf c l p r).p = p := rfl
    have e2 : (rowOf c l p r).left = l.has := rfl
    have e3 : (rowOf c l p r).right = r.has := rfl
    have e4 : (rowOf c l p r).red = c := rfl
    rw [e1, e2, e3, if_pos hfit, List.append_assoc, kl]
    simp only
    rw [kr]
    simp only
    unfold closeN
    rw [if_pos ⟨eqRw_iff.2 (by rw [e4, e1]), by rw [e4]; exact balB_iff.2 ⟨hb.2.2.1, hb.2.2.2⟩⟩, e4, e1]

/-- Check, over plain data -/
def checkB (L : List Rw) : Bool :=
  match L with
  | [] => true
  | L => match readN (2 * Lib.bitLen L.length) L with
    | some (t, []) => !t.red
    | _ => false

theorem bh_low {t : Tr} (h : t.whole) (hz : t.size ≤ 1048576) : t.ht ≤ 2 * Lib.bitLen t.size := by
  have a := Tr.bal_size t h.1
  have b := Tr.bal_ht t h.1
  rw [h.2] at b
  have c := lt_bitLen t.size (by omega)
  have d : t.bh ≤ Lib.bitLen t.size := by
    apply Nat.le_of_not_lt
    intro hlt
    have : 2 ^ (Lib.bitLen t.size + 1) ≤ 2 ^ t.bh := Nat.pow_le_pow_right (by omega) hlt
    rw [Nat.pow_succ] at this
    omega
  simp at b
  omega

theorem checkB_rows {t : Tr} (h : t.whole) (hf : t.fine) : checkB (rowsT t) = true := by
  cases t using Tr.el with
  | nil => rfl
  | node c l p r =>
    have k := readN_rows ((Tr.mk (some (c, l, p, r)))) (2 * Lib.bitLen ((Tr.mk (some (c, l, p, r)))).size) [] rfl (bh_low h hf.2) h.1 hf.1
    rw [List.append_nil] at k
    have z := rowsT_length ((Tr.mk (some (c, l, p, r))))
    unfold checkB
    split
    · rename_i e; rfl
    · rw [z, k]; simp [h.2]

theorem checkB_iff {L : List Rw} (hz : L.length ≤ 1048576) : checkB L = true ↔ ∃ t : Tr, t.whole ∧ t.fits ∧ rowsT t = L := by
  constructor
  · intro h
    unfold checkB at h
    split at h
    · exact ⟨(Tr.mk none), ⟨trivial, rfl⟩, trivial, rfl⟩
    · split at h
      · rename_i t e
        obtain ⟨a, b, c⟩ := readN_ok _ _ _ _ e
        exact ⟨t, ⟨b, by simpa using h⟩, c, by rw [a]; simp⟩
      · cases h
  · rintro ⟨t, h1, h2, rfl⟩
    exact checkB_rows h1 ⟨h2, by rw [← rowsT_length]; exact hz⟩

theorem below_drewN' (w : World) (n : Nat) : Below w.heap.size w (w.drewN n) := ⟨rfl, rfl, rfl, Nat.le_refl _, fun _ _ => rfl⟩
theorem black_eq (t : Tr) (a : Option Addr) (n : Nat) (w : World) (e : t.bh = n) (h : At w t a) : Calls Try.prog 80 #[.pointer a] w fun e w' => e = .returned (.int .i64 (n : Nat)) ∧ w' = w := by
  subst e; exact black_any t a w h
theorem isRed_eq (t : Tr) (a : Option Addr) (c : Bool) (w : World) (e : t.red = c) (h : At w t a) : Calls Try.prog 58 #[.pointer a] w fun e w' => e = .returned (.bool c) ∧ w' = w := by
  subst e; exact isRed_any t a w h
set_option maxHeartbeats 4000000 in
theorem balanced_ne_t (c : Bool) (l : Tr) (s o n k : Int) (r : Tr) (a : Option Addr) (w : World) (h5 : ((l.bh : Int) == (r.bh : Int)) = false) (h1 : l.red = true) (h : Hid (At w ((Tr.mk (some (c, l, ⟨s, o, n, k⟩, r)))) a)) :
    Calls Try.prog 78 #[.pointer a] w fun e w' => e = .returned (.bool false) ∧ ∃ m, w' = w.drewN m := by
  obtain ⟨b, la, ra, rfl, hn, hl, hr⟩ := h.out
  have HL : Hid (At w l la) := hl
  have HR : Hid (At w r ra) := hr
  have c10 := (ncells hn).c10
  have c11 := (ncells hn).c11
  clear hn hl hr
  go_enter Try.func78, Try.ntmps78
  go_wp2_with (first | (go_at_call_of 58 (Value.pointer la); refine (isRed_any l _ _ HL).mono ?_; rw [h1]; rintro e w' ⟨rfl, rfl⟩)
                     | (go_at_call_of 58 (Value.pointer ra); refine (isRed_any r _ _ HR).mono ?_; rintro e w' ⟨rfl, rfl⟩))
  go_quiet (first | (go_at_call_of 80 (Value.pointer la); exact Calls.quiet_of_same (black_eq l la _ _ rfl (HL.out.keep (below_drewN' _ _))))
                  | (go_at_call_of 80 (Value.pointer ra); exact Calls.quiet_of_same (black_any r ra _ (HR.out.keep (below_drewN' _ _))))
                  | (go_at_call 58; exact Calls.quiet_of_same (isRed_eq _ _ c _ rfl (h.out.keep (below_drewN' _ _)))))
  go_wp2
  go_ret
  exact ⟨rfl, _, rfl⟩
set_option maxHeartbeats 4000000 in
theorem balanced_b_t (l : Tr) (s o n k : Int) (r : Tr) (a : Option Addr) (w : World) (h5 : l.bh = r.bh) (h1 : l.red = true) (h : Hid (At w ((Tr.mk (some (false, l, ⟨s, o, n, k⟩, r)))) a)) :
    Calls Try.prog 78 #[.pointer a] w fun e w' => e = .returned (.bool true) ∧ ∃ m, w' = w.drewN m := by
  obtain ⟨b, la, ra, rfl, hn, hl, hr⟩ := h.out
  have HL : Hid (At w l la) := hl
  have HR : Hid (At w r ra) := hr
  have c10 := (ncells hn).c10
  have c11 := (ncells hn).c11
  clear hn hl hr
  go_enter Try.func78, Try.ntmps78
  go_wp2_with (first | (go_at_call_of 58 (Value.pointer la); refine (isRed_any l _ _ HL).mono ?_; rw [h1]; rintro e w' ⟨rfl, rfl⟩)
                     | (go_at_call_of 58 (Value.pointer ra); refine (isRed_any r _ _ HR).mono ?_; rintro e w' ⟨rfl, rfl⟩))
  go_quiet (first | (go_at_call_of 80 (Value.pointer la); exact Calls.quiet_of_same (black_eq l la _ _ h5 (HL.out.keep (below_drewN' _ _))))
                  | (go_at_call_of 80 (Value.pointer ra); exact Calls.quiet_of_same (black_any r ra _ (HR.out.keep (below_drewN' _ _))))
                  | (go_at_call 58; exact Calls.quiet_of_same (isRed_eq _ _ false _ rfl (h.out.keep (below_drewN' _ _)))))
  go_wp2
  go_ret
  exact ⟨rfl, _, rfl⟩
set_option maxHeartbeats 4000000 in
theorem balanced_r_t (l : Tr) (s o n k : Int) (r : Tr) (a : Option Addr) (w : World) (h5 : l.bh = r.bh) (h1 : l.red = true) (h : Hid (At w ((Tr.mk (some (true, l, ⟨s, o, n, k⟩, r)))) a)) :
    Calls Try.prog 78 #[.pointer a] w fun e w' => e = .returned (.bool false) ∧ ∃ m, w' = w.drewN m := by
  obtain ⟨b, la, ra, rfl, hn, hl, hr⟩ := h.out
  have HL : Hid (At w l la) := hl
  have HR : Hid (At w r ra) := hr
  have c10 := (ncells hn).c10
  have c11 := (ncells hn).c11
  clear hn hl hr
  go_enter Try.func78, Try.ntmps78
  go_wp2_with (first | (go_at_call_of 58 (Value.pointer la); refine (isRed_any l _ _ HL).mono ?_; rw [h1]; rintro e w' ⟨rfl, rfl⟩)
                     | (go_at_call_of 58 (Value.pointer ra); refine (isRed_any r _ _ HR).mono ?_; rintro e w' ⟨rfl, rfl⟩))
  go_quiet (first | (go_at_call_of 80 (Value.pointer la); exact Calls.quiet_of_same (black_eq l la _ _ h5 (HL.out.keep (below_drewN' _ _))))
                  | (go_at_call_of 80 (Value.pointer ra); exact Calls.quiet_of_same (black_any r ra _ (HR.out.keep (below_drewN' _ _))))
                  | (go_at_call 58; exact Calls.quiet_of_same (isRed_eq _ _ true _ rfl (h.out.keep (below_drewN' _ _)))))
  go_wp2
  go_ret
  exact ⟨rfl, _, rfl⟩
set_option maxHeartbeats 4000000 in
theorem balanced_ne_ft (c : Bool) (l : Tr) (s o n k : Int) (r : Tr) (a : Option Addr) (w : World) (h5 : ((l.bh : Int) == (r.bh : Int)) = false) (h1 : l.red = false) (h2 : r.red = true) (h : Hid (At w ((Tr.mk (some (c, l, ⟨s, o, n, k⟩, r)))) a)) :
    Calls Try.prog 78 #[.pointer a] w fun e w' => e = .returned (.bool false) ∧ ∃ m, w' = w.drewN m := by
  obtain ⟨b, la, ra, rfl, hn, hl, hr⟩ := h.out
  have HL : Hid (At w l la) := hl
  have HR : Hid (At w r ra) := hr
  have c10 := (ncells hn).c10
  have c11 := (ncells hn).c11
  clear hn hl hr
  go_enter Try.func78, Try.ntmps78
  go_wp2_with (first | (go_at_call_of 58 (Value.pointer la); refine (isRed_any l _ _ HL).mono ?_; rw [h1]; rintro e w' ⟨rfl, rfl⟩)
                     | (go_at_call_of 58 (Value.pointer ra); refine (isRed_any r _ _ HR).mono ?_; rw [h2]; rintro e w' ⟨rfl, rfl⟩))
  go_quiet (first | (go_at_call_of 80 (Value.pointer la); exact Calls.quiet_of_same (black_eq l la _ _ rfl (HL.out.keep (below_drewN' _ _))))
                  | (go_at_call_of 80 (Value.pointer ra); exact Calls.quiet_of_same (black_any r ra _ (HR.out.keep (below_drewN' _ _))))
                  | (go_at_call 58; exact Calls.quiet_of_same (isRed_eq _ _ c _ rfl (h.out.keep (below_drewN' _ _)))))
  go_wp2
  go_ret
  exact ⟨rfl, _, rfl⟩
set_option maxHeartbeats 4000000 in
theorem balanced_b_ft (l : Tr) (s o n k : Int) (r : Tr) (a : Option Addr) (w : World) (h5 : l.bh = r.bh) (h1 : l.red = false) (h2 : r.red = true) (h : Hid (At w ((Tr.mk (some (false, l, ⟨s, o, n, k⟩, r)))) a)) :
    Calls Try.prog 78 #[.pointer a] w fun e w' => e = .returned (.bool true) ∧ ∃ m, w' = w.drewN m := by
  obtain ⟨b, la, ra, rfl, hn, hl, hr⟩ := h.out
  have HL : Hid (At w l la) := hl
  have HR : Hid (At w r ra) := hr
  have c10 := (ncells hn).c10
  have c11 := (ncells hn).c11
  clear hn hl hr
  go_enter Try.func78, Try.ntmps78
  go_wp2_with (first | (go_at_call_of 58 (Value.pointer la); refine (isRed_any l _ _ HL).mono ?_; rw [h1]; rintro e w' ⟨rfl, rfl⟩)
                     | (go_at_call_of 58 (Value.pointer ra); refine (isRed_any r _ _ HR).mono ?_; rw [h2]; rintro e w' ⟨rfl, rfl⟩))
  go_quiet (first | (go_at_call_of 80 (Value.pointer la); exact Calls.quiet_of_same (black_eq l la _ _ h5 (HL.out.keep (below_drewN' _ _))))
                  | (go_at_call_of 80 (Value.pointer ra); exact Calls.quiet_of_same (black_any r ra _ (HR.out.keep (below_drewN' _ _))))
                  | (go_at_call 58; exact Calls.quiet_of_same (isRed_eq _ _ false _ rfl (h.out.keep (below_drewN' _ _)))))
  go_wp2
  go_ret
  exact ⟨rfl, _, rfl⟩
set_option maxHeartbeats 4000000 in
theorem balanced_r_ft (l : Tr) (s o n k : Int) (r : Tr) (a : Option Addr) (w : World) (h5 : l.bh = r.bh) (h1 : l.red = false) (h2 : r.red = true) (h : Hid (At w ((Tr.mk (some (true, l, ⟨s, o, n, k⟩, r)))) a)) :
    Calls Try.prog 78 #[.pointer a] w fun e w' => e = .returned (.bool false) ∧ ∃ m, w' = w.drewN m := by
  obtain ⟨b, la, ra, rfl, hn, hl, hr⟩ := h.out
  have HL : Hid (At w l la) := hl
  have HR : Hid (At w r ra) := hr
  have c10 := (ncells hn).c10
  have c11 := (ncells hn).c11
  clear hn hl hr
  go_enter Try.func78, Try.ntmps78
  go_wp2_with (first | (go_at_call_of 58 (Value.pointer la); refine (isRed_any l _ _ HL).mono ?_; rw [h1]; rintro e w' ⟨rfl, rfl⟩)
                     | (go_at_call_of 58 (Value.pointer ra); refine (isRed_any r _ _ HR).mono ?_; rw [h2]; rintro e w' ⟨rfl, rfl⟩))
  go_quiet (first | (go_at_call_of 80 (Value.pointer la); exact Calls.quiet_of_same (black_eq l la _ _ h5 (HL.out.keep (below_drewN' _ _))))
                  | (go_at_call_of 80 (Value.pointer ra); exact Calls.quiet_of_same (black_any r ra _ (HR.out.keep (below_drewN' _ _))))
                  | (go_at_call 58; exact Calls.quiet_of_same (isRed_eq _ _ true _ rfl (h.out.keep (below_drewN' _ _)))))
  go_wp2
  go_ret
  exact ⟨rfl, _, rfl⟩
set_option maxHeartbeats 4000000 in
theorem balanced_ne_ff (c : Bool) (l : Tr) (s o n k : Int) (r : Tr) (a : Option Addr) (w : World) (h5 : ((l.bh : Int) == (r.bh : Int)) = false) (h1 : l.red = false) (h2 : r.red = false) (h : Hid (At w ((Tr.mk (some (c, l, ⟨s, o, n, k⟩, r)))) a)) :
    Calls Try.prog 78 #[.pointer a] w fun e w' => e = .returned (.bool false) ∧ ∃ m, w' = w.drewN m := by
  obtain ⟨b, la, ra, rfl, hn, hl, hr⟩ := h.out
  have HL : Hid (At w l la) := hl
  have HR : Hid (At w r ra) := hr
  have c10 := (ncells hn).c10
  have c11 := (ncells hn).c11
  clear hn hl hr
  go_enter Try.func78, Try.ntmps78
  go_wp2_with (first | (go_at_call_of 58 (Value.pointer la); refine (isRed_any l _ _ HL).mono ?_; rw [h1]; rintro e w' ⟨rfl, rfl⟩)
                     | (go_at_call_of 58 (Value.pointer ra); refine (isRed_any r _ _ HR).mono ?_; rw [h2]; rintro e w' ⟨rfl, rfl⟩))
  go_quiet (first | (go_at_call_of 80 (Value.pointer la); exact Calls.quiet_of_same (black_eq l la _ _ rfl (HL.out.keep (below_drewN' _ _))))
                  | (go_at_call_of 80 (Value.pointer ra); exact Calls.quiet_of_same (black_any r ra _ (HR.out.keep (below_drewN' _ _))))
                  | (go_at_call 58; exact Calls.quiet_of_same (isRed_eq _ _ c _ rfl (h.out.keep (below_drewN' _ _)))))
  go_wp2
  go_ret
  exact ⟨rfl, _, rfl⟩
set_option maxHeartbeats 4000000 in
theorem balanced_b_ff (l : Tr) (s o n k : Int) (r : Tr) (a : Option Addr) (w : World) (h5 : l.bh = r.bh) (h1 : l.red = false) (h2 : r.red = false) (h : Hid (At w ((Tr.mk (some (false, l, ⟨s, o, n, k⟩, r)))) a)) :
    Calls Try.prog 78 #[.pointer a] w fun e w' => e = .returned (.bool true) ∧ ∃ m, w' = w.drewN m := by
  obtain ⟨b, la, ra, rfl, hn, hl, hr⟩ := h.out
  have HL : Hid (At w l la) := hl
  have HR : Hid (At w r ra) := hr
  have c10 := (ncells hn).c10
  have c11 := (ncells hn).c11
  clear hn hl hr
  go_enter Try.func78, Try.ntmps78
  go_wp2_with (first | (go_at_call_of 58 (Value.pointer la); refine (isRed_any l _ _ HL).mono ?_; rw [h1]; rintro e w' ⟨rfl, rfl⟩)
                     | (go_at_call_of 58 (Value.pointer ra); refine (isRed_any r _ _ HR).mono ?_; rw [h2]; rintro e w' ⟨rfl, rfl⟩))
  go_quiet (first | (go_at_call_of 80 (Value.pointer la); exact Calls.quiet_of_same (black_eq l la _ _ h5 (HL.out.keep (below_drewN' _ _))))
                  | (go_at_call_of 80 (Value.pointer ra); exact Calls.quiet_of_same (black_any r ra _ (HR.out.keep (below_drewN' _ _))))
                  | (go_at_call 58; exact Calls.quiet_of_same (isRed_eq _ _ false _ rfl (h.out.keep (below_drewN' _ _)))))
  go_wp2
  go_ret
  exact ⟨rfl, _, rfl⟩
set_option maxHeartbeats 4000000 in
theorem balanced_r_ff (l : Tr) (s o n k : Int) (r : Tr) (a : Option Addr) (w : World) (h5 : l.bh = r.bh) (h1 : l.red = false) (h2 : r.red = false) (h : Hid (At w ((Tr.mk (some (true, l, ⟨s, o, n, k⟩, r)))) a)) :
    Calls Try.prog 78 #[.pointer a] w fun e w' => e = .returned (.bool true) ∧ ∃ m, w' = w.drewN m := by
  obtain ⟨b, la, ra, rfl, hn, hl, hr⟩ := h.out
  have HL : Hid (At w l la) := hl
  have HR : Hid (At w r ra) := hr
  have c10 := (ncells hn).c10
  have c11 := (ncells hn).c11
  clear hn hl hr
  go_enter Try.func78, Try.ntmps78
  go_wp2_with (first | (go_at_call_of 58 (Value.pointer la); refine (isRed_any l _ _ HL).mono ?_; rw [h1]; rintro e w' ⟨rfl, rfl⟩)
                     | (go_at_call_of 58 (Value.pointer ra); refine (isRed_any r _ _ HR).mono ?_; rw [h2]; rintro e w' ⟨rfl, rfl⟩))
  go_quiet (first | (go_at_call_of 80 (Value.pointer la); exact Calls.quiet_of_same (black_eq l la _ _ h5 (HL.out.keep (below_drewN' _ _))))
                  | (go_at_call_of 80 (Value.pointer ra); exact Calls.quiet_of_same (black_any r ra _ (HR.out.keep (below_drewN' _ _))))
                  | (go_at_call 58; exact Calls.quiet_of_same (isRed_eq _ _ true _ rfl (h.out.keep (below_drewN' _ _)))))
  go_wp2
  go_ret
  exact ⟨rfl, _, rfl⟩
theorem balanced_any (c : Bool) (l : Tr) (s o n k : Int) (r : Tr) (a : Option Addr) (w : World) (h : At w ((Tr.mk (some (c, l, ⟨s, o, n, k⟩, r)))) a) :
    Calls Try.prog 78 #[.pointer a] w fun e w' => e = .returned (.bool (balB c l r)) ∧ ∃ m, w' = w.drewN m := by
  by_cases h3 : l.bh = r.bh
  · cases h1 : l.red with
    | true =>
      cases c with
      | false => rw [show balB false l r = true from by simp [balB, h3]]; exact balanced_b_t l s o n k r a w h3 h1 h
      | true => rw [show balB true l r = false from by simp [balB, h1]]; exact balanced_r_t l s o n k r a w h3 h1 h
    | false =>
      cases h2 : r.red with
      | true =>
        cases c with
        | false => rw [show balB false l r = true from by simp [balB, h3]]; exact balanced_b_ft l s o n k r a w h3 h1 h2 h
        | true => rw [show balB true l r = false from by simp [balB, h2]]; exact balanced_r_ft l s o n k r a w h3 h1 h2 h
      | false =>
        cases c with
        | false => rw [show balB false l r = true from by simp [balB, h3]]; exact balanced_b_ff l s o n k r a w h3 h1 h2 h
        | true => rw [show balB true l r = true from by simp [balB, h1, h2, h3]]; exact balanced_r_ff l s o n k r a w h3 h1 h2 h
  · rw [show balB c l r = false from by simp [balB, h3]]
    cases h1 : l.red with
    | true => exact balanced_ne_t c l s o n k r a w (ne_bh h3) h1 h
    | false =>
      cases h2 : r.red with
      | true => exact balanced_ne_ft c l s o n k r a w (ne_bh h3) h1 h2 h
      | false => exact balanced_ne_ff c l s o n k r a w (ne_bh h3) h1 h2 h
end Go.Proofs.Ytcaegdfbbjfgpaa

