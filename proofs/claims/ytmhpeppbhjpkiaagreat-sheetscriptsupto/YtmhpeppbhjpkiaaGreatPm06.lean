/- The contracts of appendRows and of Rows. -/
import Derived.Test.YtmhpeppbhjpkiaaGreatPm04
import Derived.Deep.AppendLies
namespace Go.Proofs.YtmhpeppbhjpkiaaGreat
open Go.RowKit

/-- A row: piece, colour, kids, sums. -/
structure Rw where
  p : Pc
  red : Bool
  left : Bool
  right : Bool
  cnt : Int
  byt : Int
  lin : Int
def Rw.cs (r : Rw) : List Value := [.int .i64 r.p.s, .int .i64 r.p.o, .int .i64 r.p.l, .int .i64 r.p.n, .bool r.red, .bool r.left, .bool r.right, .int .i64 r.cnt, .int .i64 r.byt, .int .i64 r.lin]
def rcells (L : List Rw) : List Value := L.flatMap Rw.cs
theorem rcells_length (L : List Rw) : (rcells L).length = L.length * 10 := by
  induction L with
  | nil => rfl
  | cons p L ih => simp only [rcells, List.flatMap_cons, List.length_append, List.length_cons] at *; rw [ih]; simp [Rw.cs]; omega
theorem rcells_append (L M : List Rw) : rcells (L ++ M) = rcells L ++ rcells M := by simp [rcells]
theorem rcells_cons (r : Rw) (M : List Rw) : rcells (r :: M) = r.cs ++ rcells M := by simp [rcells]
def rowOf (c : Bool) (l : Tr) (p : Pc) (r : Tr) : Rw := ⟨p, c, l.has, r.has, (((Tr.mk (some (c, l, p, r)))).size : Nat), ((Tr.mk (some (c, l, p, r)))).byt, ((Tr.mk (some (c, l, p, r)))).lin⟩
def rowsT : Tr → List Rw
  | (Tr.mk none) => []
  | (Tr.mk (some (c, l, p, r))) => rowOf c l p r :: (rowsT l ++ rowsT r)
theorem rowsT_length : ∀ t : Tr, (rowsT t).length = t.size
  | (Tr.mk none) => rfl
  | (Tr.mk (some (c, l, p, r))) => by simp only [rowsT, Tr.size, List.length_cons, List.length_append, rowsT_length l, rowsT_length r]; omega

theorem info72 : (Tryz.prog.info? 128).map (fun i => (i.zero, i.size, i.bytes)) = some (some (.agg #[.int .i64 0, .int .i64 0, .int .i64 0, .int .i64 0, .bool false, .bool false, .bool false, .int .i64 0, .int .i64 0, .int .i64 0]), 10, 64) := by kernel_rfl

/-- All nodes are as they were. -/
def Nods (w w' : World) : Prop := ∀ (b : Nat) (cs : Array Value), w.heap[b]? = some (Obj.cells cs 168 (0, 0)) → w'.heap[b]? = some (Obj.cells cs 168 (0, 0))
theorem Nods.at {w w' : World} (h : Nods w w') : ∀ {T : Tr} {a : Option Addr}, At w T a → At w' T a
  | (Tr.mk none), _, k => k
  | (Tr.mk (some (_, _, _, _))), _, ⟨b, la, ra, e, k, h1, h2⟩ => ⟨b, la, ra, e, h b _ k, h.at h1, h.at h2⟩
theorem Nods.node {w w' : World} (h : Nods w w') {b : Nat} {c : Bool} {l : Tr} {p : Pc} {r : Tr} {la ra : Option Addr} (k : w.heap[b]? = some (nodeObj c l p r la ra)) : w'.heap[b]? = some (nodeObj c l p r la ra) := h b _ k
theorem Nods.trans {a b c : World} (h : Nods a b) (k : Nods b c) : Nods a c := fun x cs e => k x cs (h x cs e)
theorem Nods.refl (w : World) : Nods w w := fun _ _ h => h
theorem Nods.below {w w' : World} (h : Below w.heap.size w w') : Nods w w' := fun _ _ k => nkeep k h
theorem Nods.grown {w w' : World} {row : Option Nat} (hg : w.grownBy w' row) (hr : ∀ k, row = some k → ∃ cs t, w.heap[k]? = some (.cells cs t (0, 0)) ∧ t ≠ 168) : Nods w w' := by
  intro b cs h
  rw [hg.block b (Array.getElem?_eq_some_iff.1 h).1 ?_]
  · exact h
  · intro e1
    obtain ⟨cs', t, h3, h4⟩ := hr b e1.symm
    rw [h3] at h
    have := Option.some.inj h
    injection this with _ e3 _
    exact h4 e3

theorem own_tag {w : World} {base e size n : Nat} {v : Value} {xs : List Value} (h : w.ownsRow base e size v n xs) (he : e ≠ 168) : ∀ k, v.ownBlock = some k → ∃ cs t, w.heap[k]? = some (.cells cs t (0, 0)) ∧ t ≠ 168 := by
  intro k hk
  rcases h.2 with ⟨rfl, _⟩ | ⟨g, cap, cur, rfl, _, hg, _⟩
  · simp [Value.ownBlock] at hk
  · simp [Value.ownBlock] at hk; subst hk; exact ⟨_, _, hg, he⟩

theorem own_shape {w : World} {base e size n : Nat} {v : Value} {xs : List Value} (h : w.ownsRow base e size v n xs) : ∃ ao cap, v = .slice ao n cap := by
  rcases h.2 with ⟨rfl, rfl⟩ | ⟨g, cap, cur, rfl, _⟩
  · exact ⟨_, _, rfl⟩
  · exact ⟨_, _, rfl⟩
theorem own_drew {w : World} {base e size n : Nat} {v : Value} {xs : List Value} (h : w.ownsRow base e size v n xs) : w.drew.ownsRow base e size v n xs := h

/-- all cells of a node but the last two -/
theorem s12 {w : World} {b : Nat} {c : Bool} {l : Tr} {s o n k : Int} {r : Tr} {la ra : Option Addr} (h : w.heap[b]? = some (nodeObj c l ⟨s, o, n, k⟩ r la ra)) :
    w.cell? ⟨b, 0, none⟩ = some (.int .i64 s) ∧ w.cell? ⟨b, 1, none⟩ = some (.int .i64 o) ∧ w.cell? ⟨b, 2, none⟩ = some (.int .i64 n) ∧ w.cell? ⟨b, 3, none⟩ = some (.int .i64 k) ∧ w.cell? ⟨b, 4, none⟩ = some (.bool c) ∧ w.cell? ⟨b, 5, none⟩ = some (.bool l.has) ∧ w.cell? ⟨b, 6, none⟩ = some (.bool r.has) ∧ w.cell? ⟨b, 7, none⟩ = some (.int .i64 (((Tr.mk (some (c, l, ⟨s, o, n, k⟩, r)))).size : Nat)) ∧ w.cell? ⟨b, 8, none⟩ = some (.int .i64 ((Tr.mk (some (c, l, ⟨s, o, n, k⟩, r)))).byt) ∧ w.cell? ⟨b, 9, none⟩ = some (.int .i64 ((Tr.mk (some (c, l, ⟨s, o, n, k⟩, r)))).lin) ∧ w.cell? ⟨b, 10, none⟩ = some (.pointer la) ∧ w.cell? ⟨b, 11, none⟩ = some (.pointer ra) := by
  have q := ncells h
  exact ⟨q.c0, q.c1, q.c2, q.c3, q.c4, q.c5, q.c6, q.c7, q.c8, q.c9, q.c10, q.c11⟩

set_option maxHeartbeats 400000 in
theorem appendRows_nil (v : Value) (w : World) : Calls Tryz.prog 83 #[v, .pointer none] w fun e w' => e = .returned v ∧ w' = w := by
  go_enter Tryz.func83, Tryz.ntmps83
  go_wp2
  go_ret
  exact ⟨rfl, rfl⟩

/-- What appendRows gives: the rows behind the list; of what was below B nothing has turned; the trees are as they were. -/
def RowsGave (B : Nat) (w0 w : World) (n : Nat) (xs : List Value) (t : Tr) (e : Ending) (w' : World) : Prop :=
  ∃ v', e = .returned v' ∧ w'.ownsRow B 128 10 v' (n + t.size) (xs ++ rcells (rowsT t)) ∧ Below B w0 w' ∧ w.heap.size ≤ w'.heap.size ∧ Nods w w'

theorem row_one : ∀ (r : Rw), ∀ u ∈ r.cs, u.oneCell' = true := by
  intro r u hu
  simp only [Rw.cs, List.mem_cons, List.not_mem_nil, or_false] at hu
  rcases hu with rfl | rfl | rfl | rfl | rfl | rfl | rfl | rfl | rfl | rfl <;> rfl

set_option maxRecDepth 100000 in
set_option maxHeartbeats 4000000 in
theorem appendRows_node (B : Nat) (w0 : World) (c : Bool) (l : Tr) (s o n k : Int) (r : Tr) (a : Option Addr) (ao : Option Addr) (m cap : Nat) (xs : List Value) (w : World) (h : Hid (At w ((Tr.mk (some (c, l, ⟨s, o, n, k⟩, r)))) a)) (hown : Hid (w.ownsRow B 128 10 (.slice ao m cap) m xs)) (hb : Hid (Below B w0 w)) (hB : Hid (B ≤ w.heap.size)) (hz : Hid (m + (l.size + 1 + r.size) ≤ 2097152))
    (IHL : Hid (∀ a v n xs w, At w l a → w.ownsRow B 128 10 v n xs → Below B w0 w → B ≤ w.heap.size → n + l.size ≤ 2097152 → Calls Tryz.prog 83 #[v, .pointer a] w fun e w' => RowsGave B w0 w n xs l e w'))
    (IHR : Hid (∀ a v n xs w, At w r a → w.ownsRow B 128 10 v n xs → Below B w0 w → B ≤ w.heap.size → n + r.size ≤ 2097152 → Calls Tryz.prog 83 #[v, .pointer a] w fun e w' => RowsGave B w0 w n xs r e w')) :
    Calls Tryz.prog 83 #[.slice ao m cap, .pointer a] w fun e w' => RowsGave B w0 w m xs ((Tr.mk (some (c, l, ⟨s, o, n, k⟩, r)))) e w' := by
  obtain ⟨b, la, ra, rfl, hn, hl, hr⟩ := h.out
  have HL : Hid (At w l la) := hl
  have HR : Hid (At w r ra) := hr
  have HN : Hid (w.heap[b]? = some (nodeObj c l ⟨s, o, n, k⟩ r la ra)) := hn
  obtain ⟨c0, c1, c2, c3, c4, c5, c6, c7, c8, c9, c10, c11⟩ := s12 hn
  obtain ⟨i0, hi, hz0, hz1, hz2⟩ := info_parts info72
  have hlt := (ncells hn).lt
  clear hn hl hr h
  go_enter Tryz.func83, Tryz.ntmps83
  go_wp2
  go_region_held3 (fun w' => w'.cell? ⟨b, 0, none⟩ = some (.int .i64 s) ∧ w'.cell? ⟨b, 1, none⟩ = some (.int .i64 o) ∧ w'.cell? ⟨b, 2, none⟩ = some (.int .i64 n) ∧ w'.cell? ⟨b, 3, none⟩ = some (.int .i64 k) ∧ w'.cell? ⟨b, 4, none⟩ = some (.bool c) ∧ w'.cell? ⟨b, 5, none⟩ = some (.bool l.has) ∧ w'.cell? ⟨b, 6, none⟩ = some (.bool r.has) ∧ w'.cell? ⟨b, 7, none⟩ = some (.int .i64 (((Tr.mk (some (c, l, ⟨s, o, n, k⟩, r)))).size : Nat)) ∧ w'.cell? ⟨b, 8, none⟩ = some (.int .i64 ((Tr.mk (some (c, l, ⟨s, o, n, k⟩, r)))).byt) ∧ w'.cell? ⟨b, 9, none⟩ = some (.int .i64 ((Tr.mk (some (c, l, ⟨s, o, n, k⟩, r)))).lin) ∧ w'.cell? ⟨b, 10, none⟩ = some (.pointer la) ∧ w'.cell? ⟨b, 11, none⟩ = some (.pointer ra)) (first | assumption | exact s12 (nkeep HN.out (bAlloc (Below.refl _ _) _).drew) | simp [*, go_sem])
    (first | ((refine step_append_lies _ (by rfl) (.tmp 8) (.tmp 13) 29 (by rfl) B 128 i0 (.agg #[.int .i64 0, .int .i64 0, .int .i64 0, .int .i64 0, .bool false, .bool false, .bool false, .int .i64 0, .int .i64 0, .int .i64 0]) 10 64 Tryz.underlying29 hi hz0 hz1 hz2 (by rfl) (by decide) (.slice ao m cap) m xs (by rfl) (own_drew (hown.out.alloc _)) ⟨w.heap.size, 0, none⟩ 1 1 (rowOf c l ⟨s, o, n, k⟩ r).cs (by rfl) (by rfl) (World.news_of_block (heap_alloc_new w _)) (row_one _) (by decide) (by have := hz.out; unfold maxLen; omega) (by have := hz.out; omega) (by have := hB.out; simp; omega) (w.heap.size + 1) (by simp) ?_; intro g9 cap9 w9 hown9 hgrow9 hat9 hlt9; have N9 : Nods w w9 := (Nods.below ((bAlloc (Below.refl w.heap.size w) _).drew)).trans (Nods.grown hgrow9 (own_tag (own_drew (hown.out.alloc _)) (by decide))); have k9 := s12 (N9.node HN.out)))
           | (go_at_call_of 83 (Value.pointer la); (have L9 : Below B w0 w9 := ((hb.out.alloc hB.out _).drew).grown hgrow9 (by have := hB.out; simp; omega) (fun k hk => (hown.out.lt k hk).1)); (have B9 : B ≤ w9.heap.size := by have := hB.out; have h' := hgrow9.size; simp at h'; omega); (have S9 : w.heap.size ≤ w9.heap.size := by have h' := hgrow9.size; simp at h'; omega); (have Z9 : m + 1 + l.size ≤ 2097152 := by have := hz.out; omega); (have Q := IHL.out la _ (m + 1) _ w9 (N9.at HL.out) hown9 L9 B9 Z9); refine Q.mono ?_; clear Q; rintro e w8 ⟨v8, rfl, hown8, hb8, hs8, N8⟩; have k8 := s12 (N8.node (N9.node HN.out)))
           | (go_at_call_of 83 (Value.pointer ra); (have Z8 : m + 1 + l.size + r.size ≤ 2097152 := by have := hz.out; omega); (have Q := IHR.out ra _ (m + 1 + l.size) _ w8 (N8.at (N9.at HR.out)) hown8 hb8 (Nat.le_trans B9 hs8) Z8); refine Q.mono ?_; clear Q; rintro e w7 ⟨v7, rfl, hown7, hb7, hs7, N7⟩; have k7 := s12 (N7.node (N8.node (N9.node HN.out)))))
  go_wp2
  go_ret
  refine ⟨v7, rfl, ?_, hb7, by omega, N9.trans (N8.trans N7)⟩
  simp only [Tr.size, rowsT, rcells_cons, rcells_append]
  rw [show m + (l.size + 1 + r.size) = m + 1 + l.size + r.size from by omega]
  simpa only [List.append_assoc] using hown7

theorem appendRows_any (B : Nat) (w0 : World) : ∀ (t : Tr) (a : Option Addr) (v : Value) (n : Nat) (xs : List Value) (w : World), At w t a → w.ownsRow B 128 10 v n xs → Below B w0 w → B ≤ w.heap.size → n + t.size ≤ 2097152 → Calls Tryz.prog 83 #[v, .pointer a] w fun e w' => RowsGave B w0 w n xs t e w'
  | (Tr.mk none), a, v, n, xs, w, h, hown, hb, hB, hz => by
    have e : a = none := h
    subst e
    refine (appendRows_nil v w).mono ?_
    rintro e w' ⟨rfl, rfl⟩
    exact ⟨v, rfl, by simpa [Tr.size, rowsT, rcells] using hown, hb, Nat.le_refl _, Nods.refl _⟩
  | (Tr.mk (some (c, l, ⟨s, o, n', k⟩, r))), a, v, n, xs, w, h, hown, hb, hB, hz => by
    obtain ⟨ao, cap, rfl⟩ := own_shape hown
    exact appendRows_node B w0 c l s o n' k r a ao n cap xs w h hown hb hB hz (appendRows_any B w0 l) (appendRows_any B w0 r)

set_option maxHeartbeats 400000 in
theorem Rows_any (t : Tr) (a : Option Addr) (w : World) (hz : Hid (t.size ≤ 2097152)) (h : Hid (At w t a)) :
    Calls Tryz.prog 47 #[.agg #[.pointer a]] w fun e w' => ∃ ao cap, e = .returned (.slice ao t.size cap) ∧ w'.ownsRow w.heap.size 128 10 (.slice ao t.size cap) t.size (rcells (rowsT t)) ∧ Below w.heap.size w w' := by
  go_enter Tryz.func47, Tryz.ntmps47
  go_wp2_with (go_at_call 83; refine (appendRows_any w.heap.size w t a _ 0 [] _ (h.out.alloc _) (World.ownsRow_nil _ _ _ _) (bAlloc (Below.refl _ _) _) (by simp) (by have := hz.out; omega)).mono ?_; rintro e w9 ⟨v9, rfl, hown9, hb9, hs9, N9⟩)
  go_ret
  rw [Nat.zero_add, List.nil_append] at hown9
  obtain ⟨ao, cap, rfl⟩ := own_shape hown9
  exact ⟨ao, cap, rfl, hown9, hb9⟩
end Go.Proofs.YtmhpeppbhjpkiaaGreat

