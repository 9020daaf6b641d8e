/- All of a tree, as an iterator: its pieces in order, each with its place. Conditions: the tree lies in memory and stays there. -/
import Derived.Test.YtpifjghhlcjedaaRange
import Derived.Test.YtpifjghhlcjedaaPure
import Derived.Shelf.Abstract
import Derived.Shelf.RegionOpen
import Derived.OwnWalkIn
import Derived.TacticsInMore
import Derived.LoopNIn
import Derived.LoopIn
namespace Go.Proofs.Ytpifjghhlcjedaa
open Go.RowKit Go.Shelf
attribute [local go_sem] Oper.semAt_some

theorem hid {p : Prop} (h : p) : Hid p := h

theorem At.same {w w' : World} (hb : ∀ k, k < w.heap.size → w'.heap[k]? = w.heap[k]?) : ∀ {t : Tr} {a : Option Addr}, At w t a → At w' t a
  | (Tr.mk none), _, h => h
  | (Tr.mk (some (c, l, p, r))), _, ⟨b, la, ra, e, h, h1, h2⟩ => ⟨b, la, ra, e, by rw [hb b (Array.getElem?_eq_some_iff.1 h).1]; exact h, h1.same hb, h2.same hb⟩

/-- What the iterator keeps of the world in which the tree lay: what lay at the places N. -/
def Lay (N : Nat → Prop) (w0 W : World) : Prop := ∀ k, k < w0.heap.size → N k → W.heap[k]? = w0.heap[k]?
theorem Lay.rnd {N : Nat → Prop} {w0 W W' : World} {lo hi : Nat} (h : Lay N w0 W) (hs : w0.heap.size ≤ W.heap.size) (hr : Rnd N lo hi W W') : Lay N w0 W' :=
  fun k hk hN => (hr.block k (by omega) (.inl hN)).trans (h k hk hN)

/-- The state between two rounds. -/
structure St (N : Nat → Prop) (J : List Pc → World → Prop) (w0 : World) (l lo : Nat) (pre : List Pc) (W : World) : Prop where
  j : J pre W
  yb : W.heap[lo]? = some (.cells #[.func (.yield l) #[] #[]] 107 (0, 0))
  pb : W.heap[lo + 1]? = some (.cells #[.int .i64 (pre.length : Int)] 3 (0, 0))
  le : w0.heap.size ≤ lo
  lay : Lay N w0 W

theorem St.lt {N : Nat → Prop} {J : List Pc → World → Prop} {w0 : World} {l lo : Nat} {pre : List Pc} {W : World} (h : St N J w0 l lo pre W) : lo + 1 < W.heap.size := (Array.getElem?_eq_some_iff.1 h.pb).1

/-- What a call of yield gives. -/
def Yd (N : Nat → Prop) (J Jx : List Pc → World → Prop) (l lo : Nat) (xs : List Pc) : Prop :=
  ∀ m pre x W1, J pre W1 → lo + 2 ≤ W1.heap.size → pre ++ [x] <+: xs → YieldAt Fence.wide m Try.prog l #[.int .i64 (pre.length : Int), x.v] W1 fun e W' =>
      (e = .returned (.bool true) ∧ J (pre ++ [x]) W' ∧ Rnd N lo (lo + 2) W1 W') ∨ (e = .returned (.bool false) ∧ Jx (pre ++ [x]) W' ∧ Rnd N lo (lo + 2) W1 W')

theorem box_cell {W : World} {B : Nat} {v : Value} {t : TypeId} (h : W.heap[B]? = some (.cells #[v] t (0, 0))) : W.cell? ⟨B, 0, none⟩ = some v ∧ W.frozen? ⟨B, 0, none⟩ = false := by
  constructor <;> simp [World.cell?, World.frozen?, h]

theorem box_set {W : World} {B : Nat} {v : Value} {t : TypeId} (h : W.heap[B]? = some (.cells #[v] t (0, 0))) (u : Value) : (W.setCell ⟨B, 0, none⟩ u).heap[B]? = some (.cells #[u] t (0, 0)) := by
  obtain ⟨hlt, hk'⟩ := Array.getElem?_eq_some_iff.1 h
  show (W.heap.modify B _)[B]? = _
  rw [Array.getElem?_eq_getElem (by rw [Array.size_modify]; exact hlt), Array.getElem_modify_self, hk']
  rfl

/-- The state abides a step of the iterator's own that is a new block. -/
theorem St.alloc {N : Nat → Prop} {J : List Pc → World → Prop} {w0 : World} {l lo : Nat} {pre : List Pc} {W : World} (h : St N J w0 l lo pre W) (hJ : Stab lo (lo + 2) J) (o : Obj) : St N J w0 l lo pre (W.alloc o) := by
  have hlt := h.lt
  have hle := h.le
  exact ⟨hJ _ _ _ h.j (Kept.alloc _ _ _ _), (Below.heap_alloc W o lo (by omega)).trans h.yb, (Below.heap_alloc W o _ hlt).trans h.pb, h.le, fun k hk hN => (Below.heap_alloc W o k (by omega)).trans (h.lay k hk hN)⟩

/-- What the world must be behind a round. -/
theorem yd_more {N : Nat → Prop} {J Jx : List Pc → World → Prop} {w0 : World} {l lo : Nat} {xs : List Pc} (hY : Yd N J Jx l lo xs) (n : Nat) (pre : List Pc) (x : Pc) (W : World) (hs : St N J w0 l lo pre W) (hp : pre ++ [x] <+: xs) :
    YieldAt Fence.wide n Try.prog l #[.int .i64 (pre.length : Int), x.v] W fun e W' =>
      ∃ b : Bool, e = .returned (.bool b) ∧ (if b = true then J (pre ++ [x]) W' else Jx (pre ++ [x]) W') ∧ W'.heap[lo]? = some (.cells #[.func (.yield l) #[] #[]] 107 (0, 0)) ∧ W'.heap[lo + 1]? = some (.cells #[.int .i64 (pre.length : Int)] 3 (0, 0)) ∧ Lay N w0 W' := by
  refine YieldAt.mono (hY n pre x W hs.j (by have := hs.lt; omega) hp) (fun e W' h => ?_)
  have hr : Rnd N lo (lo + 2) W W' := by rcases h with ⟨_, _, h⟩ | ⟨_, _, h⟩ <;> exact h
  have h1 := (hr.block lo (by have := hs.lt; omega) (by omega)).trans hs.yb
  have h2 := (hr.block (lo + 1) (by have := hs.lt; omega) (by omega)).trans hs.pb
  have h3 := hs.lay.rnd (by have := hs.lt; have := hs.le; omega) hr
  rcases h with ⟨a, b, _⟩ | ⟨a, b, _⟩
  · exact ⟨true, a, by simpa using b, h1, h2, h3⟩
  · exact ⟨false, a, by simpa using b, h1, h2, h3⟩

set_option maxRecDepth 100000 in
set_option maxHeartbeats 2000000 in
theorem visit_in (N : Nat → Prop) (J Jx : List Pc → World → Prop) (w0 : World) (l lo : Nat) (xs : List Pc) (hY : Yd N J Jx l lo xs) (hJ : Stab lo (lo + 2) J) (hJx : Stab lo (lo + 2) Jx)
    (n : Nat) (pre : List Pc) (x : Pc) (W : World) (hs : St N J w0 l lo pre W) (hp : pre ++ [x] <+: xs) (hlen : pre.length ≤ 1048576) :
    CallsIn Fence.wide n Try.prog 67 #[x.v, .pointer (some ⟨lo, 0, none⟩), .pointer (some ⟨lo + 1, 0, none⟩)] W fun e W' =>
      ∃ b : Bool, e = .returned (.bool b) ∧ (if b = true then St N J w0 l lo (pre ++ [x]) W' else Jx (pre ++ [x]) W') := by
  have hle := hs.le
  obtain ⟨s, o, len, nn⟩ := x
  have hs1 := hs.alloc hJ (.cells #[.int .i64 s, .int .i64 o, .int .i64 len, .int .i64 nn] 32)
  have hc2 : (W.alloc (.cells #[.int .i64 s, .int .i64 o, .int .i64 len, .int .i64 nn] 32)).heap[W.heap.size]? = some (.cells #[.int .i64 s, .int .i64 o, .int .i64 len, .int .i64 nn] 32 (0, 0)) := World.alloc_heap_new _ _
  obtain ⟨fn, tmps, assign, body, hy, hR⟩ := yd_more hY (n - 1) pre ⟨s, o, len, nn⟩ _ hs1 hp
  obtain ⟨hc0, hf0⟩ := box_cell hs1.yb
  obtain ⟨hc1, hf1⟩ := box_cell hs1.pb
  have HR := hid hR
  clear hR hs1
  have HS := hid hs
  clear hs hY
  have HP := hid hp
  clear hp
  simp only [Pc.v] at hy ⊢
  refine callsIn_of_wp Try.func67 rfl trivial ?_ rfl
  simp only [Try.ntmps67, List.size_toArray, List.length_cons, List.length_nil, Nat.reduceAdd, Nat.reduceSub, Array.replicate_succ, Array.replicate_zero, List.push_toArray, List.append_toArray, List.nil_append, List.cons_append]
  gi_wp2
  refine ⟨fun h => (by cases h), ?_⟩
  refine (Hid.out HR).mono ?_
  clear HR hy hc0 hf0 hc1 hf1 hc2
  rintro e W3 ⟨b, rfl, hj, h1, h2, h3⟩
  obtain ⟨hc1, hf1⟩ := box_cell h2
  have H1 := hid h1
  have H2 := hid h2
  clear h1 h2
  gi_wp2
  go_ret
  refine ⟨b, rfl, ?_⟩
  have hk : Kept lo (lo + 2) W3 (W3.setCell ⟨lo + 1, 0, none⟩ (.int .i64 ((pre.length : Int) + 1))) := Kept.setCell _ _ _ (by simp) (by simp)
  cases b with
  | true =>
    simp only [if_true] at hj ⊢
    refine ⟨hJ _ _ _ hj hk, ?_, ?_, hle, ?_⟩
    · exact (Below.heap_setCell _ _ _ _ (by simp)).trans H1.out
    · have := box_set H2.out (.int .i64 ((pre.length : Int) + 1))
      simpa using this
    · exact fun k hk hN => (Below.heap_setCell _ _ _ _ (by simp; omega)).trans (h3 k hk hN)
  | false =>
    simp only [Bool.false_eq_true, if_false] at hj ⊢
    exact hJx _ _ _ hj hk

theorem yield_nil (l : Nat) (W : World) : (binOp BinOp.eql 107 (.func (.yield l) #[] #[]) Value.nilFunc).run Try.prog W = .ok (.bool false) W := by kernel_rfl

/-- What a walk over a tree gives. -/
def Wk (N : Nat → Prop) (J Jx : List Pc → World → Prop) (w0 : World) (l lo : Nat) (pre ys : List Pc) (e : Ending) (W' : World) : Prop :=
  ∃ b : Bool, e = .returned (.bool b) ∧ (if b = true then St N J w0 l lo (pre ++ ys) W' else ∃ q, q <+: ys ∧ Jx (pre ++ q) W')

set_option maxHeartbeats 1000000 in
theorem walk_nil (N : Nat → Prop) (J Jx : List Pc → World → Prop) (w0 : World) (l lo n : Nat) (pre : List Pc) (v : Value) (W : World) (hs : St N J w0 l lo pre W) :
    CallsIn Fence.wide n Try.prog 66 #[.pointer none, v] W (Wk N J Jx w0 l lo pre []) := by
  have HS := hid hs
  clear hs
  refine callsIn_of_wp Try.func66 rfl trivial ?_ rfl
  simp only [Try.ntmps66, List.size_toArray, List.length_cons, List.length_nil, Nat.reduceAdd, Nat.reduceSub, Array.replicate_succ, Array.replicate_zero, List.push_toArray, List.append_toArray, List.nil_append, List.cons_append]
  gi_wp2
  go_ret
  exact ⟨true, rfl, by simpa using HS.out⟩

set_option maxRecDepth 100000 in
set_option maxHeartbeats 2000000 in
theorem walk_node (N : Nat → Prop) (J Jx : List Pc → World → Prop) (w0 : World) (l lo : Nat) (xs : List Pc) (c : Bool) (tl : Tr) (p : Pc) (tr : Tr) (b : Nat) (la ra : Option Addr) (hb : b < w0.heap.size) (hNb : N b)
    (h0 : w0.heap[b]? = some (nodeObj c tl p tr la ra))
    (ihl : Hid (∀ n pre W, St N J w0 l lo pre W → pre ++ tl.list <+: xs → CallsIn Fence.wide n Try.prog 66 #[.pointer la, .func (.func 67) #[] #[.pointer (some ⟨lo, 0, none⟩), .pointer (some ⟨lo + 1, 0, none⟩)]] W (Wk N J Jx w0 l lo pre tl.list)))
    (ihr : Hid (∀ n pre W, St N J w0 l lo pre W → pre ++ tr.list <+: xs → CallsIn Fence.wide n Try.prog 66 #[.pointer ra, .func (.func 67) #[] #[.pointer (some ⟨lo, 0, none⟩), .pointer (some ⟨lo + 1, 0, none⟩)]] W (Wk N J Jx w0 l lo pre tr.list)))
    (hv : Hid (∀ n pre x W, St N J w0 l lo pre W → pre ++ [x] <+: xs → CallsIn Fence.wide n Try.prog 67 #[x.v, .pointer (some ⟨lo, 0, none⟩), .pointer (some ⟨lo + 1, 0, none⟩)] W fun e W' =>
      ∃ b : Bool, e = .returned (.bool b) ∧ (if b = true then St N J w0 l lo (pre ++ [x]) W' else Jx (pre ++ [x]) W')))
    (n : Nat) (pre : List Pc) (W : World) (hs : St N J w0 l lo pre W) (hp : pre ++ (tl.list ++ p :: tr.list) <+: xs) :
    CallsIn Fence.wide n Try.prog 66 #[.pointer (some ⟨b, 0, none⟩), .func (.func 67) #[] #[.pointer (some ⟨lo, 0, none⟩), .pointer (some ⟨lo + 1, 0, none⟩)]] W (Wk N J Jx w0 l lo pre (tl.list ++ p :: tr.list)) := by
  have cells : ∀ {q : List Pc} {W' : World}, St N J w0 l lo q W' → NCells W' b c tl p tr la ra := fun h => ncells ((h.lay b hb hNb).trans h0)
  have N1 := cells hs
  obtain ⟨hlt, c0, c1, c2, c3, c4, c5, c6, c7, c8, c9, c10, c11, c12, c13⟩ := N1
  have i1 := hid (ihl.out (n - 1) pre W hs (by obtain ⟨r, hr⟩ := hp; exact ⟨p :: tr.list ++ r, by simp [← hr]⟩))
  clear ihl
  have HP := hid hp
  clear hp
  have HS := hid hs
  clear hs
  refine callsIn_of_wp Try.func66 rfl trivial ?_ rfl
  simp only [Try.ntmps66, List.size_toArray, List.length_cons, List.length_nil, Nat.reduceAdd, Nat.reduceSub, Array.replicate_succ, Array.replicate_zero, List.push_toArray, List.append_toArray, List.nil_append, List.cons_append]
  gi_wp2
  refine ⟨trivial, fun h => (by cases h), ?_⟩
  refine (Hid.out i1).mono ?_
  clear i1 c0 c1 c2 c3 c4 c5 c6 c7 c8 c9 c10 c11 c12 c13
  rintro e W1 ⟨b1, rfl, hs1⟩
  cases b1 with
  | false =>
    simp only [Bool.false_eq_true, if_false] at hs1
    have H1 := hid hs1
    clear hs1
    gi_wp2
    refine ⟨fun _ h => (by cases h), ?_⟩
    gi_wp2
    refine ⟨trivial, ?_⟩
    gi_wp2
    go_ret
    obtain ⟨q, hq, hx⟩ := H1.out
    exact ⟨false, rfl, by simpa using ⟨q, hq.trans (by simp), hx⟩⟩
  | true =>
    simp only [if_true] at hs1
    obtain ⟨hlt1, c0, c1, c2, c3, c4, c5, c6, c7, c8, c9, c10, c11, c12, c13⟩ := cells hs1
    have i2 := hid (hv.out (n - 1) (pre ++ tl.list) p W1 hs1 (by obtain ⟨r, hr⟩ := HP.out; exact ⟨tr.list ++ r, by simp [← hr]⟩))
    clear hv
    have H1 := hid hs1
    clear hs1
    gi_wp2
    refine ⟨trivial, fun h => (by cases h), ?_⟩
    refine (Hid.out i2).mono ?_
    clear i2 c0 c1 c2 c3 c4 c5 c6 c7 c8 c9 c10 c11 c12 c13
    rintro e W2 ⟨b2, rfl, hs2⟩
    cases b2 with
    | false =>
      simp only [Bool.false_eq_true, if_false] at hs2
      have H2 := hid hs2
      clear hs2
      gi_wp2
      refine ⟨trivial, ?_⟩
      gi_wp2
      go_ret
      refine ⟨false, rfl, ?_⟩
      simp only [Bool.false_eq_true, if_false]
      exact ⟨tl.list ++ [p], ⟨tr.list, by simp⟩, by simpa using H2.out⟩
    | true =>
      simp only [if_true] at hs2
      obtain ⟨hlt2, c0, c1, c2, c3, c4, c5, c6, c7, c8, c9, c10, c11, c12, c13⟩ := cells hs2
      have i3 := hid (ihr.out (n - 1) (pre ++ tl.list ++ [p]) W2 hs2 (by obtain ⟨r, hr⟩ := HP.out; exact ⟨r, by simp [← hr]⟩))
      clear ihr
      have H2 := hid hs2
      clear hs2
      gi_wp2
      refine ⟨trivial, fun h => (by cases h), ?_⟩
      refine (Hid.out i3).mono ?_
      clear i3 c0 c1 c2 c3 c4 c5 c6 c7 c8 c9 c10 c11 c12 c13
      rintro e W3 ⟨b3, rfl, hs3⟩
      have H3 := hid hs3
      clear hs3
      gi_wp2
      go_ret
      refine ⟨b3, rfl, ?_⟩
      cases b3 with
      | false =>
        obtain ⟨q, ⟨r, hr⟩, hx⟩ := (by simpa using H3.out : ∃ q, q <+: tr.list ∧ Jx (pre ++ (tl.list ++ p :: q)) W3)
        simp only [Bool.false_eq_true, if_false]
        exact ⟨tl.list ++ p :: q, ⟨r, by simp [← hr]⟩, hx⟩
      | true =>
        have := H3.out
        simp only [if_true] at this ⊢
        simpa using this

/-- A walk over any tree. -/
theorem walk_in (N : Nat → Prop) (J Jx : List Pc → World → Prop) (w0 : World) (hN : ∀ (b : Nat) (cs : Array Value), w0.heap[b]? = some (Obj.cells cs 137 (0, 0)) → N b) (l lo : Nat) (xs : List Pc)
    (hv : Hid (∀ n pre x W, St N J w0 l lo pre W → pre ++ [x] <+: xs → CallsIn Fence.wide n Try.prog 67 #[x.v, .pointer (some ⟨lo, 0, none⟩), .pointer (some ⟨lo + 1, 0, none⟩)] W fun e W' =>
      ∃ b : Bool, e = .returned (.bool b) ∧ (if b = true then St N J w0 l lo (pre ++ [x]) W' else Jx (pre ++ [x]) W'))) :
    ∀ (t : Tr) (a : Option Addr), At w0 t a → ∀ n pre W, St N J w0 l lo pre W → pre ++ t.list <+: xs →
      CallsIn Fence.wide n Try.prog 66 #[.pointer a, .func (.func 67) #[] #[.pointer (some ⟨lo, 0, none⟩), .pointer (some ⟨lo + 1, 0, none⟩)]] W (Wk N J Jx w0 l lo pre t.list)
  | Tr.mk none, a, h, n, pre, W, hs, hp => by
    obtain rfl : a = none := h
    exact walk_nil N J Jx w0 l lo n pre _ W hs
  | Tr.mk (some (c, tl, p, tr)), a, h, n, pre, W, hs, hp => by
    obtain ⟨b, la, ra, rfl, h0, h1, h2⟩ := h
    exact walk_node N J Jx w0 l lo xs c tl p tr b la ra (Array.getElem?_eq_some_iff.1 h0).1 (hN b _ h0) h0 (hid (walk_in N J Jx w0 hN l lo xs hv tl la h1)) (hid (walk_in N J Jx w0 hN l lo xs hv tr ra h2)) hv n pre W hs hp

set_option maxRecDepth 100000 in
set_option maxHeartbeats 2000000 in
/-- The function value that All gives, as an iterator. -/
theorem all_seq (N : Nat → Prop) (w0 : World) (t : Tr) (a : Option Addr) (B : Nat) (w : World) (hA : At w0 t a) (hN : ∀ (b : Nat) (cs : Array Value), w0.heap[b]? = some (Obj.cells cs 137 (0, 0)) → N b) (hlay : Lay N w0 w) (hle : w0.heap.size ≤ w.heap.size) (hbox : w.heap[B]? = some (.cells #[.pointer a] 26 (0, 0))) (hsz : t.size ≤ 1048576) :
    SeqC Fence.wide Try.prog 65 #[.pointer (some ⟨B, 0, none⟩)] (fun i (x : Pc) => #[.int .i64 (i : Int), x.v]) 2 N t.list w := by
  intro n l J Jx W hW hJ hJx hY h0
  have hlw := hW.size
  have hBlt := (Array.getElem?_eq_some_iff.1 hbox).1
  have hbW : W.heap[B]? = some (.cells #[.pointer a] 26 (0, 0)) := (hW.block B hBlt).trans hbox
  have hs0 : St N J w0 l W.heap.size [] ((W.alloc (.cells #[.func (.yield l) #[] #[]] 107)).alloc (.cells #[.int .i64 0] 3)) := by
    refine ⟨hJ _ _ _ h0 ((Kept.alloc _ _ _ _).trans (Kept.alloc _ _ _ _)), ?_, ?_, by omega, ?_⟩
    · exact (Below.heap_alloc _ _ _ (by simp)).trans (World.alloc_heap_new W _)
    · have := World.alloc_heap_new (W.alloc (.cells #[.func (.yield l) #[] #[]] 107)) (.cells #[.int .i64 0] 3)
      rwa [World.size_alloc] at this
    · exact fun k hk hN => (((Below.heap_alloc _ _ _ (by simp; omega)).trans (Below.heap_alloc _ _ _ (by omega))).trans (hW.block k (by omega))).trans (hlay k hk hN)
  have hwk := hid (walk_in N J Jx w0 hN l W.heap.size t.list (hid fun n pre x W1 hs hp => visit_in N J Jx w0 l W.heap.size t.list hY hJ hJx n pre x W1 hs hp (by
    have := hp.length_le; simp at this; have := t.size_list; omega)) t a hA (n - 1) [] _ hs0 (by simp))
  have HS := hid hs0
  clear hs0 hY hJ hJx h0
  have hcB : ((W.alloc (.cells #[.func (.yield l) #[] #[]] 107)).alloc (.cells #[.int .i64 0] 3)).heap[B]? = some (.cells #[.pointer a] 26 (0, 0)) :=
    ((Below.heap_alloc _ _ _ (by simp; omega)).trans (Below.heap_alloc _ _ _ (by omega))).trans hbW
  obtain ⟨hc0, hf0⟩ := box_cell hcB
  obtain ⟨hc1, hf1⟩ := box_cell (World.alloc_heap_new W (.cells #[.func (.yield l) #[] #[]] 107))
  clear hcB hbW hbox
  have hyn := yield_nil l
  refine callsIn_of_wp Try.func65 rfl trivial ?_ rfl
  simp only [Try.ntmps65, List.size_toArray, List.length_cons, List.length_nil, Nat.reduceAdd, Nat.reduceSub, Array.replicate_succ, Array.replicate_zero, List.push_toArray, List.append_toArray, List.nil_append, List.cons_append]
  gi_wp2
  refine ⟨trivial, fun h => (by cases h), ?_⟩
  refine (Hid.out hwk).mono ?_
  clear hwk HS hc0 hf0 hc1 hf1
  rintro e W2 ⟨b, rfl, hs2⟩
  have H2 := hid hs2
  clear hs2
  gi_wp2
  go_end0
  refine ⟨⟨_, rfl⟩, ?_⟩
  cases b with
  | true => exact .inl (by simpa using (show St N J w0 l W.heap.size ([] ++ t.list) W2 from H2.out).j)
  | false =>
    obtain ⟨q, hq, hx⟩ := (show ∃ q, q <+: t.list ∧ Jx ([] ++ q) W2 from H2.out)
    exact .inr ⟨q, hq, by simpa using hx⟩

set_option maxHeartbeats 1000000 in
/-- All: the tree is boxed; the function value captures the box. -/
theorem all_in (F : Fence) (n : Nat) (h4 : F.fn 23) (hro : F.round = none) (a : Option Addr) (w : World) :
    CallsIn F n Try.prog 23 #[.agg #[.pointer a]] w fun e w' => e = .returned (.func (.func 65) #[] #[.pointer (some ⟨w.heap.size, 0, none⟩)]) ∧ w' = w.alloc (.cells #[.pointer a] 26) := by
  refine callsIn_of_wp Try.func23 rfl h4 ?_ hro
  simp only [Try.ntmps23, List.size_toArray, List.length_cons, List.length_nil, Nat.reduceAdd, Nat.reduceSub, Array.replicate_succ, Array.replicate_zero, List.push_toArray, List.append_toArray, List.nil_append, List.cons_append]
  gi_wp2
  go_ret
  exact ⟨rfl, rfl⟩

theorem all_any (a : Option Addr) (w : World) :
    Calls Try.prog 23 #[.agg #[.pointer a]] w fun e w' => e = .returned (.func (.func 65) #[] #[.pointer (some ⟨w.heap.size, 0, none⟩)]) ∧ w' = w.alloc (.cells #[.pointer a] 26) :=
  callsIn_wide.1 (all_in Fence.wide 0 trivial rfl a w)

end Go.Proofs.Ytpifjghhlcjedaa
