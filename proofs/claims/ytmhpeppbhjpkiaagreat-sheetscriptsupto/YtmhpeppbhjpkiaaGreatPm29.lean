/- Many rows of the call's own, each in a block of its own: written, grown, made. -/
import Derived.Test.YtmhpeppbhjpkiaaGreatPm04
import Derived.ArgAppend
import Derived.Maps.AppendAt
import Derived.Test.YtmhpeppbhjpkiaaGreatPm27
import Derived.Deep.CutRange
import Derived.Test.YtmhpeppbhjpkiaaGreatPm28
namespace Go.Proofs.YtmhpeppbhjpkiaaGreat.Rk
open Go.RowKit

theorem bT {a b c : World} (h : Below a.heap.size a b) (k : Below b.heap.size b c) : Below a.heap.size a c := h.trans (k.mono h.size)
theorem own_keep {w w' : World} {base e size n : Nat} {v : Value} {xs : List Value} (h : w.ownsRow base e size v n xs) (hb : Below w.heap.size w w') : w'.ownsRow base e size v n xs := by
  refine ⟨h.1, ?_⟩
  rcases h.2 with h0 | ⟨g, cap, cur, rfl, hb', hg, rest⟩
  · exact .inl h0
  · exact .inr ⟨g, cap, cur, rfl, hb', by rw [hb.block g (Array.getElem?_eq_some_iff.1 hg).1]; exact hg, rest⟩
theorem own_lower {w : World} {base base' e size n : Nat} {v : Value} {xs : List Value} (h : w.ownsRow base e size v n xs) (hb : base' ≤ base) : w.ownsRow base' e size v n xs := by
  refine ⟨h.1, ?_⟩
  rcases h.2 with h0 | ⟨g, cap, cur, rfl, hb', rest⟩
  · exact .inl h0
  · exact .inr ⟨g, cap, cur, rfl, by omega, rest⟩
theorem bAlloc {w W : World} (h : Below w.heap.size w W) (o : Obj) : Below w.heap.size w (W.alloc o) := h.alloc h.size o

/-- one cell in a block of its own -/
def Box (W : World) (b : Nat) (v : Value) (t : Nat) : Prop := W.heap[b]? = some (.cells #[v] t (0, 0))
theorem Box.keep {W W' : World} {b t : Nat} {v : Value} (h : Box W b v t) (hb : Below W.heap.size W W') : Box W' b v t :=
  (hb.block b (Array.getElem?_eq_some_iff.1 h).1).trans h
theorem Box.new (W : World) (v : Value) (t : Nat) : Box (W.alloc (.cells #[v] t)) W.heap.size v t := heap_alloc_new W _
theorem Box.lt {W : World} {b t : Nat} {v : Value} (h : Box W b v t) : b < W.heap.size := (Array.getElem?_eq_some_iff.1 h).1
theorem Box.cell {W : World} {b t : Nat} {v : Value} (h : Box W b v t) : W.cell? ⟨b, 0, none⟩ = some v ∧ W.frozen? ⟨b, 0, none⟩ = false := by
  unfold Box at h
  simp [World.cell?, World.frozen?, h]
/-- a row of another type is written or grown -/
theorem Box.grown {W W' : World} {b t base e size n : Nat} {v u : Value} {xs : List Value} (h : Box W b v t) (hr : W.ownsRow base e size u n xs) (he : e ≠ t) (hg : W.grownBy W' u.ownBlock) : Box W' b v t := by
  refine (hg.block b h.lt ?_).trans h
  intro e1
  rcases hr.2 with ⟨rfl, _⟩ | ⟨g, cap, cur, rfl, _, hgg, _⟩
  · simp [Value.ownBlock] at e1
  · simp [Value.ownBlock] at e1
    subst e1
    unfold Box at h
    rw [hgg] at h
    simp at h
    exact he h.2

/-- a and b lie in no block together -/
def Far (a b : Value) : Prop := ∀ g, a.ownBlock = some g → b.ownBlock = some g → False
theorem Far.symm {a b : Value} (h : Far a b) : Far b a := fun g h1 h2 => h g h2 h1
theorem Far.ne {a b : Value} (h : Far a b) : a.ownBlock = none ∨ a.ownBlock ≠ b.ownBlock := by
  cases ha : a.ownBlock with
  | none => exact .inl rfl
  | some g => exact .inr fun e => h g ha e.symm
theorem Far.of {a b : Value} (h : a.ownBlock = none ∨ a.ownBlock ≠ b.ownBlock) : Far a b := fun g h1 h2 => by
  rcases h with h | h
  · rw [h] at h1; cases h1
  · exact h (h1.trans h2.symm)
theorem far_new {w w' : World} {base e s n e' s' n' : Nat} {x y : Value} {xs ys : List Value} (h : w.ownsRow base e s x n xs) (k : w'.ownsRow w.heap.size e' s' y n' ys) : Far x y := fun g h1 h2 => by
  have := (h.lt g h1).2
  have := (k.lt g h2).1
  omega
/-- rows of different types lie apart -/
theorem far_type {w : World} {base e s n base' e' s' n' : Nat} {x y : Value} {xs ys : List Value} (h : w.ownsRow base e s x n xs) (k : w.ownsRow base' e' s' y n' ys) (hne : e ≠ e') : Far x y := fun g h1 h2 => by
  rcases h.2 with ⟨rfl, _⟩ | ⟨g1, c1, u1, rfl, _, hg1, _⟩
  · simp [Value.ownBlock] at h1
  · rcases k.2 with ⟨rfl, _⟩ | ⟨g2, c2, u2, rfl, _, hg2, _⟩
    · simp [Value.ownBlock] at h2
    · simp [Value.ownBlock] at h1 h2
      subst h1 h2
      rw [hg1] at hg2
      simp at hg2
      exact hne hg2.2

structure Rr where
  t : Nat
  s : Nat
  v : Value
  n : Nat
  xs : List Value

structure Rrs (w W : World) (R : List Rr) : Prop where
  own : ∀ (i : Nat) (r : Rr), R[i]? = some r → W.ownsRow w.heap.size r.t r.s r.v r.n r.xs
  far : ∀ (i j : Nat) (p q : Rr), i ≠ j → R[i]? = some p → R[j]? = some q → Far p.v q.v
  bel : Below w.heap.size w W

theorem Rrs.keep {w W W' : World} {R : List Rr} (h : Rrs w W R) (hb : Below W.heap.size W W') : Rrs w W' R :=
  ⟨fun i r hi => own_keep (h.own i r hi) hb, h.far, bT h.bel hb⟩
theorem Rrs.alloc {w W : World} {R : List Rr} (h : Rrs w W R) (o : Obj) : Rrs w (W.alloc o) R := h.keep (bAlloc (Below.refl _ _) o)
theorem Rrs.drew {w W : World} {R : List Rr} (h : Rrs w W R) : Rrs w W.drew R := h.keep (Below.refl _ _).drew
theorem Rrs.size {w W : World} {R : List Rr} (h : Rrs w W R) : w.heap.size ≤ W.heap.size := h.bel.size
theorem Rrs.nil (w : World) : Rrs w w [] := ⟨fun i r hi => by simp at hi, fun i j p q _ hi => by simp at hi, Below.refl _ _⟩

theorem snoc_at {α : Type} {R : List α} {r x : α} {i : Nat} (h : (R ++ [r])[i]? = some x) : R[i]? = some x ∨ (i = R.length ∧ x = r) := by
  rw [List.getElem?_append] at h
  split at h
  · exact .inl h
  · rename_i hi
    right
    have := (List.getElem?_eq_some_iff.1 h).1
    simp at this
    have e : i = R.length := by omega
    subst e
    simp at h
    exact ⟨rfl, h.symm⟩
/-- one row more, in new memory -/
theorem Rrs.new {w W W' : World} {R : List Rr} {t s n : Nat} {v : Value} {xs : List Value} (h : Rrs w W R) (hb : Below W.heap.size W W') (ho : W'.ownsRow W.heap.size t s v n xs) : Rrs w W' (R ++ [⟨t, s, v, n, xs⟩]) := by
  have hk := h.keep hb
  refine ⟨fun i r hi => ?_, fun i j p q hij hi hj => ?_, hk.bel⟩
  · rcases snoc_at hi with hi | ⟨_, rfl⟩
    · exact hk.own i r hi
    · exact own_lower ho h.size
  · rcases snoc_at hi with hi | ⟨e1, rfl⟩
    · rcases snoc_at hj with hj | ⟨e2, rfl⟩
      · exact h.far i j p q hij hi hj
      · exact far_new (h.own i p hi) ho
    · rcases snoc_at hj with hj | ⟨e2, rfl⟩
      · exact (far_new (h.own j q hj) ho).symm
      · omega
/-- two rows more, in new memory, apart -/
theorem Rrs.new2 {w W W' : World} {R : List Rr} {t s n t2 s2 n2 : Nat} {v v2 : Value} {xs xs2 : List Value} (h : Rrs w W R) (hb : Below W.heap.size W W') (ho : W'.ownsRow W.heap.size t s v n xs) (ho2 : W'.ownsRow W.heap.size t2 s2 v2 n2 xs2) (hf : v.ownBlock = none ∨ v.ownBlock ≠ v2.ownBlock) : Rrs w W' (R ++ [⟨t, s, v, n, xs⟩] ++ [⟨t2, s2, v2, n2, xs2⟩]) := by
  have hk := h.new hb ho
  refine ⟨fun i r hi => ?_, fun i j p q hij hi hj => ?_, hk.bel⟩
  · rcases snoc_at hi with hi | ⟨_, rfl⟩
    · exact hk.own i r hi
    · exact own_lower ho2 h.size
  · have far : ∀ (i : Nat) (p : Rr), (R ++ [⟨t, s, v, n, xs⟩])[i]? = some p → Far p.v v2 := fun i p hi => by
      rcases snoc_at hi with hi | ⟨_, rfl⟩
      · exact far_new (h.own i p hi) ho2
      · exact Far.of hf
    rcases snoc_at hi with hi | ⟨e1, rfl⟩
    · rcases snoc_at hj with hj | ⟨e2, rfl⟩
      · exact hk.far i j p q hij hi hj
      · exact far i p hi
    · rcases snoc_at hj with hj | ⟨e2, rfl⟩
      · exact (far j q hj).symm
      · omega
theorem set_at {α : Type} {R : List α} {r x : α} {i j : Nat} (h : (R.set i r)[j]? = some x) : (j ≠ i ∧ R[j]? = some x) ∨ (j = i ∧ x = r) := by
  rw [List.getElem?_set] at h
  by_cases e : i = j
  · rw [if_pos e] at h
    split at h
    · injection h with h; exact .inr ⟨e.symm, h.symm⟩
    · cases h
  · rw [if_neg e] at h
    exact .inl ⟨Ne.symm e, h⟩
/-- one row is grown -/
theorem Rrs.grow {w W W' : World} {R : List Rr} {i : Nat} {r : Rr} {t s n : Nat} {v : Value} {xs : List Value} (h : Rrs w W R) (hi : R[i]? = some r) (hg : W.grownBy W' r.v.ownBlock) (ho : W'.ownsRow w.heap.size t s v n xs)
    (hf : v.ownBlock = r.v.ownBlock ∨ ∃ q, v.ownBlock = some q ∧ W.heap.size ≤ q) : Rrs w W' (R.set i ⟨t, s, v, n, xs⟩) := by
  have hfar : ∀ j q, j ≠ i → R[j]? = some q → Far q.v v := fun j q hj hq g h1 h2 => by
    rcases hf with e | ⟨k, e, hk⟩
    · exact h.far j i q r hj hq hi g h1 (by rw [← e]; exact h2)
    · have := ((h.own j q hq).lt g h1).2
      rw [e] at h2; simp at h2; omega
  refine ⟨fun j q hj => ?_, fun j k p q hjk hj hk => ?_, h.bel.grown hg h.size (fun k hk => ((h.own i r hi).lt k hk).1)⟩
  · rcases set_at hj with ⟨hne, hj⟩ | ⟨_, rfl⟩
    · exact (h.own j q hj).kept hg (h.far j i q r hne hj hi).ne
    · exact ho
  · rcases set_at hj with ⟨hne, hj⟩ | ⟨e1, rfl⟩
    · rcases set_at hk with ⟨hne2, hk⟩ | ⟨e2, rfl⟩
      · exact h.far j k p q hjk hj hk
      · exact hfar j p hne hj
    · rcases set_at hk with ⟨hne2, hk⟩ | ⟨e2, rfl⟩
      · exact (hfar k q hne2 hk).symm
      · omega
/-- one cell of a row is stored -/
theorem Rrs.store {w W : World} {R : List Rr} {i t s g n c : Nat} {xs : List Value} (h : Rrs w W R) (hi : R[i]? = some ⟨t, s, .slice (some ⟨g, 0, none⟩) n c, n, xs⟩) (j : Nat) (u : Value) :
    Rrs w (W.setCell ⟨g, j, none⟩ u) (R.set i ⟨t, s, .slice (some ⟨g, 0, none⟩) n c, n, xs.set j u⟩) := by
  obtain ⟨h1, h2⟩ := (h.own i _ hi).stored j u
  exact h.grow hi h2 h1 (.inl rfl)

/-- three cells of a row are stored -/
theorem Rrs.store3 {w W : World} {R : List Rr} {i t s g n c : Nat} {xs : List Value} (h : Rrs w W R) (hi : R[i]? = some ⟨t, s, .slice (some ⟨g, 0, none⟩) n c, n, xs⟩) (j : Nat) (a b d : Value) :
    Rrs w (((W.setCell ⟨g, j, none⟩ a).setCell ⟨g, j + 1, none⟩ b).setCell ⟨g, j + 2, none⟩ d) (R.set i ⟨t, s, .slice (some ⟨g, 0, none⟩) n c, n, ((xs.set j a).set (j + 1) b).set (j + 2) d⟩) := by
  have hlt := (List.getElem?_eq_some_iff.1 hi).1
  have h1 := h.store hi j a
  have h2 := h1.store (i := i) (by rw [List.getElem?_set_self hlt]) (j + 1) b
  have h3 := h2.store (i := i) (by rw [List.getElem?_set_self (by simpa using hlt)]) (j + 2) d
  rw [List.set_set, List.set_set] at h3
  exact h3

/-- l is x, grown in its own block, or lies elsewhere -/
def Link (x l : Value) : Prop := (∃ g n m c, x = .slice (some ⟨g, 0, none⟩) n c ∧ l = .slice (some ⟨g, 0, none⟩) m c ∧ n ≤ m) ∨ Far x l
theorem Link.self {W : World} {base e s n : Nat} {x : Value} {xs : List Value} (h : W.ownsRow base e s x n xs) : Link x x := by
  rcases h.2 with ⟨rfl, _⟩ | ⟨g, c, u, rfl, _⟩
  · exact .inr fun g h1 _ => by simp [Value.ownBlock] at h1
  · exact .inl ⟨g, n, n, c, rfl, rfl, Nat.le_refl _⟩
/-- how a list is grown: in place, or in a new block -/
def Grew (W W' : World) (l l' : Value) : Prop := (∃ g n m c, l = .slice (some ⟨g, 0, none⟩) n c ∧ l' = .slice (some ⟨g, 0, none⟩) m c ∧ n ≤ m ∧ W.grownBy W' (some g)) ∨ (∃ q, l'.ownBlock = some q ∧ W.heap.size ≤ q ∧ W.grownBy W' none)
theorem Grew.grown {W W' : World} {l l' : Value} (h : Grew W W' l l') : W.grownBy W' l.ownBlock := by
  rcases h with ⟨g, n, m, c, rfl, rfl, _, h⟩ | ⟨q, _, _, h⟩
  · exact h
  · exact ⟨h.os, h.tape, h.output, h.size, fun k hk _ => h.block k hk (by simp)⟩
theorem Grew.fresh {W W' : World} {l l' : Value} (h : Grew W W' l l') : l'.ownBlock = l.ownBlock ∨ ∃ q, l'.ownBlock = some q ∧ W.heap.size ≤ q := by
  rcases h with ⟨g, n, m, c, rfl, rfl, _, h⟩ | ⟨q, h1, h2, _⟩
  · exact .inl rfl
  · exact .inr ⟨q, h1, h2⟩
theorem own_prefix {W : World} {base e s g n m c : Nat} {xs ys : List Value} (h : W.ownsRow base e s (.slice (some ⟨g, 0, none⟩) m c) m (xs ++ ys)) (hl : xs.length = n * s) (hn : n ≤ m) : W.ownsRow base e s (.slice (some ⟨g, 0, none⟩) n c) n xs := by
  refine ⟨hl, ?_⟩
  rcases h.2 with ⟨h0, _⟩ | ⟨g', c', cur, e1, h1, h2, h3, h4, h5, h6⟩
  · cases h0
  · simp at e1
    obtain ⟨rfl, rfl⟩ := e1
    refine .inr ⟨g, c, cur, rfl, h1, h2, by omega, h4, h5, ?_⟩
    have e : cur.toList.take (n * s) = (cur.toList.take (m * s)).take (n * s) := by
      rw [List.take_take, Nat.min_eq_left (Nat.mul_le_mul_right s hn)]
    rw [e, h6, ← hl, List.take_left]
/-- a list that began as a row is grown: the rows stay -/
theorem Rrs.link {w W W' : World} {R : List Rr} {i : Nat} {r : Rr} {l l' : Value} {m : Nat} {ys : List Value} (h : Rrs w W R) (hi : R[i]? = some r) (hl : Link r.v l) (hf : ∀ j q, j ≠ i → R[j]? = some q → Far q.v l)
    (hg : Grew W W' l l') (hB : ∀ k, l.ownBlock = some k → w.heap.size ≤ k) (ho : W'.ownsRow w.heap.size r.t r.s l' m (r.xs ++ ys)) : Rrs w W' R ∧ Link r.v l' ∧ ∀ j q, j ≠ i → R[j]? = some q → Far q.v l' := by
  have hgr := hg.grown
  have hfr := hg.fresh
  have hnew : ∀ (j : Nat) (q : Rr), R[j]? = some q → Far q.v l → Far q.v l' := fun j q hj hq g h1 h2 => by
    rcases hfr with e | ⟨k, e, hk⟩
    · exact hq g h1 (by rw [← e]; exact h2)
    · have := ((h.own j q hj).lt g h1).2
      rw [e] at h2; simp at h2; omega
  have hown := h.own i r hi
  refine ⟨⟨fun j q hj => ?_, h.far, h.bel.grown hgr h.size hB⟩, ?_, fun j q hne hj => hnew j q hj (hf j q hne hj)⟩
  · by_cases e : j = i
    · subst e
      rw [hi] at hj
      injection hj with hj
      subst hj
      rcases hl with ⟨g, n0, m0, c, e1, e2, hn⟩ | hl
      · rcases hg with ⟨g', a, b, c', e3, e4, hab, hgg⟩ | ⟨q, _, _, hgg⟩
        · rw [e2] at e3
          simp at e3
          obtain ⟨rfl, rfl, rfl⟩ := e3
          have hn0 : r.n = n0 := by
            rcases hown.2 with ⟨e5, _⟩ | ⟨g5, c5, u5, e5, _⟩
            · rw [e1] at e5; cases e5
            · rw [e1] at e5; simp at e5; exact e5.2.1.symm
          have hmb : m = b := by
            rcases ho.2 with ⟨e5, _⟩ | ⟨g5, c5, u5, e5, _⟩
            · rw [e4] at e5; cases e5
            · rw [e4] at e5; simp at e5; exact e5.2.1.symm
          subst hmb
          rw [e4] at ho
          rw [e1, hn0]
          exact own_prefix ho (by rw [hown.1, hn0]) (by omega)
        · exact hown.kept hgg (by cases r.v.ownBlock <;> simp)
      · exact hown.kept hgr hl.ne
    · exact (h.own j q hj).kept hgr (hf j q e hj).ne
  · rcases hl with ⟨g, n0, m0, c, e1, e2, hn⟩ | hl
    · rcases hg with ⟨g', a, b, c', e3, e4, hab, hgg⟩ | ⟨q, h1, h2, _⟩
      · rw [e2] at e3
        simp at e3
        obtain ⟨rfl, rfl, rfl⟩ := e3
        exact .inl ⟨g, n0, b, c, e1, e4, by omega⟩
      · refine .inr fun k hk1 hk2 => ?_
        have := (hown.lt k hk1).2
        rw [h1] at hk2; simp at hk2; omega
    · exact .inr (hnew i r hi hl)

/-- append, of one value or more, to a list that is owned -/
theorem append_grew {w : World} {ops : Array Oper} {rest : List Oper} {o : Oper} {a : Act} {Q : Exit → Act → World → Prop} (hgd : o.guard = none) (s x : Operand) (t : Nat)
    (ho : o.op = .call { callee := .builtin .append, args := #[s, x], argTypes := #[t, t] })
    (base e : Nat) (i : TypeInfo) (z : Value) (size bytes : Nat) (ht : Tryz.prog.underlying t = some (.slice e)) (hi : Tryz.prog.info? e = some i) (hz : i.zero = some z) (hsize : i.size = size) (hby : i.bytes = bytes) (hzs : z.cells.size = size) (hsz : 0 < size)
    (v : Value) (n : Nat) (xs : List Value) (hs : a.eval s = v) (hown : w.ownsRow base e size v n xs)
    (ad : Addr) (m c : Nat) (news : List Value) (hx : a.eval x = .slice (some ad) m c) (hl : news.length = m * size) (hm : 1 ≤ m)
    (hnews : ∀ j u, news[j]? = some u → w.cell? (ad.add j) = some u) (h1 : ∀ u ∈ news, u.oneCell' = true) (h63 : n + m ≤ maxLen) (hb : (n + m) * bytes ≤ 140737488355328) (hbase : base ≤ w.heap.size)
    (h : ∀ v' w', w'.ownsRow base e size v' (n + m) (xs ++ news) → Grew w w' v v' → wpList Tryz.prog ops Q rest (a.put o.dst v') w') :
    wpList Tryz.prog ops Q (o :: rest) a w := by
  have fresh : ∀ {v' : Value} {w' : World}, w'.ownsRow w.heap.size e size v' (n + m) (xs ++ news) → ∃ q, v'.ownBlock = some q ∧ w.heap.size ≤ q := by
    intro v' w' h'
    rcases h'.2 with ⟨_, h0⟩ | ⟨g, cap, cur, rfl, hb, _⟩
    · omega
    · exact ⟨g, rfl, hb⟩
  rcases hown.2 with ⟨hv, h0⟩ | ⟨g, cap, cur, hv, hg1, hg2, hg3, hg4, hg5, hg6⟩
  · subst hv
    subst h0
    have hxs : xs = [] := List.eq_nil_of_length_eq_zero (by have := hown.1; omega)
    subst hxs
    refine wpList_append_grows w hgd s x t ho e i z size bytes ht hi hz hsize hby hzs hsz none 0 0 [] hs (fun _ => ⟨rfl, rfl⟩) (by simp) (fun b hb => by cases hb) ad m c news hx hl hnews h1 (by omega) h63 hb ?_
    intro v' w' h2 h3
    obtain ⟨q, hq1, hq2⟩ := fresh h2
    exact h v' w' (own_lower h2 hbase) (.inr ⟨q, hq1, hq2, h3⟩)
  · subst hv
    by_cases hroom : n + m ≤ cap
    · refine wpList_append_fits w hgd s x t ho base e i size ht hi hsize g n cap xs hs hown ad m c news hx hl hnews h1 hroom ?_
      intro w' h2 h3
      exact h _ w' h2 (.inl ⟨g, n, n + m, cap, rfl, rfl, by omega, h3⟩)
    · refine wpList_append_grows w hgd s x t ho e i z size bytes ht hi hz hsize hby hzs hsz (some ⟨g, 0, none⟩) n cap xs hs (fun hh => by cases hh) hown.1 (fun b hb j u hu => by cases hb; exact hown.cells rfl j u hu) ad m c news hx hl hnews h1 (by omega) h63 hb ?_
      intro v' w' h2 h3
      obtain ⟨q, hq1, hq2⟩ := fresh h2
      exact h v' w' (own_lower h2 hbase) (.inr ⟨q, hq1, hq2, h3⟩)

/-- cells that can be appended -/
def Srv (w : World) (u : Value) (m : Nat) (news : List Value) : Prop := (u = .slice none 0 0 ∧ m = 0 ∧ news = []) ∨ ∃ ad c, u = .slice (some ad) m c ∧ ∀ (j : Nat) (t : Value), news[j]? = some t → w.cell? (ad.add j) = some t
theorem own_srv {w : World} {base e s n : Nat} {v : Value} {xs : List Value} (h : w.ownsRow base e s v n xs) : Srv w v n xs := by
  rcases h.2 with ⟨rfl, h0⟩ | ⟨g, cap, cur, rfl, hb, hg, _⟩
  · subst h0
    exact .inl ⟨rfl, rfl, List.eq_nil_of_length_eq_zero (by have := h.1; omega)⟩
  · exact .inr ⟨⟨g, 0, none⟩, cap, rfl, h.cells rfl⟩
theorem Srv.keep {w w' : World} {u : Value} {m : Nat} {news : List Value} (h : Srv w u m news) (hb : Below w.heap.size w w') : Srv w' u m news := by
  rcases h with h | ⟨ad, c, hu, h⟩
  · exact .inl h
  · refine .inr ⟨ad, c, hu, fun j t hj => ?_⟩
    have hc := h j t hj
    rw [hb.cell (World.block_lt_of_cell? w _ hc)]; exact hc
/-- append of whatever there is, to a list that is owned -/
theorem append_srv {w : World} {ops : Array Oper} {rest : List Oper} {o : Oper} {a : Act} {Q : Exit → Act → World → Prop} (hgd : o.guard = none) (s x : Operand) (t : Nat)
    (ho : o.op = .call { callee := .builtin .append, args := #[s, x], argTypes := #[t, t] })
    (base e : Nat) (i : TypeInfo) (z : Value) (size bytes : Nat) (ht : Tryz.prog.underlying t = some (.slice e)) (hi : Tryz.prog.info? e = some i) (hz : i.zero = some z) (hsize : i.size = size) (hby : i.bytes = bytes) (hzs : z.cells.size = size) (hsz : 0 < size)
    (v : Value) (n : Nat) (xs : List Value) (hs : a.eval s = v) (hown : w.ownsRow base e size v n xs)
    (u : Value) (m : Nat) (news : List Value) (hx : a.eval x = u) (hsrc : Srv w u m news) (hl : news.length = m * size)
    (h1 : ∀ u ∈ news, u.oneCell' = true) (h63 : n + m ≤ maxLen) (hb : (n + m) * bytes ≤ 140737488355328) (hbase : base ≤ w.heap.size)
    (h : ∀ v' w', w'.ownsRow base e size v' (n + m) (xs ++ news) → w.grownBy w' v.ownBlock → (v'.ownBlock = v.ownBlock ∨ ∃ q, v'.ownBlock = some q ∧ w.heap.size ≤ q) → wpList Tryz.prog ops Q rest (a.put o.dst v') w') :
    wpList Tryz.prog ops Q (o :: rest) a w := by
  rcases hsrc with ⟨hu, h0, h2⟩ | ⟨ad, c, hu, hcell⟩
  · subst hu h0 h2
    refine wpList_plain hgd fun K hK => ?_
    have hrun := run_append_owned_none (P := Tryz.prog) (w := w) base t o.type e i size ht hi v n xs hown
    unfold Oper.wp
    simp [execOp, ho, resolve, invoke, builtin, hs, hx, hrun, Result.andThen]
    exact hK _ _ (h v w (by simpa using hown) ⟨rfl, rfl, rfl, Nat.le_refl _, fun _ _ _ => rfl⟩ (.inl rfl))
  · subst hu
    refine wpList_append_own_at _ hgd s x t ho base e i z size bytes ht hi hz hsize hby hzs hsz v n xs hs hown ad m c news hx hl hcell h1 h63 hb hbase ?_
    intro v' w' g1 g2 _ g4
    refine h v' w' g1 g2 ?_
    rcases g4 with e | e
    · exact .inl e
    · exact .inr ⟨_, e, Nat.le_refl _⟩
end Go.Proofs.YtmhpeppbhjpkiaaGreat.Rk

/- The contract of the wood's pieces. -/
namespace Go.Proofs.YtmhpeppbhjpkiaaGreat
open Go.RowKit

set_option maxRecDepth 100000 in
set_option maxHeartbeats 4000000 in
theorem wpieces_node (base0 B : Nat) (v : Value) (N : List Nd) (c : Bool) (l r : Tr) (ps po pl pn li ri : Int) (j base m : Nat) (ls : Value) (xs : List Value) (w : World) (hj : Hid (N[j]? = some (ndOf c l ⟨ps, po, pl, pn⟩ r li ri))) (hW : Hid (Wd w base0 B v N)) (hF : Hid (Fr2 w ls B v)) (hown : Hid (w.ownsRow base 59 4 ls m xs)) (hB : Hid (base ≤ w.heap.size)) (hz : Hid (m + (l.size + 1 + r.size) ≤ 2097152))
    (IHL : Hid (∀ ls m xs w, Wd w base0 B v N → Fr2 w ls B v → w.ownsRow base 59 4 ls m xs → base ≤ w.heap.size → m + l.size ≤ 2097152 → Calls Tryz.prog 103 #[.pointer (some ⟨B, 0, none⟩), .int .i64 li, ls] w fun e w' => PG w base ls m xs l e w'))
    (IHR : Hid (∀ ls m xs w, Wd w base0 B v N → Fr2 w ls B v → w.ownsRow base 59 4 ls m xs → base ≤ w.heap.size → m + r.size ≤ 2097152 → Calls Tryz.prog 103 #[.pointer (some ⟨B, 0, none⟩), .int .i64 ri, ls] w fun e w' => PG w base ls m xs r e w')) :
    Calls Tryz.prog 103 #[.pointer (some ⟨B, 0, none⟩), .int .i64 (j : Int), ls] w fun e w' => PG w base ls m xs (Tr.mk (some (c, l, ⟨ps, po, pl, pn⟩, r))) e w' := by
  obtain ⟨i0, hi, hz0, hz1, hz2⟩ := info_parts info32
  obtain ⟨g, cap, hv, x0, -, -, -, -, -, y5, -, -, -, -, -⟩ := hW.out.eleven hj.out
  subst hv
  have hlt := (List.getElem?_eq_some_iff.1 hj.out).1
  have j0 : (0 : Int) ≤ (j : Int) := by omega
  have j1 : (j : Int) < (N.length : Int) := by omega
  have I1 := Hid.mk' (IHL.out ls m xs w hW.out hF.out hown.out hB.out (by have := hz.out; omega))
  go_enter Tryz.func103, Tryz.ntmps103
  go_wp2_with fail
  refine I1.out.mono ?_
  rintro e w4 ⟨l4, rfl, hown4, hg4⟩
  have G4 := Hid.mk' hg4
  have O4 := Hid.mk' hown4
  have D4 := Hid.mk' (hW.out.grl hg4 hF.out)
  have F4 := Hid.mk' (hF.out.grl hW.out hg4)
  have b4 := Hid.mk' (show base ≤ w4.heap.size by have := hB.out; have := hg4.gr.size; omega)
  clear hown4 hg4 x0 y5 I1
  obtain ⟨g', cap', hv', x0, y0, y1, y2, y3, -, -, -, -, -, -, -⟩ := D4.out.eleven hj.out
  cases hv'
  go_wp2_with (at_builtin; refine Rk.append_srv rfl (.tmp 21) (.tmp 30) 108 rfl base 59 i0 (.agg #[.int .i64 0, .int .i64 0, .int .i64 0, .int .i64 0]) 4 32 Tryz.underlying108 hi hz0 hz1 hz2 rfl (by decide) l4 (m + l.size) (xs ++ cells l.list) rfl (O4.out.alloc _) (.slice (some ⟨w4.heap.size, 0, none⟩) 1 1) 1 [.int .i64 ps, .int .i64 po, .int .i64 pl, .int .i64 pn] rfl (.inr ⟨⟨w4.heap.size, 0, none⟩, 1, rfl, fun k' u hk => lit_cells w4 _ 59 k' u hk⟩) rfl ?qd3 ?qd4 ?qd5 ?qd6 ?_)
  case qd3 => intro u hu; simp at hu; rcases hu with rfl | rfl | rfl | rfl <;> rfl
  case qd4 => have := hz.out; unfold maxLen; omega
  case qd5 => have := hz.out; omega
  case qd6 => have := b4.out; simp; omega
  intro l5 w5 hown5 hgrow5 hfr5
  have G5 := Hid.mk' (show Grl w4 w5 l4 l5 from (Grl.below (bAlloc (Below.refl _ _) _)).trans ⟨hgrow5, by simpa using hfr5⟩)
  have O5 := Hid.mk' hown5
  have D5 := Hid.mk' (D4.out.grl G5.out F4.out)
  have F5 := Hid.mk' (F4.out.grl D4.out G5.out)
  have b5 := Hid.mk' (show base ≤ w5.heap.size by have := b4.out; have := G5.out.gr.size; omega)
  clear hown5 hgrow5 hfr5 x0 y0 y1 y2 y3
  obtain ⟨g', cap', hv', x0, -, -, -, -, -, -, y6, -, -, -, -⟩ := D5.out.eleven hj.out
  cases hv'
  have I2 := Hid.mk' (IHR.out l5 (m + l.size + 1) _ w5 D5.out F5.out O5.out b5.out (by have := hz.out; omega))
  go_wp2_with fail
  refine I2.out.mono ?_
  rintro e w6 ⟨l6, rfl, hown6, hg6⟩
  have G6 := Hid.mk' hg6
  have O6 := Hid.mk' hown6
  clear hown6 hg6 I2
  go_wp2
  go_ret
  refine ⟨l6, rfl, ?_, G4.out.trans (G5.out.trans G6.out)⟩
  simp only [Tr.size, Tr.list]
  rw [show m + (l.size + 1 + r.size) = m + l.size + 1 + r.size from by omega, cells_append, show cells ((⟨ps, po, pl, pn⟩ : Pc) :: r.list) = [.int .i64 ps, .int .i64 po, .int .i64 pl, .int .i64 pn] ++ cells r.list from rfl]
  simpa only [List.append_assoc] using O6.out

theorem wpieces_any (base0 B : Nat) (v : Value) (N : List Nd) (base : Nat) : ∀ (t : Tr) (i : Int) (ls : Value) (m : Nat) (xs : List Value) (w : World), Is N t i → Wd w base0 B v N → Fr2 w ls B v → w.ownsRow base 59 4 ls m xs → base ≤ w.heap.size → m + t.size ≤ 2097152 → Calls Tryz.prog 103 #[.pointer (some ⟨B, 0, none⟩), .int .i64 i, ls] w fun e w' => PG w base ls m xs t e w'
  | (Tr.mk none), i, ls, m, xs, w, hi, hW, hF, ho, hB, hz => by
    have e : i = -1 := hi
    subst e
    refine (wpieces_nil B ls w).mono ?_
    rintro e w' ⟨rfl, rfl⟩
    exact ⟨ls, rfl, by simpa [Tr.size, Tr.list, cells] using ho, Grl.refl _ _⟩
  | (Tr.mk (some (c, l, ⟨s, o, n', k⟩, r))), i, ls, m, xs, w, hi, hW, hF, ho, hB, hz => by
    obtain ⟨j, li, ri, rfl, hj, hl, hr⟩ := hi
    exact wpieces_node base0 B v N c l r s o n' k li ri j base m ls xs w hj hW hF ho hB hz (fun ls m xs w a1 a2 a3 a4 a5 => wpieces_any base0 B v N base l li ls m xs w hl a1 a2 a3 a4 a5) (fun ls m xs w a1 a2 a3 a4 a5 => wpieces_any base0 B v N base r ri ls m xs w hr a1 a2 a3 a4 a5)
end Go.Proofs.YtmhpeppbhjpkiaaGreat

/- The contract of the wood's rows. -/
namespace Go.Proofs.YtmhpeppbhjpkiaaGreat
open Go.RowKit

set_option maxRecDepth 100000 in
set_option maxHeartbeats 4000000 in
theorem wrows_node (base0 B : Nat) (v : Value) (N : List Nd) (c : Bool) (l r : Tr) (ps po pl pn li ri : Int) (j base m : Nat) (ls : Value) (xs : List Value) (w : World) (_hN : N.length ≤ 2097152) (hj : Hid (N[j]? = some (ndOf c l ⟨ps, po, pl, pn⟩ r li ri))) (hL : Hid (Is N l li)) (hR : Hid (Is N r ri)) (hW : Hid (Wd w base0 B v N)) (hF : Hid (Fr2 w ls B v)) (hown : Hid (w.ownsRow base 128 10 ls m xs)) (hB : Hid (base ≤ w.heap.size)) (hz : Hid (m + (l.size + 1 + r.size) ≤ 2097152))
    (IHL : Hid (∀ ls m xs w, Wd w base0 B v N → Fr2 w ls B v → w.ownsRow base 128 10 ls m xs → base ≤ w.heap.size → m + l.size ≤ 2097152 → Calls Tryz.prog 54 #[.pointer (some ⟨B, 0, none⟩), .int .i64 li, ls] w fun e w' => RG w base ls m xs l e w'))
    (IHR : Hid (∀ ls m xs w, Wd w base0 B v N → Fr2 w ls B v → w.ownsRow base 128 10 ls m xs → base ≤ w.heap.size → m + r.size ≤ 2097152 → Calls Tryz.prog 54 #[.pointer (some ⟨B, 0, none⟩), .int .i64 ri, ls] w fun e w' => RG w base ls m xs r e w')) :
    Calls Tryz.prog 54 #[.pointer (some ⟨B, 0, none⟩), .int .i64 (j : Int), ls] w fun e w' => RG w base ls m xs (Tr.mk (some (c, l, ⟨ps, po, pl, pn⟩, r))) e w' := by
  obtain ⟨i0, hi, hz0, hz1, hz2⟩ := info_parts info72
  obtain ⟨g, cap, rfl, x0, y0, y1, y2, y3, y4, y5, y6, y7, y8, y9, y10⟩ := hW.out.eleven hj.out
  have hlt := (List.getElem?_eq_some_iff.1 hj.out).1
  have j0 : (0 : Int) ≤ (j : Int) := by omega
  have j1 : (j : Int) < (N.length : Int) := by omega
  have HH1 := Hid.mk' hL.out.has
  have HH2 := Hid.mk' hR.out.has
  obtain ⟨k7, h7⟩ : ∃ k : Int, k = ((Tr.mk (some (c, l, ⟨ps, po, pl, pn⟩, r))).size : Nat) := ⟨_, rfl⟩
  obtain ⟨k8, h8⟩ : ∃ k : Int, k = (Tr.mk (some (c, l, ⟨ps, po, pl, pn⟩, r))).byt := ⟨_, rfl⟩
  obtain ⟨k9, h9⟩ : ∃ k : Int, k = (Tr.mk (some (c, l, ⟨ps, po, pl, pn⟩, r))).lin := ⟨_, rfl⟩
  obtain ⟨k10, h10⟩ : ∃ k : Int, k = ((Tr.mk (some (c, l, ⟨ps, po, pl, pn⟩, r))).bh : Nat) := ⟨_, rfl⟩
  rw [← h7] at y7
  rw [← h8] at y8
  rw [← h9] at y9
  rw [← h10] at y10
  have K7 := Hid.mk' h7
  have K8 := Hid.mk' h8
  have K9 := Hid.mk' h9
  clear h7 h8 h9 h10
  obtain ⟨b1, hb1⟩ : ∃ b, b = decide (0 ≤ li) := ⟨_, rfl⟩
  obtain ⟨b2, hb2⟩ : ∃ b, b = decide (0 ≤ ri) := ⟨_, rfl⟩
  have HRC : Hid ([Value.int .i64 ps, .int .i64 po, .int .i64 pl, .int .i64 pn, .bool c, .bool (decide (0 ≤ li)), .bool (decide (0 ≤ ri)), .int .i64 k7, .int .i64 k8, .int .i64 k9] = (rowOf c l ⟨ps, po, pl, pn⟩ r).cs) := by
    unfold Hid; rw [HH1.out, HH2.out, K7.out, K8.out, K9.out]; rfl
  clear hb1 hb2
  go_enter Tryz.func54, Tryz.ntmps54
  go_upto_region 4 with fail
  have HBK := Hid.mk' (Blk.new w 151 #[.int .i64 ps, .int .i64 po, .int .i64 pl, .int .i64 pn, .bool c, .int .i64 li, .int .i64 ri, .int .i64 k7, .int .i64 k8, .int .i64 k9, .int .i64 k10])
  have BW := Hid.mk' (bAlloc (Below.refl w.heap.size w) (.cells #[.int .i64 ps, .int .i64 po, .int .i64 pl, .int .i64 pn, .bool c, .int .i64 li, .int .i64 ri, .int .i64 k7, .int .i64 k8, .int .i64 k9, .int .i64 k10] 151))
  generalize hW3 : w.alloc (.cells #[.int .i64 ps, .int .i64 po, .int .i64 pl, .int .i64 pn, .bool c, .int .i64 li, .int .i64 ri, .int .i64 k7, .int .i64 k8, .int .i64 k9, .int .i64 k10] 151) = W3 at *
  clear hW3 y0 y1 y2 y3 y4 y5 y6 y7 y8 y9 y10 x0
  have hqz : w.heap.size < W3.heap.size := HBK.out.lt
  obtain ⟨qb, hqb⟩ : ∃ q, q = w.heap.size := ⟨_, rfl⟩
  rw [← hqb] at HBK hqz ⊢
  have HQB := Hid.mk' hqb
  clear hqb
  have D3 := Hid.mk' (hW.out.keep BW.out)
  have G3 := Hid.mk' (show Grl w W3 ls ls from Grl.below BW.out)
  have F3 := Hid.mk' (hF.out.grl hW.out G3.out)
  have O3 := Hid.mk' (own_keep' hown.out BW.out)
  have NE : Hid (ls.ownBlock ≠ some qb) := fun e => by have := (hown.out.lt _ e).2; have := HQB.out; omega
  have b3 := Hid.mk' (show base ≤ W3.heap.size by have := hB.out; have := BW.out.size; omega)
  have s0 := HBK.out.cell (j := 0) (v := .int .i64 ps) rfl
  have s1 := HBK.out.cell (j := 1) (v := .int .i64 po) rfl
  have s2 := HBK.out.cell (j := 2) (v := .int .i64 pl) rfl
  have s3 := HBK.out.cell (j := 3) (v := .int .i64 pn) rfl
  have s4 := HBK.out.cell (j := 4) (v := .bool c) rfl
  have s5 := HBK.out.cell (j := 5) (v := .int .i64 li) rfl
  have s6 := HBK.out.cell (j := 6) (v := .int .i64 ri) rfl
  have s7 := HBK.out.cell (j := 7) (v := .int .i64 k7) rfl
  have s8 := HBK.out.cell (j := 8) (v := .int .i64 k8) rfl
  have s9 := HBK.out.cell (j := 9) (v := .int .i64 k9) rfl
  go_wp2_with (at_builtin; refine Rk.append_srv rfl (.tmp 18) (.tmp 36) 29 rfl base 128 i0 (.agg #[.int .i64 0, .int .i64 0, .int .i64 0, .int .i64 0, .bool false, .bool false, .bool false, .int .i64 0, .int .i64 0, .int .i64 0]) 10 64 Tryz.underlying29 hi hz0 hz1 hz2 rfl (by decide) ls m xs rfl (O3.out.alloc _) (.slice (some ⟨W3.heap.size, 0, none⟩) 1 1) 1 [.int .i64 ps, .int .i64 po, .int .i64 pl, .int .i64 pn, .bool c, .bool (decide (0 ≤ li)), .bool (decide (0 ≤ ri)), .int .i64 k7, .int .i64 k8, .int .i64 k9] rfl (.inr ⟨⟨W3.heap.size, 0, none⟩, 1, rfl, fun k' u hk => lit_cells W3 _ 128 k' u hk⟩) rfl ?qd3 ?qd4 ?qd5 ?qd6 ?_)
  case qd3 => rw [HRC.out]; exact row_one _
  case qd4 => have := hz.out; unfold maxLen; omega
  case qd5 => have := hz.out; omega
  case qd6 => have := b3.out; simp; omega
  intro l4 w4 hown4 hgrow4 hfr4
  rw [HRC.out] at hown4
  have G4 := Hid.mk' (show Grl W3 w4 ls l4 from (Grl.below (bAlloc (Below.refl _ _) _)).trans ⟨hgrow4, by simpa using hfr4⟩)
  have O4 := Hid.mk' hown4
  have K4 := Hid.mk' (G4.out.blk HBK.out NE.out)
  have D4 := Hid.mk' (D3.out.grl G4.out F3.out)
  have F4 := Hid.mk' (F3.out.grl D3.out G4.out)
  have b4 := Hid.mk' (show base ≤ w4.heap.size by have := b3.out; have := G4.out.gr.size; omega)
  have NE4 : Hid (l4.ownBlock ≠ some qb) := by
    unfold Hid
    rcases G4.out.fresh with e | ⟨q, e, hq⟩
    · rw [e]; exact NE.out
    · rw [e]; simp; omega
  clear hown4 hgrow4 hfr4 s0 s1 s2 s3 s4 s5 s6 s7 s8 s9
  have t5 := K4.out.cell (j := 5) (v := .int .i64 li) rfl
  have I1 := Hid.mk' (IHL.out l4 (m + 1) _ w4 D4.out F4.out O4.out b4.out (by have := hz.out; omega))
  go_wp2_with fail
  refine I1.out.mono ?_
  rintro e w5 ⟨l5, rfl, hown5, hg5⟩
  have G5 := Hid.mk' hg5
  have O5 := Hid.mk' hown5
  have K5 := Hid.mk' (hg5.blk K4.out NE4.out)
  have D5 := Hid.mk' (D4.out.grl hg5 F4.out)
  have F5 := Hid.mk' (F4.out.grl D4.out hg5)
  have b5 := Hid.mk' (show base ≤ w5.heap.size by have := b4.out; have := hg5.gr.size; omega)
  clear hown5 hg5 t5 I1
  have t6 := K5.out.cell (j := 6) (v := .int .i64 ri) rfl
  have I2 := Hid.mk' (IHR.out l5 (m + 1 + l.size) _ w5 D5.out F5.out O5.out b5.out (by have := hz.out; omega))
  go_wp2_with fail
  refine I2.out.mono ?_
  rintro e w6 ⟨l6, rfl, hown6, hg6⟩
  have G6 := Hid.mk' hg6
  have O6 := Hid.mk' hown6
  clear hown6 hg6 I2
  go_wp2
  go_ret
  refine ⟨l6, rfl, ?_, G3.out.trans (G4.out.trans (G5.out.trans G6.out))⟩
  simp only [Tr.size, rowsT, rcells_cons, rcells_append]
  rw [show m + (l.size + 1 + r.size) = m + 1 + l.size + r.size from by omega]
  simpa only [List.append_assoc] using O6.out

theorem wrows_any (base0 B : Nat) (v : Value) (N : List Nd) (base : Nat) (hN : N.length ≤ 2097152) : ∀ (t : Tr) (i : Int) (ls : Value) (m : Nat) (xs : List Value) (w : World), Is N t i → Wd w base0 B v N → Fr2 w ls B v → w.ownsRow base 128 10 ls m xs → base ≤ w.heap.size → m + t.size ≤ 2097152 → Calls Tryz.prog 54 #[.pointer (some ⟨B, 0, none⟩), .int .i64 i, ls] w fun e w' => RG w base ls m xs t e w'
  | (Tr.mk none), i, ls, m, xs, w, hi, hW, hF, ho, hB, hz => by
    have e : i = -1 := hi
    subst e
    refine (wrows_nil B ls w).mono ?_
    rintro e w' ⟨rfl, rfl⟩
    exact ⟨ls, rfl, by simpa [Tr.size, rowsT, rcells] using ho, Grl.refl _ _⟩
  | (Tr.mk (some (c, l, ⟨s, o, n', k⟩, r))), i, ls, m, xs, w, hi, hW, hF, ho, hB, hz => by
    obtain ⟨j, li, ri, rfl, hj, hl, hr⟩ := hi
    exact wrows_node base0 B v N c l r s o n' k li ri j base m ls xs w hN hj hl hr hW hF ho hB hz (fun ls m xs w a1 a2 a3 a4 a5 => wrows_any base0 B v N base hN l li ls m xs w hl a1 a2 a3 a4 a5) (fun ls m xs w a1 a2 a3 a4 a5 => wrows_any base0 B v N base hN r ri ls m xs w hr a1 a2 a3 a4 a5)
end Go.Proofs.YtmhpeppbhjpkiaaGreat

/- The contracts of the wood's put and tree. -/
namespace Go.Proofs.YtmhpeppbhjpkiaaGreat
open Go.RowKit

theorem RowR.grw {W W' : World} {base B b off : Nat} {v v' : Value} {N : List Nd} {L : List Rw} (h : RowR W b off L) (hg : Grw W W' B v v') (hw : Wd W base B v N) (hb : b < base) (hz : base ≤ W.heap.size) : RowR W' b off L := fun j p hp => by
  have e : W'.heap[b]? = W.heap[b]? := hg.block b (by omega) (by have := hw.low; omega) (fun e => by have := (hw.own.lt b e.symm).1; omega)
  have hc : ∀ o, W'.cell? ⟨b, o, none⟩ = W.cell? ⟨b, o, none⟩ := fun o => World.cell?_of_block (a := ⟨b, o, none⟩) e
  simp only [hc]
  exact h j p hp
/-- what put gives: the tree's number, the number of the row behind it -/
def PutG (w : World) (base B : Nat) (v : Value) (N : List Nd) (t : Tr) (m : Nat) (e : Ending) (w' : World) : Prop :=
  ∃ (i : Int) (v' : Value) (M : List Nd), e = .returned (.tuple #[.int .i64 i, .int .i64 ((m + t.size : Nat) : Int)]) ∧ Wd w' base B v' (N ++ M) ∧ Is (N ++ M) t i ∧ Grw w w' B v v' ∧ M.length ≤ t.size
/-- what put asks for -/
def Pq (base B : Nat) (ao : Option Addr) (n c : Nat) (L : List Rw) (t : Tr) : Prop := ∀ (m : Nat) (rest : List Rw) (w : World) (v : Value) (N : List Nd), t.has = true → L.drop m = rowsT t ++ rest → (∃ b off, ao = some ⟨b, off, none⟩ ∧ RowR w b off L ∧ b < base) → Wd w base B v N → base ≤ w.heap.size → N.length + t.size ≤ 2097152 → Calls Tryz.prog 94 #[.pointer (some ⟨B, 0, none⟩), .slice ao n c, .int .i64 (m : Int)] w fun e w' => PutG w base B v N t m e w'
theorem blk_new_ne {w : World} {base B : Nat} {v : Value} {N : List Nd} (h : Wd w base B v N) : w.heap.size ≠ B ∧ some w.heap.size ≠ v.ownBlock := by
  refine ⟨by have := h.blk.lt; omega, fun e => ?_⟩
  have := (h.own.lt _ e.symm).2
  omega
/-- a block that is none of the wood's stays none -/
theorem Grw.ne {w w' : World} {B k : Nat} {v v' : Value} (h : Grw w w' B v v') (hk : k < w.heap.size) (h2 : some k ≠ v.ownBlock) : some k ≠ v'.ownBlock := by
  rcases h.fresh with e | ⟨q, e, hq⟩
  · rw [e]; exact h2
  · rw [e]; simp; omega

set_option maxRecDepth 100000 in
set_option maxHeartbeats 4000000 in
theorem wput_00 (base B : Nat) (b off n c : Nat) (L : List Rw) (cc : Bool) (l r : Tr) (ps po pl pn : Int) (m : Nat) (rest : List Rw) (w : World) (v : Value) (N : List Nd) (hn : Hid (n = L.length)) (hnz : n ≤ 1048576) (hd : Hid (L.drop m = rowOf cc l ⟨ps, po, pl, pn⟩ r :: (rowsT l ++ (rowsT r ++ rest)))) (hrow : Hid (RowR w b off L)) (_hbb : Hid (b < base)) (hW : Hid (Wd w base B v N)) (hB : Hid (base ≤ w.heap.size)) (hz : Hid (N.length + (l.size + 1 + r.size) ≤ 2097152)) (hf : Hid (Pc.fit ⟨ps, po, pl, pn⟩ ∧ l.fits ∧ r.fits)) (hl : l.has = false) (hr : r.has = false)
    (IL : Hid (Pq base B (some ⟨b, off, none⟩) n c L l)) (IR : Hid (Pq base B (some ⟨b, off, none⟩) n c L r)) :
    Calls Tryz.prog 94 #[.pointer (some ⟨B, 0, none⟩), .slice (some ⟨b, off, none⟩) n c, .int .i64 (m : Int)] w fun e w' => PutG w base B v N (Tr.mk (some (cc, l, ⟨ps, po, pl, pn⟩, r))) m e w' := by
  have hlm : L[m]? = some (rowOf cc l ⟨ps, po, pl, pn⟩ r) := by
    have := congrArg (fun x => x[0]?) hd.out
    simpa using this
  have hlt := (List.getElem?_eq_some_iff.1 hlm).1
  have hmn : m < n := by have := hn.out; omega
  have m0 : (0 : Int) ≤ (m : Int) := by omega
  have m1 : (m : Int) < (n : Int) := by omega
  obtain ⟨y0, y1, y2, y3, y4, y5, y6, y7, y8, y9⟩ := hrow.out m _ hlm
  dsimp only [rowOf] at y0 y1 y2 y3 y4 y5 y6 y7 y8 y9
  rw [hl] at y5
  rw [hr] at y6
  obtain ⟨k7, h7⟩ : ∃ k : Int, k = ((Tr.mk (some (cc, l, ⟨ps, po, pl, pn⟩, r))).size : Nat) := ⟨_, rfl⟩
  obtain ⟨k8, h8⟩ : ∃ k : Int, k = (Tr.mk (some (cc, l, ⟨ps, po, pl, pn⟩, r))).byt := ⟨_, rfl⟩
  obtain ⟨k9, h9⟩ : ∃ k : Int, k = (Tr.mk (some (cc, l, ⟨ps, po, pl, pn⟩, r))).lin := ⟨_, rfl⟩
  rw [← h7] at y7
  rw [← h8] at y8
  rw [← h9] at y9
  clear h7 h8 h9 hlm hlt
  go_enter Tryz.func94, Tryz.ntmps94
  go_upto_region 2 with fail
  have HBK := Hid.mk' (Blk.new w 128 #[.int .i64 ps, .int .i64 po, .int .i64 pl, .int .i64 pn, .bool cc, .bool false, .bool false, .int .i64 k7, .int .i64 k8, .int .i64 k9])
  have BW := Hid.mk' (bAlloc (Below.refl w.heap.size w) (.cells #[.int .i64 ps, .int .i64 po, .int .i64 pl, .int .i64 pn, .bool cc, .bool false, .bool false, .int .i64 k7, .int .i64 k8, .int .i64 k9] 128))
  generalize hW3 : w.alloc (.cells #[.int .i64 ps, .int .i64 po, .int .i64 pl, .int .i64 pn, .bool cc, .bool false, .bool false, .int .i64 k7, .int .i64 k8, .int .i64 k9] 128) = W3 at *
  have hqz : w.heap.size < W3.heap.size := HBK.out.lt
  clear hW3 y0 y1 y2 y3 y4 y5 y6 y7 y8 y9
  have HD := Hid.mk' (hW.out.keep BW.out)
  have HX := Hid.mk' (hrow.out.keep BW.out)
  have NE := Hid.mk' (blk_new_ne hW.out)
  have B3 := Hid.mk' (show base ≤ W3.heap.size by have := hB.out; omega)
  have G3 := Hid.mk' (show Grw w W3 B v v from Grw.below BW.out)
  obtain ⟨qb, hqb⟩ : ∃ q, q = w.heap.size := ⟨_, rfl⟩
  rw [← hqb] at HBK hqz NE ⊢
  clear hqb BW
  obtain ⟨li, hli⟩ : ∃ x : Int, x = -1 := ⟨_, rfl⟩
  have l0 : l = Tr.mk none := by
    cases l using Tr.el with
    | nil => rfl
    | node => cases hl
  have c5 := HBK.out.cell (j := 5) (v := .bool false) rfl
  have l00 : Hid (l.size = 0) := by rw [l0]; rfl
  have X4 := HX
  have K4 := HBK
  have E4 := Hid.mk' NE.out.2
  have b4 := B3
  have hz4 : qb < W3.heap.size := hqz
  have G4 := G3
  have W4 := Hid.mk' (show Wd W3 base B v (N ++ []) by rw [List.append_nil]; exact HD.out)
  have J4 := Hid.mk' (show Is (N ++ []) l (-1) by rw [l0]; rfl)
  have C4 := Hid.mk' (show ([] : List Nd).length ≤ l.size from Nat.zero_le _)
  have l1 : l.size = 0 := l00.out
  have r0 : r = Tr.mk none := by
    cases r using Tr.el with
    | nil => rfl
    | node => cases hr
  have c6 := K4.out.cell (j := 6) (v := .bool false) rfl
  have K5 := K4
  have b5 := b4
  have G5 := G4
  have W5 := Hid.mk' (show Wd W3 base B v ((N ++ []) ++ []) by rw [List.append_nil]; exact W4.out)
  have J5 := Hid.mk' (show Is ((N ++ []) ++ []) r (-1) by rw [r0]; rfl)
  have C5 := Hid.mk' (show ([] : List Nd).length ≤ r.size from Nat.zero_le _)
  have r1 : Hid (r.size = 0) := by rw [r0]; rfl
  clear r0
  have A5 := Hid.mk' (wadd_made l r (-1) (-1) ⟨ps, po, pl, pn⟩ cc base B v ((N ++ []) ++ []) W3 (by have := hz.out; have := C4.out; have := C5.out; rw [List.length_append, List.length_append]; omega) (by have := hz.out; omega) hf.out.1 hf.out.2.1 hf.out.2.2 W5.out (J4.out.more []) J5.out b5.out)
  have d0 := K5.out.cell (j := 0) (v := .int .i64 ps) rfl
  have d1 := K5.out.cell (j := 1) (v := .int .i64 po) rfl
  have d2 := K5.out.cell (j := 2) (v := .int .i64 pl) rfl
  have d3 := K5.out.cell (j := 3) (v := .int .i64 pn) rfl
  have d4 := K5.out.cell (j := 4) (v := .bool cc) rfl
  clear l0 hli
  go_wp2_with fail
  refine A5.out.mono ?_
  rintro e w6 ⟨i6, v6, M6, rfl, q1, q2, q3, q4⟩
  have W6 := Hid.mk' q1
  have J6 := Hid.mk' q2
  have G6 := Hid.mk' q3
  have C6 := Hid.mk' q4
  clear q1 q2 q3 q4 A5
  go_wp2
  go_ret2
  refine ⟨i6, v6, [] ++ ([] ++ M6), ?_, by have := W6.out; simpa only [List.append_assoc] using this, by have := J6.out; simpa only [List.append_assoc] using this, G5.out.trans G6.out, by have := C4.out; have := C5.out; have := C6.out; simp only [Tr.size, List.length_append]; omega⟩
  rw [show ((m + (Tr.mk (some (cc, l, ⟨ps, po, pl, pn⟩, r))).size : Nat) : Int) = (m : Int) + 1 from by have := r1.out; simp only [Tr.size]; omega]; rfl

set_option maxRecDepth 100000 in
set_option maxHeartbeats 4000000 in
theorem wput_01 (base B : Nat) (b off n c : Nat) (L : List Rw) (cc : Bool) (l r : Tr) (ps po pl pn : Int) (m : Nat) (rest : List Rw) (w : World) (v : Value) (N : List Nd) (hn : Hid (n = L.length)) (hnz : n ≤ 1048576) (hd : Hid (L.drop m = rowOf cc l ⟨ps, po, pl, pn⟩ r :: (rowsT l ++ (rowsT r ++ rest)))) (hrow : Hid (RowR w b off L)) (hbb : Hid (b < base)) (hW : Hid (Wd w base B v N)) (hB : Hid (base ≤ w.heap.size)) (hz : Hid (N.length + (l.size + 1 + r.size) ≤ 2097152)) (hf : Hid (Pc.fit ⟨ps, po, pl, pn⟩ ∧ l.fits ∧ r.fits)) (hl : l.has = false) (hr : r.has = true)
    (IL : Hid (Pq base B (some ⟨b, off, none⟩) n c L l)) (IR : Hid (Pq base B (some ⟨b, off, none⟩) n c L r)) :
    Calls Tryz.prog 94 #[.pointer (some ⟨B, 0, none⟩), .slice (some ⟨b, off, none⟩) n c, .int .i64 (m : Int)] w fun e w' => PutG w base B v N (Tr.mk (some (cc, l, ⟨ps, po, pl, pn⟩, r))) m e w' := by
  have hlm : L[m]? = some (rowOf cc l ⟨ps, po, pl, pn⟩ r) := by
    have := congrArg (fun x => x[0]?) hd.out
    simpa using this
  have hlt := (List.getElem?_eq_some_iff.1 hlm).1
  have hmn : m < n := by have := hn.out; omega
  have m0 : (0 : Int) ≤ (m : Int) := by omega
  have m1 : (m : Int) < (n : Int) := by omega
  obtain ⟨y0, y1, y2, y3, y4, y5, y6, y7, y8, y9⟩ := hrow.out m _ hlm
  dsimp only [rowOf] at y0 y1 y2 y3 y4 y5 y6 y7 y8 y9
  rw [hl] at y5
  rw [hr] at y6
  obtain ⟨k7, h7⟩ : ∃ k : Int, k = ((Tr.mk (some (cc, l, ⟨ps, po, pl, pn⟩, r))).size : Nat) := ⟨_, rfl⟩
  obtain ⟨k8, h8⟩ : ∃ k : Int, k = (Tr.mk (some (cc, l, ⟨ps, po, pl, pn⟩, r))).byt := ⟨_, rfl⟩
  obtain ⟨k9, h9⟩ : ∃ k : Int, k = (Tr.mk (some (cc, l, ⟨ps, po, pl, pn⟩, r))).lin := ⟨_, rfl⟩
  rw [← h7] at y7
  rw [← h8] at y8
  rw [← h9] at y9
  clear h7 h8 h9 hlm hlt
  go_enter Tryz.func94, Tryz.ntmps94
  go_upto_region 2 with fail
  have HBK := Hid.mk' (Blk.new w 128 #[.int .i64 ps, .int .i64 po, .int .i64 pl, .int .i64 pn, .bool cc, .bool false, .bool true, .int .i64 k7, .int .i64 k8, .int .i64 k9])
  have BW := Hid.mk' (bAlloc (Below.refl w.heap.size w) (.cells #[.int .i64 ps, .int .i64 po, .int .i64 pl, .int .i64 pn, .bool cc, .bool false, .bool true, .int .i64 k7, .int .i64 k8, .int .i64 k9] 128))
  generalize hW3 : w.alloc (.cells #[.int .i64 ps, .int .i64 po, .int .i64 pl, .int .i64 pn, .bool cc, .bool false, .bool true, .int .i64 k7, .int .i64 k8, .int .i64 k9] 128) = W3 at *
  have hqz : w.heap.size < W3.heap.size := HBK.out.lt
  clear hW3 y0 y1 y2 y3 y4 y5 y6 y7 y8 y9
  have HD := Hid.mk' (hW.out.keep BW.out)
  have HX := Hid.mk' (hrow.out.keep BW.out)
  have NE := Hid.mk' (blk_new_ne hW.out)
  have B3 := Hid.mk' (show base ≤ W3.heap.size by have := hB.out; omega)
  have G3 := Hid.mk' (show Grw w W3 B v v from Grw.below BW.out)
  obtain ⟨qb, hqb⟩ : ∃ q, q = w.heap.size := ⟨_, rfl⟩
  rw [← hqb] at HBK hqz NE ⊢
  clear hqb BW
  obtain ⟨li, hli⟩ : ∃ x : Int, x = -1 := ⟨_, rfl⟩
  have l0 : l = Tr.mk none := by
    cases l using Tr.el with
    | nil => rfl
    | node => cases hl
  have c5 := HBK.out.cell (j := 5) (v := .bool false) rfl
  have l00 : Hid (l.size = 0) := by rw [l0]; rfl
  have X4 := HX
  have K4 := HBK
  have E4 := Hid.mk' NE.out.2
  have b4 := B3
  have hz4 : qb < W3.heap.size := hqz
  have G4 := G3
  have W4 := Hid.mk' (show Wd W3 base B v (N ++ []) by rw [List.append_nil]; exact HD.out)
  have J4 := Hid.mk' (show Is (N ++ []) l (-1) by rw [l0]; rfl)
  have C4 := Hid.mk' (show ([] : List Nd).length ≤ l.size from Nat.zero_le _)
  have l1 : l.size = 0 := l00.out
  have D2 := Hid.mk' (IR.out (m + 1 + l.size) rest W3 v (N ++ []) hr (by have := congrArg (fun x => x.drop (1 + l.size)) hd.out; rw [List.drop_drop] at this; rw [show m + 1 + l.size = m + (1 + l.size) from by omega, this, show 1 + l.size = (rowsT l).length + 1 from by rw [rowsT_length]; omega, List.drop_succ_cons, List.drop_left]) ⟨b, off, rfl, X4.out, hbb.out⟩ W4.out b4.out (by have := hz.out; have := C4.out; rw [List.length_append]; omega))
  have c6 := K4.out.cell (j := 6) (v := .bool true) rfl
  rw [show ((m + 1 + l.size : Nat) : Int) = (m : Int) + 1 from by omega] at D2
  go_wp2_with fail
  refine D2.out.mono ?_
  rintro e w5 ⟨ri, v5, M5, rfl, q1, q2, q3, q4⟩
  have K5 := Hid.mk' (q3.blk K4.out NE.out.1 E4.out)
  have b5 := Hid.mk' (show base ≤ w5.heap.size by have := b4.out; have := q3.size; omega)
  have hz5 : qb < w5.heap.size := by have := q3.size; omega
  have G5 := Hid.mk' (G4.out.trans q3)
  have W5 := Hid.mk' q1
  have J5 := Hid.mk' q2
  have C5 := Hid.mk' q4
  clear q1 q2 q3 q4 D2 c6
  have A5 := Hid.mk' (wadd_made l r (-1) ri ⟨ps, po, pl, pn⟩ cc base B v5 ((N ++ []) ++ M5) w5 (by have := hz.out; have := C4.out; have := C5.out; rw [List.length_append, List.length_append]; omega) (by have := hz.out; omega) hf.out.1 hf.out.2.1 hf.out.2.2 W5.out (J4.out.more M5) J5.out b5.out)
  have d0 := K5.out.cell (j := 0) (v := .int .i64 ps) rfl
  have d1 := K5.out.cell (j := 1) (v := .int .i64 po) rfl
  have d2 := K5.out.cell (j := 2) (v := .int .i64 pl) rfl
  have d3 := K5.out.cell (j := 3) (v := .int .i64 pn) rfl
  have d4 := K5.out.cell (j := 4) (v := .bool cc) rfl
  clear l0 hli
  go_wp2_with fail
  refine A5.out.mono ?_
  rintro e w6 ⟨i6, v6, M6, rfl, q1, q2, q3, q4⟩
  have W6 := Hid.mk' q1
  have J6 := Hid.mk' q2
  have G6 := Hid.mk' q3
  have C6 := Hid.mk' q4
  clear q1 q2 q3 q4 A5
  go_wp2
  go_ret2
  refine ⟨i6, v6, [] ++ (M5 ++ M6), ?_, by have := W6.out; simpa only [List.append_assoc] using this, by have := J6.out; simpa only [List.append_assoc] using this, G5.out.trans G6.out, by have := C4.out; have := C5.out; have := C6.out; simp only [Tr.size, List.length_append]; omega⟩
  rw [show ((m + (Tr.mk (some (cc, l, ⟨ps, po, pl, pn⟩, r))).size : Nat) : Int) = (m : Int) + 1 + (r.size : Int) from by have := l00.out; simp only [Tr.size]; omega]; rfl

set_option maxRecDepth 100000 in
set_option maxHeartbeats 4000000 in
theorem wput_10 (base B : Nat) (b off n c : Nat) (L : List Rw) (cc : Bool) (l r : Tr) (ps po pl pn : Int) (m : Nat) (rest : List Rw) (w : World) (v : Value) (N : List Nd) (hn : Hid (n = L.length)) (hnz : n ≤ 1048576) (hd : Hid (L.drop m = rowOf cc l ⟨ps, po, pl, pn⟩ r :: (rowsT l ++ (rowsT r ++ rest)))) (hrow : Hid (RowR w b off L)) (hbb : Hid (b < base)) (hW : Hid (Wd w base B v N)) (hB : Hid (base ≤ w.heap.size)) (hz : Hid (N.length + (l.size + 1 + r.size) ≤ 2097152)) (hf : Hid (Pc.fit ⟨ps, po, pl, pn⟩ ∧ l.fits ∧ r.fits)) (hl : l.has = true) (hr : r.has = false)
    (IL : Hid (Pq base B (some ⟨b, off, none⟩) n c L l)) (IR : Hid (Pq base B (some ⟨b, off, none⟩) n c L r)) :
    Calls Tryz.prog 94 #[.pointer (some ⟨B, 0, none⟩), .slice (some ⟨b, off, none⟩) n c, .int .i64 (m : Int)] w fun e w' => PutG w base B v N (Tr.mk (some (cc, l, ⟨ps, po, pl, pn⟩, r))) m e w' := by
  have hlm : L[m]? = some (rowOf cc l ⟨ps, po, pl, pn⟩ r) := by
    have := congrArg (fun x => x[0]?) hd.out
    simpa using this
  have hlt := (List.getElem?_eq_some_iff.1 hlm).1
  have hmn : m < n := by have := hn.out; omega
  have m0 : (0 : Int) ≤ (m : Int) := by omega
  have m1 : (m : Int) < (n : Int) := by omega
  obtain ⟨y0, y1, y2, y3, y4, y5, y6, y7, y8, y9⟩ := hrow.out m _ hlm
  dsimp only [rowOf] at y0 y1 y2 y3 y4 y5 y6 y7 y8 y9
  rw [hl] at y5
  rw [hr] at y6
  obtain ⟨k7, h7⟩ : ∃ k : Int, k = ((Tr.mk (some (cc, l, ⟨ps, po, pl, pn⟩, r))).size : Nat) := ⟨_, rfl⟩
  obtain ⟨k8, h8⟩ : ∃ k : Int, k = (Tr.mk (some (cc, l, ⟨ps, po, pl, pn⟩, r))).byt := ⟨_, rfl⟩
  obtain ⟨k9, h9⟩ : ∃ k : Int, k = (Tr.mk (some (cc, l, ⟨ps, po, pl, pn⟩, r))).lin := ⟨_, rfl⟩
  rw [← h7] at y7
  rw [← h8] at y8
  rw [← h9] at y9
  clear h7 h8 h9 hlm hlt
  go_enter Tryz.func94, Tryz.ntmps94
  go_upto_region 2 with fail
  have HBK := Hid.mk' (Blk.new w 128 #[.int .i64 ps, .int .i64 po, .int .i64 pl, .int .i64 pn, .bool cc, .bool true, .bool false, .int .i64 k7, .int .i64 k8, .int .i64 k9])
  have BW := Hid.mk' (bAlloc (Below.refl w.heap.size w) (.cells #[.int .i64 ps, .int .i64 po, .int .i64 pl, .int .i64 pn, .bool cc, .bool true, .bool false, .int .i64 k7, .int .i64 k8, .int .i64 k9] 128))
  generalize hW3 : w.alloc (.cells #[.int .i64 ps, .int .i64 po, .int .i64 pl, .int .i64 pn, .bool cc, .bool true, .bool false, .int .i64 k7, .int .i64 k8, .int .i64 k9] 128) = W3 at *
  have hqz : w.heap.size < W3.heap.size := HBK.out.lt
  clear hW3 y0 y1 y2 y3 y4 y5 y6 y7 y8 y9
  have HD := Hid.mk' (hW.out.keep BW.out)
  have HX := Hid.mk' (hrow.out.keep BW.out)
  have NE := Hid.mk' (blk_new_ne hW.out)
  have B3 := Hid.mk' (show base ≤ W3.heap.size by have := hB.out; omega)
  have G3 := Hid.mk' (show Grw w W3 B v v from Grw.below BW.out)
  obtain ⟨qb, hqb⟩ : ∃ q, q = w.heap.size := ⟨_, rfl⟩
  rw [← hqb] at HBK hqz NE ⊢
  clear hqb BW
  have D1 := Hid.mk' (IL.out (m + 1) (rowsT r ++ rest) W3 v N hl (by have := congrArg (fun x => x.drop 1) hd.out; simpa [List.drop_drop, Nat.add_comm] using this) ⟨b, off, rfl, HX.out, hbb.out⟩ HD.out B3.out (by have := hz.out; omega))
  rw [show ((m + 1 : Nat) : Int) = (m : Int) + 1 from by omega] at D1
  have c5 := HBK.out.cell (j := 5) (v := .bool true) rfl
  go_wp2_with fail
  refine D1.out.mono ?_
  rintro e w4 ⟨li, v4, M4, rfl, q1, q2, q3, q4⟩
  have X4 := Hid.mk' (HX.out.grw q3 HD.out hbb.out B3.out)
  have K4 := Hid.mk' (q3.blk HBK.out NE.out.1 NE.out.2)
  have E4 := Hid.mk' (q3.ne hqz NE.out.2)
  have b4 := Hid.mk' (show base ≤ w4.heap.size by have := B3.out; have := q3.size; omega)
  have hz4 : qb < w4.heap.size := by have := q3.size; omega
  have G4 := Hid.mk' (G3.out.trans q3)
  have W4 := Hid.mk' q1
  have J4 := Hid.mk' q2
  have C4 := Hid.mk' q4
  clear q1 q2 q3 q4 D1 c5
  have r0 : r = Tr.mk none := by
    cases r using Tr.el with
    | nil => rfl
    | node => cases hr
  have c6 := K4.out.cell (j := 6) (v := .bool false) rfl
  have K5 := K4
  have b5 := b4
  have G5 := G4
  have W5 := Hid.mk' (show Wd w4 base B v4 ((N ++ M4) ++ []) by rw [List.append_nil]; exact W4.out)
  have J5 := Hid.mk' (show Is ((N ++ M4) ++ []) r (-1) by rw [r0]; rfl)
  have C5 := Hid.mk' (show ([] : List Nd).length ≤ r.size from Nat.zero_le _)
  have r1 : Hid (r.size = 0) := by rw [r0]; rfl
  clear r0
  have A5 := Hid.mk' (wadd_made l r li (-1) ⟨ps, po, pl, pn⟩ cc base B v4 ((N ++ M4) ++ []) w4 (by have := hz.out; have := C4.out; have := C5.out; rw [List.length_append, List.length_append]; omega) (by have := hz.out; omega) hf.out.1 hf.out.2.1 hf.out.2.2 W5.out (J4.out.more []) J5.out b5.out)
  have d0 := K5.out.cell (j := 0) (v := .int .i64 ps) rfl
  have d1 := K5.out.cell (j := 1) (v := .int .i64 po) rfl
  have d2 := K5.out.cell (j := 2) (v := .int .i64 pl) rfl
  have d3 := K5.out.cell (j := 3) (v := .int .i64 pn) rfl
  have d4 := K5.out.cell (j := 4) (v := .bool cc) rfl
  go_wp2_with fail
  refine A5.out.mono ?_
  rintro e w6 ⟨i6, v6, M6, rfl, q1, q2, q3, q4⟩
  have W6 := Hid.mk' q1
  have J6 := Hid.mk' q2
  have G6 := Hid.mk' q3
  have C6 := Hid.mk' q4
  clear q1 q2 q3 q4 A5
  go_wp2
  go_ret2
  refine ⟨i6, v6, M4 ++ ([] ++ M6), ?_, by have := W6.out; simpa only [List.append_assoc] using this, by have := J6.out; simpa only [List.append_assoc] using this, G5.out.trans G6.out, by have := C4.out; have := C5.out; have := C6.out; simp only [Tr.size, List.length_append]; omega⟩
  rw [show m + (Tr.mk (some (cc, l, ⟨ps, po, pl, pn⟩, r))).size = m + 1 + l.size from by have := r1.out; simp only [Tr.size]; omega]; rfl

set_option maxRecDepth 100000 in
set_option maxHeartbeats 4000000 in
theorem wput_11 (base B : Nat) (b off n c : Nat) (L : List Rw) (cc : Bool) (l r : Tr) (ps po pl pn : Int) (m : Nat) (rest : List Rw) (w : World) (v : Value) (N : List Nd) (hn : Hid (n = L.length)) (hnz : n ≤ 1048576) (hd : Hid (L.drop m = rowOf cc l ⟨ps, po, pl, pn⟩ r :: (rowsT l ++ (rowsT r ++ rest)))) (hrow : Hid (RowR w b off L)) (hbb : Hid (b < base)) (hW : Hid (Wd w base B v N)) (hB : Hid (base ≤ w.heap.size)) (hz : Hid (N.length + (l.size + 1 + r.size) ≤ 2097152)) (hf : Hid (Pc.fit ⟨ps, po, pl, pn⟩ ∧ l.fits ∧ r.fits)) (hl : l.has = true) (hr : r.has = true)
    (IL : Hid (Pq base B (some ⟨b, off, none⟩) n c L l)) (IR : Hid (Pq base B (some ⟨b, off, none⟩) n c L r)) :
    Calls Tryz.prog 94 #[.pointer (some ⟨B, 0, none⟩), .slice (some ⟨b, off, none⟩) n c, .int .i64 (m : Int)] w fun e w' => PutG w base B v N (Tr.mk (some (cc, l, ⟨ps, po, pl, pn⟩, r))) m e w' := by
  have hlm : L[m]? = some (rowOf cc l ⟨ps, po, pl, pn⟩ r) := by
    have := congrArg (fun x => x[0]?) hd.out
    simpa using this
  have hlt := (List.getElem?_eq_some_iff.1 hlm).1
  have hmn : m < n := by have := hn.out; omega
  have m0 : (0 : Int) ≤ (m : Int) := by omega
  have m1 : (m : Int) < (n : Int) := by omega
  obtain ⟨y0, y1, y2, y3, y4, y5, y6, y7, y8, y9⟩ := hrow.out m _ hlm
  dsimp only [rowOf] at y0 y1 y2 y3 y4 y5 y6 y7 y8 y9
  rw [hl] at y5
  rw [hr] at y6
  obtain ⟨k7, h7⟩ : ∃ k : Int, k = ((Tr.mk (some (cc, l, ⟨ps, po, pl, pn⟩, r))).size : Nat) := ⟨_, rfl⟩
  obtain ⟨k8, h8⟩ : ∃ k : Int, k = (Tr.mk (some (cc, l, ⟨ps, po, pl, pn⟩, r))).byt := ⟨_, rfl⟩
  obtain ⟨k9, h9⟩ : ∃ k : Int, k = (Tr.mk (some (cc, l, ⟨ps, po, pl, pn⟩, r))).lin := ⟨_, rfl⟩
  rw [← h7] at y7
  rw [← h8] at y8
  rw [← h9] at y9
  clear h7 h8 h9 hlm hlt
  go_enter Tryz.func94, Tryz.ntmps94
  go_upto_region 2 with fail
  have HBK := Hid.mk' (Blk.new w 128 #[.int .i64 ps, .int .i64 po, .int .i64 pl, .int .i64 pn, .bool cc, .bool true, .bool true, .int .i64 k7, .int .i64 k8, .int .i64 k9])
  have BW := Hid.mk' (bAlloc (Below.refl w.heap.size w) (.cells #[.int .i64 ps, .int .i64 po, .int .i64 pl, .int .i64 pn, .bool cc, .bool true, .bool true, .int .i64 k7, .int .i64 k8, .int .i64 k9] 128))
  generalize hW3 : w.alloc (.cells #[.int .i64 ps, .int .i64 po, .int .i64 pl, .int .i64 pn, .bool cc, .bool true, .bool true, .int .i64 k7, .int .i64 k8, .int .i64 k9] 128) = W3 at *
  have hqz : w.heap.size < W3.heap.size := HBK.out.lt
  clear hW3 y0 y1 y2 y3 y4 y5 y6 y7 y8 y9
  have HD := Hid.mk' (hW.out.keep BW.out)
  have HX := Hid.mk' (hrow.out.keep BW.out)
  have NE := Hid.mk' (blk_new_ne hW.out)
  have B3 := Hid.mk' (show base ≤ W3.heap.size by have := hB.out; omega)
  have G3 := Hid.mk' (show Grw w W3 B v v from Grw.below BW.out)
  obtain ⟨qb, hqb⟩ : ∃ q, q = w.heap.size := ⟨_, rfl⟩
  rw [← hqb] at HBK hqz NE ⊢
  clear hqb BW
  have D1 := Hid.mk' (IL.out (m + 1) (rowsT r ++ rest) W3 v N hl (by have := congrArg (fun x => x.drop 1) hd.out; simpa [List.drop_drop, Nat.add_comm] using this) ⟨b, off, rfl, HX.out, hbb.out⟩ HD.out B3.out (by have := hz.out; omega))
  rw [show ((m + 1 : Nat) : Int) = (m : Int) + 1 from by omega] at D1
  have c5 := HBK.out.cell (j := 5) (v := .bool true) rfl
  go_wp2_with fail
  refine D1.out.mono ?_
  rintro e w4 ⟨li, v4, M4, rfl, q1, q2, q3, q4⟩
  have X4 := Hid.mk' (HX.out.grw q3 HD.out hbb.out B3.out)
  have K4 := Hid.mk' (q3.blk HBK.out NE.out.1 NE.out.2)
  have E4 := Hid.mk' (q3.ne hqz NE.out.2)
  have b4 := Hid.mk' (show base ≤ w4.heap.size by have := B3.out; have := q3.size; omega)
  have hz4 : qb < w4.heap.size := by have := q3.size; omega
  have G4 := Hid.mk' (G3.out.trans q3)
  have W4 := Hid.mk' q1
  have J4 := Hid.mk' q2
  have C4 := Hid.mk' q4
  clear q1 q2 q3 q4 D1 c5
  have D2 := Hid.mk' (IR.out (m + 1 + l.size) rest w4 v4 (N ++ M4) hr (by have := congrArg (fun x => x.drop (1 + l.size)) hd.out; rw [List.drop_drop] at this; rw [show m + 1 + l.size = m + (1 + l.size) from by omega, this, show 1 + l.size = (rowsT l).length + 1 from by rw [rowsT_length]; omega, List.drop_succ_cons, List.drop_left]) ⟨b, off, rfl, X4.out, hbb.out⟩ W4.out b4.out (by have := hz.out; have := C4.out; rw [List.length_append]; omega))
  have c6 := K4.out.cell (j := 6) (v := .bool true) rfl
  go_wp2_with fail
  refine D2.out.mono ?_
  rintro e w5 ⟨ri, v5, M5, rfl, q1, q2, q3, q4⟩
  have K5 := Hid.mk' (q3.blk K4.out NE.out.1 E4.out)
  have b5 := Hid.mk' (show base ≤ w5.heap.size by have := b4.out; have := q3.size; omega)
  have hz5 : qb < w5.heap.size := by have := q3.size; omega
  have G5 := Hid.mk' (G4.out.trans q3)
  have W5 := Hid.mk' q1
  have J5 := Hid.mk' q2
  have C5 := Hid.mk' q4
  clear q1 q2 q3 q4 D2 c6
  have A5 := Hid.mk' (wadd_made l r li ri ⟨ps, po, pl, pn⟩ cc base B v5 ((N ++ M4) ++ M5) w5 (by have := hz.out; have := C4.out; have := C5.out; rw [List.length_append, List.length_append]; omega) (by have := hz.out; omega) hf.out.1 hf.out.2.1 hf.out.2.2 W5.out (J4.out.more M5) J5.out b5.out)
  have d0 := K5.out.cell (j := 0) (v := .int .i64 ps) rfl
  have d1 := K5.out.cell (j := 1) (v := .int .i64 po) rfl
  have d2 := K5.out.cell (j := 2) (v := .int .i64 pl) rfl
  have d3 := K5.out.cell (j := 3) (v := .int .i64 pn) rfl
  have d4 := K5.out.cell (j := 4) (v := .bool cc) rfl
  go_wp2_with fail
  refine A5.out.mono ?_
  rintro e w6 ⟨i6, v6, M6, rfl, q1, q2, q3, q4⟩
  have W6 := Hid.mk' q1
  have J6 := Hid.mk' q2
  have G6 := Hid.mk' q3
  have C6 := Hid.mk' q4
  clear q1 q2 q3 q4 A5
  go_wp2
  go_ret2
  refine ⟨i6, v6, M4 ++ (M5 ++ M6), ?_, by have := W6.out; simpa only [List.append_assoc] using this, by have := J6.out; simpa only [List.append_assoc] using this, G5.out.trans G6.out, by have := C4.out; have := C5.out; have := C6.out; simp only [Tr.size, List.length_append]; omega⟩
  rw [show m + (Tr.mk (some (cc, l, ⟨ps, po, pl, pn⟩, r))).size = m + 1 + l.size + r.size from by simp only [Tr.size]; omega]; rfl

theorem wput_any (base B : Nat) (ao : Option Addr) (n c : Nat) (L : List Rw) (hn : n = L.length) (hnz : n ≤ 1048576) : ∀ (t : Tr), t.fits → Pq base B ao n c L t
  | (Tr.mk none), _ => fun m rest w v N hh => by cases hh
  | (Tr.mk (some (cc, l, ⟨ps, po, pl, pn⟩, r))), hf => by
    rintro m rest w v N hh hd ⟨b, off, rfl, hrow, hbb⟩ hW hB hz
    have I1 := wput_any base B (some ⟨b, off, none⟩) n c L hn hnz l hf.1
    have I2 := wput_any base B (some ⟨b, off, none⟩) n c L hn hnz r hf.2.2
    have hd' : L.drop m = rowOf cc l ⟨ps, po, pl, pn⟩ r :: (rowsT l ++ (rowsT r ++ rest)) := by rw [hd]; simp [rowsT]
    cases hl : l.has <;> cases hr : r.has
    · exact wput_00 base B b off n c L cc l r ps po pl pn m rest w v N hn hnz hd' hrow hbb hW hB hz ⟨hf.2.1, hf.1, hf.2.2⟩ hl hr I1 I2
    · exact wput_01 base B b off n c L cc l r ps po pl pn m rest w v N hn hnz hd' hrow hbb hW hB hz ⟨hf.2.1, hf.1, hf.2.2⟩ hl hr I1 I2
    · exact wput_10 base B b off n c L cc l r ps po pl pn m rest w v N hn hnz hd' hrow hbb hW hB hz ⟨hf.2.1, hf.1, hf.2.2⟩ hl hr I1 I2
    · exact wput_11 base B b off n c L cc l r ps po pl pn m rest w v N hn hnz hd' hrow hbb hW hB hz ⟨hf.2.1, hf.1, hf.2.2⟩ hl hr I1 I2
set_option maxHeartbeats 1000000 in
theorem wtree_nil (B : Nat) (ao : Option Addr) (c : Nat) (w : World) : Calls Tryz.prog 53 #[.pointer (some ⟨B, 0, none⟩), .slice ao 0 c] w fun e w' => e = .returned (.int .i64 (-1)) ∧ w' = w := by
  go_enter Tryz.func53, Tryz.ntmps53
  go_wp2
  go_ret
  exact ⟨rfl, rfl⟩
set_option maxHeartbeats 1000000 in
theorem wtree_some (base B : Nat) (ao : Option Addr) (c : Nat) (t : Tr) (w : World) (v : Value) (N : List Nd) (h0 : 0 < t.size) (hf : t.fits) (hz : t.size ≤ 1048576) (hr : ∃ b off, ao = some ⟨b, off, none⟩ ∧ RowR w b off (rowsT t) ∧ b < base) (hW : Hid (Wd w base B v N)) (hB : base ≤ w.heap.size) (hN : N.length + t.size ≤ 2097152) :
    Calls Tryz.prog 53 #[.pointer (some ⟨B, 0, none⟩), .slice ao t.size c] w fun e w' => Mades w base B v N t t.size e w' := by
  have hh : t.has = true := by
    cases t using Tr.el with
    | nil => simp [Tr.size] at h0
    | node => rfl
  have D := Hid.mk' (wput_any base B ao t.size c (rowsT t) (by rw [rowsT_length]) hz t hf 0 [] w v N hh (by simp) hr hW.out hB hN)
  have hne : ((t.size : Int) == 0) = false := by rw [beq_eq_false_iff_ne]; omega
  clear hr
  go_enter Tryz.func53, Tryz.ntmps53
  go_wp2_with fail
  refine D.out.mono ?_
  rintro e w4 ⟨i4, v4, M4, rfl, q1, q2, q3, q4⟩
  have F := Hid.mk' (And.intro q1 (And.intro q2 (And.intro q3 q4)))
  clear q1 q2 q3 q4 D
  go_wp2
  go_ret
  exact ⟨i4, v4, M4, rfl, F.out.1, F.out.2.1, F.out.2.2.1, F.out.2.2.2⟩
theorem wtree_any (base B : Nat) (ao : Option Addr) (c : Nat) (t : Tr) (w : World) (v : Value) (N : List Nd) (hf : t.fits) (hz : t.size ≤ 1048576) (hr : t.size = 0 ∨ ∃ b off, ao = some ⟨b, off, none⟩ ∧ RowR w b off (rowsT t) ∧ b < base) (hW : Wd w base B v N) (hB : base ≤ w.heap.size) (hN : N.length + t.size ≤ 2097152) :
    Calls Tryz.prog 53 #[.pointer (some ⟨B, 0, none⟩), .slice ao t.size c] w fun e w' => Mades w base B v N t t.size e w' := by
  rcases Nat.eq_zero_or_pos t.size with h0 | h0
  · have e : t = Tr.mk none := by
      cases t using Tr.el with
      | nil => rfl
      | node => simp [Tr.size] at h0
    subst e
    refine (wtree_nil B ao c w).mono ?_
    rintro e w' ⟨rfl, rfl⟩
    exact ⟨-1, v, [], rfl, by simpa using hW, rfl, Grw.refl _ _ _, Nat.zero_le _⟩
  · rcases hr with hr | hr
    · omega
    · exact wtree_some base B ao c t w v N h0 hf hz hr hW hB hN
end Go.Proofs.YtmhpeppbhjpkiaaGreat

