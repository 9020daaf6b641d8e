/- Banks in stretches of blocks: what is written elsewhere leaves them; a register after the other is marked. -/
import Derived.Test.YtienamngmalkaaaMkd
import Derived.Test.YtienamngmalkaaaAll
namespace Go.Proofs.Ytienamngmalkaaa
open Go.RowKit

set_option maxRecDepth 8000
/-- What lies outside [lo, hi) lies on. -/
structure Kept (lo hi : Nat) (A B : World) : Prop where
  os : B.os = A.os
  tape : B.tape = A.tape
  output : B.output = A.output
  size : A.heap.size ≤ B.heap.size
  block : ∀ k, k < A.heap.size → (k < lo ∨ hi ≤ k) → B.heap[k]? = A.heap[k]?
theorem Kept.refl (lo hi : Nat) (A : World) : Kept lo hi A A := ⟨rfl, rfl, rfl, Nat.le_refl _, fun _ _ _ => rfl⟩
theorem Kept.trans {lo hi : Nat} {A B C : World} (h : Kept lo hi A B) (g : Kept lo hi B C) : Kept lo hi A C :=
  ⟨g.os.trans h.os, g.tape.trans h.tape, g.output.trans h.output, Nat.le_trans h.size g.size, fun k hk hr => (g.block k (by have := h.size; omega) hr).trans (h.block k hk hr)⟩
theorem Kept.grown {lo hi : Nat} {A B C : World} {r : Option Nat} (h : Kept lo hi A B) (hg : B.grownBy C r) (hr : ∀ g, r = some g → lo ≤ g ∧ (g < hi ∨ A.heap.size ≤ g)) : Kept lo hi A C :=
  ⟨hg.os.trans h.os, hg.tape.trans h.tape, hg.output.trans h.output, Nat.le_trans h.size hg.size, fun k hk ho => by
    rw [hg.block k (by have := h.size; omega) (fun e => by have := hr k e.symm; omega)]
    exact h.block k hk ho⟩
theorem Kept.new {lo hi : Nat} {A B C : World} (h : Kept lo hi A B) (hb : Below B.heap.size B C) : Kept lo hi A C :=
  h.trans ⟨hb.os, hb.tape, hb.output, hb.size, fun k hk _ => hb.block k hk⟩
theorem Kept.on {w A B : World} {lo hi : Nat} (h : Below w.heap.size w A) (hk : Kept lo hi A B) (hl : w.heap.size ≤ lo) : Below w.heap.size w B :=
  ⟨hk.os.trans h.os, hk.tape.trans h.tape, hk.output.trans h.output, Nat.le_trans h.size hk.size, fun k hk' => (hk.block k (by have := h.size; omega) (.inl (by omega))).trans (h.block k hk')⟩
theorem own_same {A B : World} {base e size n : Nat} {v : Value} {xs : List Value} (h : A.ownsRow base e size v n xs) (hb : ∀ k, v.ownBlock = some k → k < A.heap.size → B.heap[k]? = A.heap[k]?) : B.ownsRow base e size v n xs := by
  refine ⟨h.1, ?_⟩
  rcases h.2 with h0 | ⟨g, cap, cur, rfl, hb', hg, rest⟩
  · exact .inl h0
  · exact .inr ⟨g, cap, cur, rfl, hb', by rw [hb g rfl (Array.getElem?_eq_some_iff.1 hg).1]; exact hg, rest⟩
theorem Blk.kept {W W' : World} {lo hi B e : Nat} {cs : Array Value} (h : Blk W B e cs) (hk : Kept lo hi W W') (hd : B < lo ∨ hi ≤ B) : Blk W' B e cs := by unfold Blk; rw [hk.block B h.lt hd]; exact h
theorem rows_in {M : List Rg} {Q : List Ct} {i : Nat} {x : Rw} (h : (rows M Q)[i]? = some x) : ∃ r c, M[i]? = some r ∧ Q[i]? = some c ∧ x = rwr r c := by
  unfold rows at h
  rw [List.getElem?_zipWith] at h
  cases h1 : M[i]? with
  | none => rw [h1] at h; cases h
  | some r =>
    cases h2 : Q[i]? with
    | none => rw [h1, h2] at h; cases h
    | some c =>
      rw [h1, h2] at h
      exact ⟨r, c, rfl, rfl, (Option.some.inj h).symm⟩
theorem rows_set {M : List Rg} {Q : List Ct} {k : Nat} (r : Rg) (c : Ct) : rows (M.set k r) (Q.set k c) = (rows M Q).set k (rwr r c) := by
  refine List.ext_getElem? fun i => ?_
  unfold rows
  rw [List.getElem?_zipWith]
  by_cases e : k = i
  · subst e
    by_cases h1 : k < M.length
    · by_cases h2 : k < Q.length
      · rw [List.getElem?_set_self h1, List.getElem?_set_self h2, List.getElem?_set_self (by rw [List.length_zipWith]; omega)]
      · rw [List.getElem?_set_self h1, List.getElem?_eq_none (by rw [List.length_set]; omega), List.getElem?_eq_none (by rw [List.length_set, List.length_zipWith]; omega)]
    · have h3 : (M.set k r)[k]? = none := List.getElem?_eq_none (by rw [List.length_set]; omega)
      have h4 : ((List.zipWith rwr M Q).set k (rwr r c))[k]? = none := List.getElem?_eq_none (by rw [List.length_set, List.length_zipWith]; omega)
      rw [h3, h4]
  · rw [List.getElem?_set_ne e, List.getElem?_set_ne e, List.getElem?_set_ne e, List.getElem?_zipWith]
theorem Rwz.off {b B e : Nat} {W W' : World} {M : List Rg} {Q : List Ct} {cs : Array Value} (h : Rwz b W (rows M Q)) (hB : Blk W B e cs) (he : e ≠ 5) (hg : W.grownBy W' (some B)) : Rwz b W' (rows M Q) :=
  ⟨fun i x hi => by
    obtain ⟨r, c, _, _, rfl⟩ := rows_in hi
    exact own_type (h.own i _ hi) hB he hg, h.far, Nat.le_trans h.sz hg.size⟩
theorem Rwz.grow {b i t s n : Nat} {W W' : World} {R : List Rw} {r : Rw} {v : Value} {xs : List Value} (h : Rwz b W R) (hi : R[i]? = some r) (hg : W.grownBy W' r.v.ownBlock) (ho : W'.ownsRow b t s v n xs)
    (hf : v.ownBlock = r.v.ownBlock ∨ ∃ q, v.ownBlock = some q ∧ W.heap.size ≤ q) : Rwz b W' (R.set i ⟨t, s, v, n, xs⟩) := by
  have hfar : ∀ j q, j ≠ i → R[j]? = some q → Far q.v v := fun j q hj hq g h1 h2 => by
    rcases hf with e | ⟨k, e, hk⟩
    · exact h.far j i q r hj hq hi g h1 (by rw [← e]; exact h2)
    · have := ((h.own j q hq).lt g h1).2
      rw [e] at h2; simp at h2; omega
  refine ⟨fun j q hj => ?_, fun j k p q hjk hj hk => ?_, Nat.le_trans h.sz hg.size⟩
  · rcases set_at hj with ⟨hne, hj⟩ | ⟨_, rfl⟩
    · exact (h.own j q hj).kept hg (h.far j i q r hne hj hi).ne
    · exact ho
  · rcases set_at hj with ⟨hne, hj⟩ | ⟨e1, rfl⟩
    · rcases set_at hk with ⟨hne2, hk⟩ | ⟨e2, rfl⟩
      · exact h.far j k p q hjk hj hk
      · exact hfar j p hne hj
    · rcases set_at hk with ⟨hne2, hk⟩ | ⟨e2, rfl⟩
      · exact (hfar k q hne2 hk).symm
      · omega
/-- a bank in a stretch of blocks, boxed -/
structure Ws (lo hi : Nat) (W : World) (g : Nat) (M : List Rg) (Q : List Ct) : Prop where
  len : M.length = 37
  fl : Fl M Q
  box : Blk W g 28 (bk M)
  gin : lo ≤ g ∧ g < hi
  own : ∀ (i : Nat) (x : Rw), (rows M Q)[i]? = some x → W.ownsRow lo x.t x.s x.v x.n x.xs
  up : ∀ (i : Nat) (x : Rw), (rows M Q)[i]? = some x → ∀ k, x.v.ownBlock = some k → k < hi
  bnd : ∀ (k : Nat) (c : Ct), Q[k]? = some c → c.t.length ≤ 140737488351232
theorem Ws.keep {lo hi g : Nat} {W W' : World} {M : List Rg} {Q : List Ct} (h : Ws lo hi W g M Q) (hb : Below W.heap.size W W') : Ws lo hi W' g M Q :=
  ⟨h.len, h.fl, h.box.keep hb, h.gin, fun i x hi => own_keep (h.own i x hi) hb, h.up, h.bnd⟩
theorem Ws.kept {lo hi a b g : Nat} {W W' : World} {M : List Rg} {Q : List Ct} (h : Ws lo hi W g M Q) (hk : Kept a b W W') (hd : b ≤ lo ∨ hi ≤ a) : Ws lo hi W' g M Q :=
  ⟨h.len, h.fl, h.box.kept hk (by have := h.gin; omega), h.gin, fun i x hi => own_same (h.own i x hi) (fun k h1 h2 => hk.block k h2 (by have := ((h.own i x hi).lt k h1).1; have := h.up i x hi k h1; omega)), h.up, h.bnd⟩
theorem row_tx {W : World} {base : Nat} {r : Rg} {c : Ct} (ho : W.ownsRow base 5 1 (.slice r.a r.n r.c) r.n (bv c.t)) (hb : r.n ≤ 150000000000000) : Tx W r.a r.n r.c c.t := by
  obtain ⟨a, cc, hv, hT⟩ := own_txl (l := c.t) ho hb
  obtain ⟨e4, e5⟩ : r.a = a ∧ r.c = cc := by simpa using hv
  subst e4 e5
  exact hT
theorem Ws.rdb {lo hi g : Nat} {W : World} {M : List Rg} {Q : List Ct} (h : Ws lo hi W g M Q) : Rdb W M Q := by
  refine ⟨h.len, by rw [← h.fl.1, h.len], fun k r c h1 h2 => ?_⟩
  obtain ⟨e1, e2, e3⟩ := h.fl.2 k r c h1 h2
  have hb := h.bnd k c h2
  exact ⟨e1, e2, row_tx (h.own k _ (rows_at h1 h2)) (by omega), by omega⟩
/-- a bank in memory of its own, its registers apart -/
structure Bs0 (lo hi : Nat) (W : World) (g : Nat) (M : List Rg) (Q : List Ct) : Prop where
  ws : Ws lo hi W g M Q
  far : ∀ (i j : Nat) (p q : Rw), i ≠ j → (rows M Q)[i]? = some p → (rows M Q)[j]? = some q → Far p.v q.v
  sz : lo ≤ W.heap.size
theorem Bs0.keep {lo hi g : Nat} {W W' : World} {M : List Rg} {Q : List Ct} (h : Bs0 lo hi W g M Q) (hb : Below W.heap.size W W') : Bs0 lo hi W' g M Q := ⟨h.ws.keep hb, h.far, Nat.le_trans h.sz hb.size⟩
theorem Bs0.kept {lo hi a b g : Nat} {W W' : World} {M : List Rg} {Q : List Ct} (h : Bs0 lo hi W g M Q) (hk : Kept a b W W') (hd : b ≤ lo ∨ hi ≤ a) : Bs0 lo hi W' g M Q := ⟨h.ws.kept hk hd, h.far, Nat.le_trans h.sz hk.size⟩
/-- a bank whose registers are marked one by one: what lies outside [lo, hi) lies on since A -/
structure Bst (lo hi m : Nat) (A W : World) (g : Nat) (M : List Rg) (Q : List Ct) : Prop where
  len : M.length = 37
  fl : Fl M Q
  box : Blk W g 28 (bk M)
  gin : lo ≤ g ∧ g < hi
  own : Rwz lo W (rows M Q)
  blk : ∀ (i : Nat) (x : Rw), (rows M Q)[i]? = some x → ∀ k, x.v.ownBlock = some k → k < hi ∨ A.heap.size ≤ k
  kept : Kept lo hi A W
  bnd : ∀ (k : Nat) (c : Ct), Q[k]? = some c → c.t.length ≤ 140737488351232 + m
theorem Bs0.bst {lo hi g : Nat} {W : World} {M : List Rg} {Q : List Ct} (h : Bs0 lo hi W g M Q) : Bst lo hi 0 W W g M Q :=
  ⟨h.ws.len, h.ws.fl, h.ws.box, h.ws.gin, ⟨h.ws.own, h.far, h.sz⟩, fun i x hi k hk => .inl (h.ws.up i x hi k hk), Kept.refl _ _ _, h.ws.bnd⟩
theorem Bst.keep {lo hi m g : Nat} {A W W' : World} {M : List Rg} {Q : List Ct} (h : Bst lo hi m A W g M Q) (hb : Below W.heap.size W W') : Bst lo hi m A W' g M Q :=
  ⟨h.len, h.fl, h.box.keep hb, h.gin, h.own.keep hb, h.blk, h.kept.new hb, h.bnd⟩
theorem Bst.row {lo hi m g k : Nat} {A W : World} {M : List Rg} {Q : List Ct} {r : Rg} {c : Ct} (h : Bst lo hi m A W g M Q) (hr : M[k]? = some r) (hc : Q[k]? = some c) : W.ownsRow lo 5 1 (.slice r.a r.n r.c) r.n (bv c.t) := h.own.own k _ (rows_at hr hc)
theorem Bst.short {lo hi m g k : Nat} {A W : World} {M : List Rg} {Q : List Ct} {r : Rg} {c : Ct} (h : Bst lo hi m A W g M Q) (hr : M[k]? = some r) (hc : Q[k]? = some c) : r.n ≤ 140737488351232 + m := by
  have := (h.fl.2 k r c hr hc).2.2
  have := h.bnd k c hc
  omega
theorem Bst.qlen {lo hi m g : Nat} {A W : World} {M : List Rg} {Q : List Ct} (h : Bst lo hi m A W g M Q) : Q.length = 37 := by rw [← h.fl.1, h.len]
theorem putr_grown (W : World) (B k : Nat) (s l : Bool) (v : Value) : W.grownBy (putr W B k s l v) (some B) := ⟨rfl, rfl, rfl, by simp [putr], fun j hj hne => by
  have hk' : j ≠ B := fun e => hne (by rw [e])
  unfold putr
  rw [Below.heap_setCell _ _ _ j hk', Below.heap_setCell _ _ _ j hk', Below.heap_setCell _ _ _ j hk']⟩
/-- a register is marked, and put in its place -/
theorem Bst.mark {lo hi m g k : Nat} {A W W' : World} {M : List Rg} {Q : List Ct} {r : Rg} {c : Ct} (h : Bst lo hi m A W g M Q) (hr : M[k]? = some r) (hc : Q[k]? = some c) {a' : Option Addr} {c' : Nat} {t' : List UInt8}
    (ho : W'.ownsRow lo 5 1 (.slice a' (r.n + 40) c') (r.n + 40) (bv t')) (hg : W.grownBy W' (Value.slice r.a r.n r.c).ownBlock) (hf : (Value.slice a' (r.n + 40) c').ownBlock = (Value.slice r.a r.n r.c).ownBlock ∨ ∃ q, (Value.slice a' (r.n + 40) c').ownBlock = some q ∧ W.heap.size ≤ q) :
    Bst lo hi (m + 40) A (putr W' g k r.s r.l (.slice a' (r.n + 40) c')) g (M.set k ⟨r.s, r.l, a', r.n + 40, c'⟩) (Q.set k ⟨c.s, c.l, t'⟩) := by
  obtain ⟨e1, e2, e3⟩ := h.fl.2 k r c hr hc
  have hrow := h.row hr hc
  have hlen : t'.length = r.n + 40 := by have := ho.1; rw [bv_length] at this; omega
  have b1 : Blk W' g 28 (bk M) := h.box.grown hg (blk_type hrow h.box (by decide)).symm
  have g2 := putr_grown W' g k r.s r.l (.slice a' (r.n + 40) c')
  have o1 : Rwz lo W' (rows (M.set k ⟨r.s, r.l, a', r.n + 40, c'⟩) (Q.set k ⟨c.s, c.l, t'⟩)) := by
    rw [rows_set]
    exact h.own.grow (rows_at hr hc) hg ho hf
  refine ⟨by rw [List.length_set]; exact h.len, h.fl.set k e1 e2 hlen.symm, b1.putr ⟨r.s, r.l, a', r.n + 40, c'⟩, h.gin, o1.off b1 (by decide) g2, fun i x hx j hj => ?_, (h.kept.grown hg fun q hq => ?_).grown g2 fun q hq => ?_, fun j d hd => ?_⟩
  · rw [rows_set] at hx
    rcases set_at hx with ⟨_, hx⟩ | ⟨_, rfl⟩
    · exact h.blk i x hx j hj
    · rcases hf with e | ⟨q, e, hq⟩
      · exact h.blk k _ (rows_at hr hc) j (by rw [← hj]; exact e.symm)
      · have hj' : (Value.slice a' (r.n + 40) c').ownBlock = some j := hj
        rw [e] at hj'
        injection hj' with hj'
        have := h.kept.size
        exact .inr (by omega)
  · exact ⟨(hrow.lt q hq).1, h.blk k _ (rows_at hr hc) q hq⟩
  · injection hq with hq
    have := h.gin
    exact ⟨by omega, .inl (by omega)⟩
  · rcases set_at hd with ⟨_, hd⟩ | ⟨_, rfl⟩
    · have := h.bnd j d hd
      omega
    · show t'.length ≤ _
      have := h.bnd k c hc
      omega
/-- a bank that was made, boxed -/
theorem New.bs0 {w W : World} {N : List Rg} {P : List Ct} (h : New w W N P) (hP : ∀ (k : Nat) (c : Ct), P[k]? = some c → c.t.length ≤ 140737488351232) : Bs0 w.heap.size (put28 (W.alloc (.cells (bk zb) 28)) W.heap.size N).heap.size (put28 (W.alloc (.cells (bk zb) 28)) W.heap.size N) W.heap.size N P := by
  obtain ⟨hbx, hbb⟩ := boxed (w := W) h.len
  have hs : W.heap.size < (put28 (W.alloc (.cells (bk zb) 28)) W.heap.size N).heap.size := hbx.lt
  have hw := h.own.bel.size
  exact ⟨⟨h.len, h.fl, hbx, ⟨hw, hs⟩, fun i x hi => own_keep (h.own.own i x hi) hbb, fun i x hi k hk => by have := ((h.own.own i x hi).lt k hk).2; omega, hP⟩, h.own.far, by omega⟩
theorem NewR.ws {w W : World} {N : List Rg} {P : List Ct} (h : NewR w W N P) (hP : ∀ (k : Nat) (c : Ct), P[k]? = some c → c.t.length ≤ 140737488351232) : Ws w.heap.size (put28 (W.alloc (.cells (bk zb) 28)) W.heap.size N).heap.size (put28 (W.alloc (.cells (bk zb) 28)) W.heap.size N) W.heap.size N P := by
  obtain ⟨hbx, hbb⟩ := boxed (w := W) h.len
  have hs : W.heap.size < (put28 (W.alloc (.cells (bk zb) 28)) W.heap.size N).heap.size := hbx.lt
  have hw := h.bel.size
  have ho : ∀ (i : Nat) (x : Rw), (rows N P)[i]? = some x → W.ownsRow w.heap.size x.t x.s x.v x.n x.xs := fun i x hi => by
    obtain ⟨r, c, h1, h2, rfl⟩ := rows_in hi
    exact h.own i r c h1 h2
  exact ⟨h.len, h.fl, hbx, ⟨hw, hs⟩, fun i x hi => own_keep (ho i x hi) hbb, fun i x hi k hk => by have := ((ho i x hi).lt k hk).2; omega, hP⟩
/-- behind region 5: a bank and a content of one's own, boxed -/
structure R5 (w1 W : World) (g5 g6 : Nat) (N : List Rg) (P : List Ct) (s l : Bool) (a : Option Addr) (n c : Nat) (t : List UInt8) : Prop where
  bel : Below w1.heap.size w1 W
  b5 : Blk W g5 28 (bk N)
  b6 : Blk W g6 24 #[.bool s, .bool l, .slice a n c]
  z5 : w1.heap.size ≤ g5
  z6 : w1.heap.size ≤ g6
  len : N.length = 37
  fl : Fl N P
  own : Rwz w1.heap.size W (rows N P)
  row : W.ownsRow w1.heap.size 5 1 (.slice a n c) n (bv t)
theorem R5.keep {w1 W W' : World} {g5 g6 : Nat} {N : List Rg} {P : List Ct} {s l : Bool} {a : Option Addr} {n c : Nat} {t : List UInt8} (h : R5 w1 W g5 g6 N P s l a n c t) (hb : Below W.heap.size W W') : R5 w1 W' g5 g6 N P s l a n c t :=
  ⟨bT h.bel hb, h.b5.keep hb, h.b6.keep hb, h.z5, h.z6, h.len, h.fl, h.own.keep hb, own_keep h.row hb⟩
theorem R5.bs0 {w1 W : World} {g5 g6 : Nat} {N : List Rg} {P : List Ct} {s l : Bool} {a : Option Addr} {n c : Nat} {t : List UInt8} (h : R5 w1 W g5 g6 N P s l a n c t) (hP : ∀ (k : Nat) (c : Ct), P[k]? = some c → c.t.length ≤ 140737488351232) : Bs0 w1.heap.size W.heap.size W g5 N P :=
  ⟨⟨h.len, h.fl, h.b5, ⟨h.z5, h.b5.lt⟩, h.own.own, fun i x hi k hk => ((h.own.own i x hi).lt k hk).2, hP⟩, h.own.far, h.bel.size⟩
theorem blk_ne {W : World} {B B' e e' : Nat} {cs cs' : Array Value} (h : Blk W B e cs) (h' : Blk W B' e' cs') (he : e ≠ e') : B ≠ B' := fun hb => by
  subst hb
  unfold Blk at h h'
  rw [h] at h'
  simp at h'
  exact he h'.2
theorem rwz_of {w1 W W' : World} {R : List Rw} (h : Rws W W' R) (hb : w1.heap.size ≤ W.heap.size) : Rwz w1.heap.size W' R := ⟨fun i r hi => own_lower (h.own i r hi) hb, h.far, Nat.le_trans hb h.bel.size⟩
end Go.Proofs.Ytienamngmalkaaa
