/- A sheet that edits have changed: what it holds, and what they left alone. -/
import Derived.Test.YtmhpeppbhjpkiaaGreatPm19
namespace Go.Proofs.YtmhpeppbhjpkiaaGreat
open Go.RowKit

/-- How many pieces an edit makes at most. -/
theorem CutR.len {O A : List UInt8} {t T U : Tr} {off : Int} (h : CutR O A t off T U) : T.list.length + U.list.length ≤ t.list.length + 1 := by
  rcases h with ⟨_, rfl, rfl⟩ | ⟨_, _, rfl, rfl⟩ | ⟨j, x, p, _, _, hp, _, _, _, h⟩
  · simp [Tr.list]
  · simp [Tr.list]
  · have hj := (List.getElem?_eq_some_iff.1 hp).1
    rcases h with ⟨_, rfl, rfl⟩ | ⟨_, rfl, rfl⟩
    · rw [(Tr.splitT_list t j).1, (Tr.splitT_list t j).2, List.length_take, List.length_drop]; omega
    · rw [Tr.joinT_list, Tr.joinT_list, (Tr.splitT_list t j).1, (Tr.splitT_list t (j + 1)).2]
      simp only [Tr.list, List.length_append, List.length_cons, List.length_nil, List.length_take, List.length_drop]
      omega
theorem JoinR.len {t T : Tr} {p q : Pc} {b : Bool} (h : JoinR t p T q b) : T.list.length ≤ t.list.length := by
  rcases h with ⟨_, rfl, _⟩ | ⟨_, m, r, _, _, _, rfl, _⟩
  · exact Nat.le_refl _
  · rw [(Tr.splitT_list t m).1, List.length_take]; omega
theorem MeetR.len {L R t : Tr} (h : MeetR L R t) : t.list.length ≤ L.list.length + R.list.length := by
  rcases h with ⟨_, rfl⟩ | ⟨p, T, q, b, hp, hj, ⟨_, rfl⟩ | ⟨_, rfl⟩⟩
  · rw [Tr.gluT_list, List.length_append]; exact Nat.le_refl _
  · rw [Tr.gluT_list, List.length_append]; exact Nat.le_refl _
  · have h1 := hj.len
    have h2 := (List.getElem?_eq_some_iff.1 hp).1
    rw [Tr.joinT_list, (Tr.splitT_list R 1).2]
    simp only [List.length_append, List.length_cons, List.length_drop]
    omega
theorem PutR.len {O A l : List UInt8} {t t' : Tr} {off : Int} (h : PutR O A l t off t') : t'.list.length ≤ t.list.length + 2 := by
  obtain ⟨T, U, T', q, b, hc, hj, rfl⟩ := h
  have h1 := hc.len
  have h2 := hj.len
  rw [Tr.joinT_list]
  simp only [List.length_append, List.length_cons]
  omega
theorem OutR.len {O A : List UInt8} {t t' : Tr} {x y : Int} (h : OutR O A t x y t') : t'.list.length ≤ t.list.length + 2 := by
  obtain ⟨T, U, T1, U1, hc, hd, hm⟩ := h
  have h1 := hc.len
  have h2 := hd.len
  have h3 := hm.len
  omega
/-- A tree that is whole, of few pieces. -/
def Wn (t : Tr) (e : Int) : Prop := t.whole ∧ (t.list.length : Int) ≤ 1 + 2 * e

/-- A sheet of text T behind edits since w. -/
structure Live (w W : World) (base sb bb : Nat) (vo va0 : Value) (O A T : List UInt8) (e : Int) : Prop where
  ex : ∃ va t a, Sh W base sb bb vo va O A t a e ∧ Wn t e ∧ Gds O A t.list ∧ txt O A t.list = T ∧ (va.ownBlock = va0.ownBlock ∨ ∃ k, va.ownBlock = some k ∧ w.heap.size ≤ k)
  chg : Chg w W sb bb va0.ownBlock

theorem Chg.trans {w W W' : World} {sb bb : Nat} {r r' : Option Nat} (h : Chg w W sb bb r) (k : Chg W W' sb bb r') (hr : r' = r ∨ ∃ k, r' = some k ∧ w.heap.size ≤ k) : Chg w W' sb bb r :=
  ⟨k.os.trans h.os, k.tape.trans h.tape, k.output.trans h.output, Nat.le_trans h.size k.size, fun j hj h1 h2 h3 => by
    rw [k.block j (Nat.lt_of_lt_of_le hj h.size) h1 h2 (by
      rcases hr with rfl | ⟨q, rfl, hq⟩
      · exact h3
      · intro e; cases e; omega)]
    exact h.block j hj h1 h2 h3⟩

theorem Live.keep {w W W' : World} {base sb bb : Nat} {vo va0 : Value} {O A T : List UInt8} {e : Int} (h : Live w W base sb bb vo va0 O A T e) (hb : Below W.heap.size W W') : Live w W' base sb bb vo va0 O A T e := by
  obtain ⟨⟨va, t, a, h1, h2, h3, h4, h5⟩, hc⟩ := h
  exact ⟨⟨va, t, a, h1.keep hb, h2, h3, h4, h5⟩, hc.below hb⟩

end Go.Proofs.YtmhpeppbhjpkiaaGreat

/- A sheet as a law holds it, whatever its buffer is; edits as plain data; what stays where a sheet changes. -/
namespace Go.Proofs.YtmhpeppbhjpkiaaGreat
open Go.RowKit

theorem bTl {a b c : World} (h : Below a.heap.size a b) (k : Below b.heap.size b c) : Below a.heap.size a c := h.trans (k.mono h.size)
/-- an edit -/
structure Ed where
  at' : Int
  old : List UInt8
  new : List UInt8
def edB (T : List UInt8) (d : Ed) : Bool := decide (0 ≤ d.at' ∧ d.at' + d.old.length ≤ T.length ∧ (T.drop d.at'.toNat).take d.old.length = d.old)
def edT (T : List UInt8) (d : Ed) : List UInt8 := T.take d.at'.toNat ++ (d.new ++ T.drop (d.at'.toNat + d.old.length))
/-- edits of a text, one behind the other -/
def apT : List UInt8 → List Ed → Option (List UInt8)
  | T, [] => some T
  | T, d :: ds => if edB T d then apT (edT T d) ds else none
/-- the bytes that edits put in -/
def nsum : List Ed → Nat
  | [] => 0
  | d :: ds => d.new.length + nsum ds
theorem edT_len {T : List UInt8} {d : Ed} (h : edB T d = true) : (edT T d).length + d.old.length = T.length + d.new.length := by
  obtain ⟨h1, h2, -⟩ := of_decide_eq_true h
  unfold edT
  simp only [List.length_append, List.length_take, List.length_drop]
  omega

/-- All but the sheet, buffers and bytes stays. -/
def Stay (W W' : World) (sb : Nat) : Prop := ∀ (g : Nat) (cs : Array Value) (ty : TypeId), (ty ≠ 5 ∧ ty ≠ 94) → g ≠ sb → W.heap[g]? = some (.cells cs ty (0, 0)) → W'.heap[g]? = some (.cells cs ty (0, 0))
theorem Stay.of_below {W W' : World} (h : Below W.heap.size W W') (sb : Nat) : Stay W W' sb := fun g _ _ _ _ hg => (h.block g (sh_lt hg)).trans hg
theorem Stay.trans {a b c : World} {sb : Nat} (h : Stay a b sb) (k : Stay b c sb) : Stay a c sb := fun g cs ty ht hn hg => k g cs ty ht hn (h g cs ty ht hn hg)
theorem Stay.of_chg {W W' : World} {base sb bb : Nat} {vo va : Value} {O A : List UInt8} {t : Tr} {a : Option Addr} {e : Int} (hS : Sh W base sb bb vo va O A t a e) (hc : Chg W W' sb bb va.ownBlock) : Stay W W' sb := by
  intro g cs ty ht hn hg
  refine (hc.block g (sh_lt hg) hn (fun e => ?_) (fun e => ?_)).trans hg
  · subst e; rw [hS.buf.here] at hg; cases hg; exact absurd rfl ht.2
  · exact Ab.own_ne hS.buf.added hg ht.1 e
theorem Stay.at {W W' : World} {base sb bb : Nat} {vo va : Value} {O A : List UInt8} {t : Tr} {a : Option Addr} {e : Int} (hS : Sh W base sb bb vo va O A t a e) (h : Stay W W' sb) {t0 : Tr} {a0 : Option Addr} (ha : At W t0 a0) : At W' t0 a0 :=
  Nods.at (fun b cs hb => h b cs 168 (by decide) (fun e => by subst e; rw [hS.here] at hb; cases hb) hb) ha
theorem tri_cells {W : World} {b : Nat} {x y z : Value} {t : TypeId} (h : W.heap[b]? = some (.cells #[x, y, z] t (0, 0))) : W.cell? ⟨b, 0, none⟩ = some x ∧ W.cell? ⟨b, 1, none⟩ = some y ∧ W.cell? ⟨b, 2, none⟩ = some z := by
  simp [World.cell?, h]
/-- three cells stored -/
theorem set_three {W : World} {b : Nat} {x y z : Value} {t : TypeId} (h : W.heap[b]? = some (.cells #[x, y, z] t (0, 0))) (x' y' z' : Value) :
    (((W.setCell ⟨b, 0, none⟩ x').setCell ⟨b, 1, none⟩ y').setCell ⟨b, 2, none⟩ z').heap[b]? = some (.cells #[x', y', z'] t (0, 0)) ∧ (∀ k, k ≠ b → (((W.setCell ⟨b, 0, none⟩ x').setCell ⟨b, 1, none⟩ y').setCell ⟨b, 2, none⟩ z').heap[k]? = W.heap[k]?) ∧ (((W.setCell ⟨b, 0, none⟩ x').setCell ⟨b, 1, none⟩ y').setCell ⟨b, 2, none⟩ z').heap.size = W.heap.size := by
  have one : ∀ (V : World) (cs : Array Value) (i : Nat) (v : Value), V.heap[b]? = some (.cells cs t (0, 0)) → (V.setCell ⟨b, i, none⟩ v).heap[b]? = some (.cells (cs.setIfInBounds i v) t (0, 0)) := by
    intro V cs i v hV
    obtain ⟨hlt, hk'⟩ := Array.getElem?_eq_some_iff.1 hV
    show (V.heap.modify b _)[b]? = _
    rw [Array.getElem?_eq_getElem (by rw [Array.size_modify]; exact hlt), Array.getElem_modify_self, hk']
    rfl
  refine ⟨?_, ?_, ?_⟩
  · exact one _ _ 2 _ (one _ _ 1 _ (one _ _ 0 _ h))
  · intro k hk
    rw [Below.heap_setCell _ _ _ _ hk, Below.heap_setCell _ _ _ _ hk, Below.heap_setCell _ _ _ _ hk]
  · have sz : ∀ (V : World) (i : Nat) (v : Value), (V.setCell ⟨b, i, none⟩ v).heap.size = V.heap.size := fun V i v => by
      show (V.heap.modify _ _).size = _
      rw [Array.size_modify]
    rw [sz, sz, sz]
/-- A sheet's three cells stored back. -/
theorem sh_back {W : World} {base sb bb : Nat} {vo va : Value} {O A : List UInt8} {t : Tr} {a : Option Addr} {e : Int} (hS : Sh W base sb bb vo va O A t a e) {t0 : Tr} {a0 : Option Addr} (e0 : Int) (ht : At W t0 a0) :
    Sh (((W.setCell ⟨sb, 0, none⟩ (.pointer (some ⟨bb, 0, none⟩))).setCell ⟨sb, 1, none⟩ (.pointer a0)).setCell ⟨sb, 2, none⟩ (.int .i64 e0)) base sb bb vo va O A t0 a0 e0 := by
  obtain ⟨s1, s2, _⟩ := set_three hS.here (.pointer (some ⟨bb, 0, none⟩)) (.pointer a0) (.int .i64 e0)
  refine ⟨hS.lo, s1, ⟨hS.buf.lo, (s2 bb (fun e => by have := hS.buf.here; rw [e, hS.here] at this; cases this)).trans hS.buf.here, ?_, ?_, hS.buf.apart⟩, ?_⟩
  · exact own_same hS.buf.orig fun k e hk => s2 k (fun e' => Ab.own_ne hS.buf.orig hS.here (by decide) (by rw [e, e']))
  · exact own_same hS.buf.added fun k e hk => s2 k (fun e' => Ab.own_ne hS.buf.added hS.here (by decide) (by rw [e, e']))
  · exact Nods.at (fun b cs hb => by rw [s2 b (fun e => by subst e; rw [hS.here] at hb; cases hb)]; exact hb) ht
theorem below_set3 {w0 W : World} {sb : Nat} {x y z x' y' z' : Value} {t : TypeId} (h : W.heap[sb]? = some (.cells #[x, y, z] t (0, 0))) (hb : Below w0.heap.size w0 W) (hs : w0.heap.size ≤ sb) : Below w0.heap.size w0 (((W.setCell ⟨sb, 0, none⟩ x').setCell ⟨sb, 1, none⟩ y').setCell ⟨sb, 2, none⟩ z') := by
  obtain ⟨_, s2, s3⟩ := set_three h x' y' z'
  exact ⟨hb.os, hb.tape, hb.output, by rw [s3]; exact hb.size, fun k hk => (s2 k (by omega)).trans (hb.block k hk)⟩

theorem takeOut_st {w W : World} {base sb bb : Nat} {vo va0 : Value} {O A T : List UInt8} {e : Int} (x k : Nat) (h : Live w W base sb bb vo va0 O A T e) (hz : T.length ≤ 1048574) (hx : x + k ≤ T.length) (he : 0 ≤ e ∧ e ≤ 4611686018427387904) :
    Calls Tryz.prog 68 #[.pointer (some ⟨sb, 0, none⟩), .int .i64 (x : Int), .int .i64 ((x + k : Nat) : Int)] W fun e' w' => (∃ r, e' = .returned r) ∧ Live w w' base sb bb vo va0 O A (T.take x ++ T.drop (x + k)) (if k = 0 then e else e + 1) ∧ Stay W w' sb := by
  obtain ⟨⟨va, t, a, h1, h2, h3, rfl, h5⟩, hc⟩ := h
  rcases Nat.eq_zero_or_pos k with rfl | hk
  · refine (takeOut_none _ _ W).mono ?_
    rintro e' w' ⟨hr, hb⟩
    refine ⟨hr, ?_, Stay.of_below hb sb⟩
    rw [if_pos rfl, Nat.add_zero, List.take_append_drop]
    exact ⟨⟨va, t, a, h1.keep hb, h2, h3, rfl, h5⟩, hc.below hb⟩
  · have hb := txt_len h3
    rw [← byt_list] at hb
    refine (takeOut_some sb bb vo va O A t a e base x (x + k : Nat) W h1 h2.1 h3 hz (by simp; omega) (by omega) (by omega) (by omega) he).mono ?_
    rintro e' w' ⟨hr, a', t', ho, hs, hch⟩
    obtain ⟨o1, o2, o3⟩ := ho.ok h2.1 h3 (by omega) (by omega)
    have hlen := ho.len
    have hlen2 := h2.2
    rw [if_neg (by omega)]
    exact ⟨hr, ⟨⟨va, t', a', hs, ⟨o1, by omega⟩, o2, o3, h5⟩, hc.trans hch h5⟩, Stay.of_chg h1 hch⟩

theorem putIn_st {w W : World} {base sb bb : Nat} {vo va0 : Value} {O A T : List UInt8} {e : Int} (x : Nat) (ao : Option Addr) (c : Nat) (l : List UInt8) (h : Live w W base sb bb vo va0 O A T e) (hz : T.length + l.length ≤ 1048575) (hA : A.length + l.length ≤ 1048576) (hx : x ≤ T.length) (he : 0 ≤ e ∧ e ≤ 4611686018427387904) (hv : Ab.Rd W (.slice ao l.length c) l) :
    Calls Tryz.prog 43 #[.pointer (some ⟨sb, 0, none⟩), .int .i64 (x : Int), .slice ao l.length c] W fun e' w' => (∃ r, e' = .returned r) ∧ Live w w' base sb bb vo va0 O (A ++ l) (T.take x ++ (l ++ T.drop x)) (if l.length = 0 then e else e + 1) ∧ Stay W w' sb := by
  obtain ⟨⟨va, t, a, h1, h2, h3, rfl, h5⟩, hc⟩ := h
  rcases Nat.eq_zero_or_pos l.length with hl | hl
  · obtain rfl : l = [] := List.length_eq_zero_iff.1 hl
    refine (putIn_none _ _ ao c W).mono ?_
    rintro e' w' ⟨hr, hb⟩
    refine ⟨hr, ?_, Stay.of_below hb sb⟩
    rw [if_pos hl, List.nil_append, List.take_append_drop, List.append_nil]
    exact ⟨⟨va, t, a, h1.keep hb, h2, h3, rfl, h5⟩, hc.below hb⟩
  · have hb := txt_len h3
    rw [← byt_list] at hb
    obtain ⟨ad, rfl⟩ : ∃ ad, ao = some ad := by
      rcases hv with ⟨hv, hn⟩ | ⟨ad, _, hv, _⟩
      · rw [hn] at hl; simp at hl
      · cases hv; exact ⟨ad, rfl⟩
    refine (putIn_some sb bb vo va O A t a e base ad c l x W h1 h2.1 h3 hz hA hv (by simp; intro h; subst h; simp at hl) (by omega) (by omega) he).mono ?_
    rintro e' w' ⟨hr, a', va', t', hp, hs, hch, ho⟩
    obtain ⟨o1, o2, o3⟩ := hp.ok h2.1 h3 (fun h => by subst h; simp at hl) hz hA
    have hlen := hp.len
    have hlen2 := h2.2
    rw [if_neg (by omega)]
    refine ⟨hr, ⟨⟨va', t', a', hs, ⟨o1, by omega⟩, o2, o3, ?_⟩, hc.trans hch h5⟩, Stay.of_chg h1 hch⟩
    rcases ho with ho | ⟨q, hq, hq2⟩
    · rw [ho]; exact h5
    · exact .inr ⟨q, hq, Nat.le_trans hc.size hq2⟩

/-- blocks besides the sheet's, and what they hold -/
def Kp (K : List (Nat × Obj)) (W : World) (sb bb : Nat) (va : Value) : Prop := ∀ p ∈ K, W.heap[p.1]? = some p.2 ∧ p.1 ≠ sb ∧ p.1 ≠ bb ∧ va.ownBlock ≠ some p.1
theorem heap_lt {W : World} {k : Nat} {o : Obj} (h : W.heap[k]? = some o) : k < W.heap.size := (Array.getElem?_eq_some_iff.1 h).1
theorem Kp.keep {K : List (Nat × Obj)} {W W' : World} {sb bb : Nat} {va : Value} (h : Kp K W sb bb va) (hb : Below W.heap.size W W') : Kp K W' sb bb va := fun p hp => by
  obtain ⟨h1, h2, h3, h4⟩ := h p hp
  exact ⟨(hb.block _ (heap_lt h1)).trans h1, h2, h3, h4⟩
theorem Kp.chg {K : List (Nat × Obj)} {w W : World} {sb bb : Nat} {va0 va : Value} (h : Kp K w sb bb va0) (hc : Chg w W sb bb va0.ownBlock) (h5 : va.ownBlock = va0.ownBlock ∨ ∃ k, va.ownBlock = some k ∧ w.heap.size ≤ k) : Kp K W sb bb va := fun p hp => by
  obtain ⟨h1, h2, h3, h4⟩ := h p hp
  have hlt := heap_lt h1
  refine ⟨(hc.block _ hlt h2 h3 (fun e => h4 e.symm)).trans h1, h2, h3, fun e => ?_⟩
  rcases h5 with h5 | ⟨k, h5, h6⟩
  · exact h4 (h5 ▸ e)
  · rw [h5] at e; cases e; omega
theorem Kp.set3 {K : List (Nat × Obj)} {W : World} {sb bb : Nat} {va : Value} (h : Kp K W sb bb va) (x y z : Value) : Kp K (((W.setCell ⟨sb, 0, none⟩ x).setCell ⟨sb, 1, none⟩ y).setCell ⟨sb, 2, none⟩ z) sb bb va := fun p hp => by
  obtain ⟨h1, h2, h3, h4⟩ := h p hp
  refine ⟨?_, h2, h3, h4⟩
  rw [Below.heap_setCell _ _ _ _ h2, Below.heap_setCell _ _ _ _ h2, Below.heap_setCell _ _ _ _ h2]
  exact h1
/-- A sheet as a law holds it: all that is its own lies above w0's memory. -/
structure Lz (K : List (Nat × Obj)) (w0 W : World) (sb : Nat) (O A T : List UInt8) (e : Int) : Prop where
  ex : ∃ bb vo va t a, Sh W w0.heap.size sb bb vo va O A t a e ∧ (Wn t e ∧ Kp K W sb bb va) ∧ Gds O A t.list ∧ txt O A t.list = T
  bel : Below w0.heap.size w0 W
theorem Lz.keep {K : List (Nat × Obj)} {w0 W W' : World} {sb : Nat} {O A T : List UInt8} {e : Int} (h : Lz K w0 W sb O A T e) (hb : Below W.heap.size W W') : Lz K w0 W' sb O A T e := by
  obtain ⟨⟨bb, vo, va, t, a, h1, h2, h3, h4⟩, hc⟩ := h
  exact ⟨⟨bb, vo, va, t, a, h1.keep hb, ⟨h2.1, h2.2.keep hb⟩, h3, h4⟩, bTl hc hb⟩
/-- Behind edits a sheet is one that a law holds. -/
theorem Live.lz {K : List (Nat × Obj)} {w0 w W : World} {sb bb : Nat} {vo va0 : Value} {O A A0 T : List UInt8} {e : Int} (h : Live w W w0.heap.size sb bb vo va0 O A T e) (hb : Below w0.heap.size w0 w) (hv : w.ownsRow w0.heap.size 5 1 va0 A0.length (Ab.bv A0)) (hK : Kp K w sb bb va0) : Lz K w0 W sb O A T e := by
  obtain ⟨⟨va, t, a, h1, h2, h3, h4, h5⟩, hc⟩ := h
  exact ⟨⟨bb, vo, va, t, a, h1, ⟨h2, hK.chg hc h5⟩, h3, h4⟩, Chg.below_of hb hb.size hc h1.lo h1.buf.lo (fun k hk => own_ge hv hk)⟩

/-- edits in memory -/
structure Eds (W : World) (ao : Option Addr) (es : List Ed) : Prop where
  cells : ∀ (i : Nat) (d : Ed), es[i]? = some d → ∃ g o a1 c1 a2 c2, ao = some ⟨g, o, none⟩ ∧ W.cell? ⟨g, o + i * 3, none⟩ = some (.int .i64 d.at') ∧ W.cell? ⟨g, o + i * 3 + 1, none⟩ = some (.slice a1 d.old.length c1) ∧ W.cell? ⟨g, o + i * 3 + 2, none⟩ = some (.slice a2 d.new.length c2) ∧ Ab.Rd W (.slice a1 d.old.length c1) d.old ∧ Ab.Rd W (.slice a2 d.new.length c2) d.new
theorem lt_cell {w : World} {a : Addr} {v : Value} (h : w.cell? a = some v) : a.block < w.heap.size := by
  rcases Nat.lt_or_ge a.block w.heap.size with h' | h'
  · exact h'
  · simp [World.cell?, Array.getElem?_eq_none h'] at h
theorem Eds.keep {W W' : World} {ao : Option Addr} {es : List Ed} (h : Eds W ao es) (hb : Below W.heap.size W W') : Eds W' ao es :=
  ⟨fun i d hd => by
    obtain ⟨g, o, a1, c1, a2, c2, h0, h1, h2, h3, h4, h5⟩ := h.cells i d hd
    exact ⟨g, o, a1, c1, a2, c2, h0, by rw [hb.cell (lt_cell h1)]; exact h1, by rw [hb.cell (lt_cell h2)]; exact h2, by rw [hb.cell (lt_cell h3)]; exact h3, h4.keep hb, h5.keep hb⟩⟩
/-- one block more that is none of the sheet's -/
theorem Lz.more {K : List (Nat × Obj)} {w0 W W' : World} {sb g : Nat} {o : Obj} {O A T : List UInt8} {e : Int} (h : Lz K w0 W sb O A T e) (hb : Below W.heap.size W W') (hg : W'.heap[g]? = some o) (hn : W.heap.size ≤ g ∨ g < w0.heap.size) : Lz ((g, o) :: K) w0 W' sb O A T e := by
  obtain ⟨⟨bb, vo, va, t, a, h1, h2, h3, h4⟩, hc⟩ := h
  have a1 := sh_lt h1.here
  have a2 := sh_lt h1.buf.here
  have b1 := h1.lo
  have b2 := h1.buf.lo
  refine ⟨⟨bb, vo, va, t, a, h1.keep hb, ⟨h2.1, fun p hp => ?_⟩, h3, h4⟩, bTl hc hb⟩
  rcases List.mem_cons.1 hp with rfl | hp
  · refine ⟨hg, fun e => ?_, fun e => ?_, fun e => ?_⟩
    · dsimp only at e; omega
    · dsimp only at e; omega
    · have := h1.buf.added.lt _ e
      dsimp only at this
      omega
  · exact (h2.2.keep hb) p hp
theorem Lz.less {K K' : List (Nat × Obj)} {w0 W : World} {sb : Nat} {O A T : List UInt8} {e : Int} (h : Lz K w0 W sb O A T e) (hs : ∀ p ∈ K', p ∈ K) : Lz K' w0 W sb O A T e := by
  obtain ⟨⟨bb, vo, va, t, a, h1, h2, h3, h4⟩, hc⟩ := h
  exact ⟨⟨bb, vo, va, t, a, h1, ⟨h2.1, fun p hp => h2.2 p (hs p hp)⟩, h3, h4⟩, hc⟩
theorem Lz.held {K : List (Nat × Obj)} {w0 W : World} {sb : Nat} {O A T : List UInt8} {e : Int} (h : Lz K w0 W sb O A T e) {p : Nat × Obj} (hp : p ∈ K) : W.heap[p.1]? = some p.2 := by
  obtain ⟨⟨bb, vo, va, t, a, h1, h2, h3, h4⟩, hc⟩ := h
  exact (h2.2 p hp).1
end Go.Proofs.YtmhpeppbhjpkiaaGreat

/- The contract of a sheet's Apply. -/
namespace Go.Proofs.YtmhpeppbhjpkiaaGreat
open Go.RowKit

variable {K : List (Nat × Obj)}

theorem nsum_drop {es : List Ed} {i : Nat} {d : Ed} (h : es[i]? = some d) : nsum (es.drop i) = d.new.length + nsum (es.drop (i + 1)) := by
  obtain ⟨hi, rfl⟩ := List.getElem?_eq_some_iff.1 h
  rw [List.drop_eq_getElem_cons hi]; rfl
theorem apT_drop {es : List Ed} {i : Nat} {d : Ed} (T : List UInt8) (h : es[i]? = some d) : apT T (es.drop i) = if edB T d then apT (edT T d) (es.drop (i + 1)) else none := by
  obtain ⟨hi, rfl⟩ := List.getElem?_eq_some_iff.1 h
  rw [List.drop_eq_getElem_cons hi]; rfl
/-- what Apply answers -/
def apE (o : Option (List UInt8)) : Ending := .returned (.int .i64 (if o.isSome then 0 else 170))
/-- the bytes that edits put in -/
def news : List Ed → List UInt8
  | [] => []
  | d :: ds => d.new ++ news ds

/-- what Apply leaves -/
def ApGave (K : List (Nat × Obj)) (w0 w' : World) (sb : Nat) (O A T : List UInt8) (e : Int) (es : List Ed) : Prop := match apT T es with
  | some T' => ∃ A' e2, Lz K w0 w' sb O A' T' e2 ∧ A'.length = A.length + nsum es ∧ e ≤ e2 ∧ e2 ≤ e + 2 * es.length
  | none => Lz K w0 w' sb O A T e
set_option maxHeartbeats 2000000 in
theorem Apply_any (w0 : World) (sb : Nat) (O A T : List UInt8) (e : Int) (ao : Option Addr) (c : Nat) (es : List Ed) (W : World) (hL : Lz K w0 W sb O A T e) (hE : Hid (Eds w0 ao es)) (hO : O.length ≤ 1048576) (hz : Hid (T.length + nsum es ≤ 1048574)) (hA : Hid (A.length + nsum es ≤ 1048576)) (hold : Hid (∀ d ∈ es, d.old.length ≤ 1048576)) (he : Hid (0 ≤ e ∧ e + 2 * es.length ≤ 4611686018427387904)) (hm : Hid (es.length ≤ 1048576)) :
    Calls Tryz.prog 37 #[.pointer (some ⟨sb, 0, none⟩), .slice ao es.length c] W fun e' w' => e' = apE (apT T es) ∧ ApGave K w0 w' sb O A T e es := by
  obtain ⟨⟨bb, vo, va, t, a, hS, hw, hg, hT⟩, hb0⟩ := hL
  have HS := hid hS
  have HW := hid hw.1
  have HK := hid hw.2
  have HG := hid hg
  have HT := hid hT
  have B0 := hid hb0
  clear hw hg hT hb0
  have HZ := hid (fun W' (hW : Below W.heap.size W W') => Ab.size_any (some ⟨bb, 0, none⟩) 1 O A w0.heap.size W' (hid (hS.keep hW).shb.buf))
  obtain ⟨c0, c1, c2, _, _, _⟩ := sh_cells hS.here
  have hlt : sb < W.heap.size := sh_lt hS.here
  have hmm : (es.length : Int) ≤ 1048576 := by have := hm.out; omega
  clear hS
  go_enter Tryz.func37, Tryz.ntmps37
  go_wp2_with fail
  go_region_held3 (fun w' => w'.cell? ⟨sb, 0, none⟩ = some (.pointer (some ⟨bb, 0, none⟩)) ∧ w'.cell? ⟨sb, 1, none⟩ = some (.pointer a) ∧ w'.cell? ⟨sb, 2, none⟩ = some (.int .i64 e)) (first | assumption | go_keep)
    (first | (go_at_call 70; refine (HZ.out _ (by first | exact (Below.refl _ _).drew | exact (bAlloc (Below.refl _ _) _).drew | exact ((((bAlloc (Below.refl _ _) _).setCell (Nat.le_refl _) _).setCell (Nat.le_refl _) _).setCell (Nat.le_refl _) _).drew)).mono ?_; rintro e9 w9 ⟨rfl, hw9⟩; have hq9 := hw9.symm; subst hq9; simp only [Ab.which]) | fail)
  all_goals
    obtain ⟨W1, hW1⟩ : ∃ X, X = (W.alloc (.cells #[.pointer (some ⟨bb, 0, none⟩), .pointer a, .int .i64 e] 55)).drew := ⟨_, rfl⟩
    have b1 : Below W.heap.size W W1 := by rw [hW1]; exact (bAlloc (Below.refl _ _) _).drew
    have hwas : W1.heap[W.heap.size]? = some (.cells #[.pointer (some ⟨bb, 0, none⟩), .pointer a, .int .i64 e] 55 (0, 0)) := by
      rw [hW1]
      show (W.heap.push _)[W.heap.size]? = _
      simp
    have HWAS := hid hwas
    have L1 := hid (show Live W W1 w0.heap.size sb bb vo va O (A ++ []) T e from (Live.keep ⟨⟨va, t, a, (by rw [List.append_nil]; exact HS.out), HW.out, (by rw [List.append_nil]; exact HG.out), (by rw [List.append_nil]; exact HT.out), .inl rfl⟩, Chg.of_below (Below.refl _ _) _ _ _⟩ b1))
    have BW1 := hid b1
    rw [← hW1]
    clear hW1 hwas b1 c0 c1 c2 HZ
    go_wp2_with fail
    go_loopw [21] (fun u wr => ∃ (i : Nat) (B T' : List UInt8) (e2 : Int), u = .int .i64 i ∧ i ≤ es.length ∧ Live W wr w0.heap.size sb bb vo va O (A ++ B) T' e2 ∧ apT T es = apT T' (es.drop i) ∧ T'.length + nsum (es.drop i) ≤ 1048574 ∧ B.length + nsum (es.drop i) = nsum es ∧ e ≤ e2 ∧ e2 ≤ e + 2 * i ∧ Stay W1 wr sb) (fun u _ => es.length - (intOf u).toNat)
    case atStart => exact ⟨0, [], T, e, rfl, Nat.zero_le _, L1.out, rfl, hz.out, by simp, Int.le_refl _, by simp, Stay.of_below (Below.refl _ _) _⟩
    case round =>
      obtain ⟨i, B, T', e2, rfl, hi, hL, hap, hT', hB', he1, he2, hst⟩ := hrel
      have HL := hid hL
      have HAP := hid hap
      have HST := hid hst
      have HBS := hid hB'
      clear hL hap hst hB'
      have hi0 : (0 : Int) ≤ (i : Int) := by omega
      have LZ := hid (HL.out.lz B0.out HS.out.buf.added HK.out)
      by_cases hlt' : i < es.length
      · obtain ⟨d, hd⟩ : ∃ d, es[i]? = some d := ⟨es[i], List.getElem?_eq_getElem hlt'⟩
        obtain ⟨g, o, a1, c1, a2, c2, rfl, z0, z1, z2, r1, r2⟩ := hE.out.cells i d hd
        have BZ := hid LZ.out.bel
        have hsz := HL.out.chg.size
        have x0 : wr.cell? ⟨g, o + i * 3, none⟩ = some (.int .i64 d.at') := by rw [BZ.out.cell (lt_cell z0)]; exact z0
        have x1 : wr.cell? ⟨g, o + i * 3 + 1, none⟩ = some (.slice a1 d.old.length c1) := by rw [BZ.out.cell (lt_cell z1)]; exact z1
        have x2 : wr.cell? ⟨g, o + i * 3 + 2, none⟩ = some (.slice a2 d.new.length c2) := by rw [BZ.out.cell (lt_cell z2)]; exact z2
        clear z0 z1 z2
        have HN := hid (nsum_drop hd)
        have HP := hid (apT_drop T' hd)
        have hod := hold.out d (List.mem_of_getElem? hd)
        have R1 := hid r1
        have R2 := hid r2
        clear r1 r2 hd
        have him : (i : Int) < (es.length : Int) := by omega
        have FT := hid (fun (X : Obj) => (show Calls Tryz.prog 71 #[.pointer (some ⟨sb, 0, none⟩), .agg #[.int .i64 d.at', .slice a1 d.old.length c1, .slice a2 d.new.length c2]] (wr.alloc X) fun e' w' => e' = .returned (.bool (edB T' d)) ∧ Below (wr.alloc X).heap.size (wr.alloc X) w' by
          obtain ⟨⟨va', t', a', h1, h2, h3, rfl, h5⟩, hc⟩ := HL.out
          exact fits_any sb bb vo va' O (A ++ B) t' a' e2 w0.heap.size d.at' a1 c1 d.old _ _ (h1.keep (bAlloc (Below.refl _ _) X)) h2.1 h3 (by have := HN.out; unfold Hid; omega) (hid ((R1.out.keep BZ.out).keep (bAlloc (Below.refl _ _) X))) (by omega)))
        go_wp2_with fail
        refine (FT.out _).mono ?_
        rintro e9 w2 ⟨rfl, hb2⟩
        have b2 := bTl (bAlloc (Below.refl wr.heap.size wr) _) hb2
        have hz2 : wr.heap.size < w2.heap.size := by have := hb2.size; simp at this; omega
        have HY := hid (show w2.heap[wr.heap.size]? = some (.cells #[.int .i64 d.at', .slice a1 d.old.length c1, .slice a2 d.new.length c2] 83 (0, 0)) by
          rw [hb2.block _ (by simp)]
          show (wr.heap.push _)[wr.heap.size]? = _
          simp)
        obtain ⟨y0, y1, y2⟩ := tri_cells HY.out
        have L2 := hid (HL.out.keep b2)
        have S2 := hid (HST.out.trans (Stay.of_below b2 sb))
        clear hb2 x0 x1 x2 LZ HL HST FT
        have B2 := hid b2
        clear b2
        cases hf : edB T' d with
        | true =>
          have hfit := of_decide_eq_true hf
          obtain ⟨x, hx⟩ : ∃ x : Nat, d.at' = x := ⟨d.at'.toNat, by omega⟩
          have hxl : x + d.old.length ≤ T'.length := by omega
          have HDL := hid (edT_len hf)
          have HPF := hid (show apT T es = apT (edT T' d) (es.drop (i + 1)) by rw [HAP.out, HP.out, hf]; rfl)
          have HXE := hid (show edT T' d = (T'.take x ++ T'.drop (x + d.old.length)).take x ++ (d.new ++ (T'.take x ++ T'.drop (x + d.old.length)).drop x) by
            unfold edT
            rw [hx, Int.toNat_natCast]
            have hk : (T'.take x).length = x := by rw [List.length_take]; omega
            rw [List.take_left' hk, List.drop_left' hk])
          rw [hx] at y0 HY
          clear hf hfit hx HP
          have hx1 : (x : Int) ≤ 1048576 := by omega
          have ho1 : (d.old.length : Int) ≤ 1048576 := by omega
          have hnn := HN.out
          have hbb := HBS.out
          have haa := hA.out
          go_wp2_with fail
          rw [show (x : Int) + (d.old.length : Int) = ((x + d.old.length : Nat) : Int) from by omega]
          refine (takeOut_st x d.old.length L2.out (by omega) hxl (by have := he.out; omega)).mono ?_
          rintro e9 w3 ⟨⟨r9, rfl⟩, hL3, hS3⟩
          have L3 := hid hL3
          have HE2 := hid (show 0 ≤ (if d.old.length = 0 then e2 else e2 + 1) ∧ e2 ≤ (if d.old.length = 0 then e2 else e2 + 1) ∧ (if d.old.length = 0 then e2 else e2 + 1) ≤ e2 + 1 by have := he.out; split <;> omega)
          have Y3 := hid (hS3 _ _ 83 (by decide) (by omega) HY.out)
          have S3 := hid (S2.out.trans hS3)
          have BZ3 := hid (L3.out.lz B0.out HS.out.buf.added HK.out).bel
          clear hL3 hS3 y0 y1 y2 L2 S2
          obtain ⟨y0, y1, y2⟩ := tri_cells Y3.out
          generalize (if d.old.length = 0 then e2 else e2 + 1) = e3 at L3 HE2
          have q1 : (T'.take x ++ T'.drop (x + d.old.length)).length = T'.length - d.old.length := by rw [List.length_append, List.length_take, List.length_drop]; omega
          have q2 : (A ++ B).length = A.length + B.length := List.length_append
          have q3 : 0 ≤ e3 ∧ e3 ≤ 4611686018427387904 := by have h1 := he.out; have h2 := HE2.out; omega
          have PT := hid (putIn_st x a2 c2 d.new L3.out (by rw [q1]; omega) (by rw [q2]; omega) (by rw [q1]; omega) q3 (R2.out.keep BZ3.out))
          clear q1 q2 q3
          go_wp2_with fail
          refine PT.out.mono ?_
          rintro e9 w4 ⟨⟨r8, rfl⟩, hL4, hS4⟩
          have HE3 := hid (show e3 ≤ (if d.new.length = 0 then e3 else e3 + 1) ∧ (if d.new.length = 0 then e3 else e3 + 1) ≤ e3 + 1 by split <;> omega)
          rw [← HXE.out, List.append_assoc] at hL4
          have L4 := hid hL4
          have S4 := hid (S3.out.trans hS4)
          clear hL4 hS4 y0 y1 y2 L3 S3
          generalize (if d.new.length = 0 then e3 else e3 + 1) = e4 at L4 HE3
          have hdl := HDL.out
          go_wp2
          go_roundw
          case rel => exact ⟨i + 1, B ++ d.new, edT T' d, e4, by go_num, by omega, L4.out, HPF.out, by omega, by rw [List.length_append]; omega, by have := HE2.out; have := HE3.out; omega, by have := HE2.out; have := HE3.out; omega, S4.out⟩
          case measure => first | (simp [intOf]; done) | (simp [intOf]; omega)
        | false =>
          have HF := hid (show apT T es = none by rw [HAP.out, HP.out, hf]; rfl)
          clear hf HP
          obtain ⟨⟨va2, t2, a2', k1, k2, k3, k4, k5⟩, kc⟩ := L2.out
          have KP := hid ((HK.out.chg kc k5).set3 (.pointer (some ⟨bb, 0, none⟩)) (.pointer a) (.int .i64 e))
          have K1 := hid k1
          have WAS := hid (S2.out _ _ 55 (by decide) (by omega) HWAS.out)
          have AT2 := hid (Stay.at (HS.out.keep BW1.out) S2.out (HS.out.keep BW1.out).tree)
          have BZ2 := hid (L2.out.lz B0.out HS.out.buf.added HK.out).bel
          have SB := hid (sh_back k1 e AT2.out)
          have BB := hid (fun x' y' z' => below_set3 (x' := x') (y' := y') (z' := z') k1.here BZ2.out k1.lo)
          obtain ⟨v0, v1, v2⟩ := tri_cells WAS.out
          obtain ⟨_, _, _, f0, f1, f2⟩ := sh_cells k1.here
          clear k1 k2 k3 k4 k5 kc y0 y1 y2
          go_wp2_with fail
          rcases Nat.eq_zero_or_pos B.length with hB0 | hB0
          · obtain rfl : B = [] := List.length_eq_zero_iff.1 hB0
            have SB' := SB.out
            rw [List.append_nil] at SB'
            refine (forget_same sb bb vo va2 O A t a e w0.heap.size _ SB').mono ?_
            rintro e9 w5 ⟨⟨r7, rfl⟩, hb5⟩
            have FIN := hid (show Lz K w0 w5 sb O A T e from Lz.keep ⟨⟨bb, vo, va2, t, a, SB', ⟨HW.out, KP.out⟩, HG.out, HT.out⟩, BB.out _ _ _⟩ hb5)
            clear SB' hb5
            go_wp2
            go_ret
            exact ⟨by rw [HF.out]; rfl, by unfold ApGave; rw [HF.out]; exact FIN.out⟩
          · have hbb := HBS.out
            have haa := hA.out
            refine (forget_more sb bb vo va2 O A B t a e w0.heap.size _ SB hO (by omega) hB0).mono ?_
            rintro e9 w5 ⟨⟨r7, rfl⟩, bb5, vo5, va5, s5, k1, k2, k3, k4, k5, k6, k7, k8⟩
            have bz := BB.out (.pointer (some ⟨bb, 0, none⟩)) (.pointer a) (.int .i64 e)
            have FIN := hid (show Lz K w0 w5 sb O A T e from ⟨⟨bb5, vo5, va5, t, a, s5, ⟨HW.out, fun p hp => by
              obtain ⟨p1, p2, p3, p4⟩ := KP.out p hp
              have pl := heap_lt p1
              exact ⟨(k8 _ pl p2).trans p1, p2, by omega, fun e => by have := k6 _ e; omega⟩⟩, HG.out, HT.out⟩, ⟨k1.trans bz.os, k2.trans bz.tape, k3.trans bz.output, Nat.le_trans bz.size k4, fun k hk => (k8 k (Nat.lt_of_lt_of_le hk bz.size) (by have := s5.lo; omega)).trans (bz.block k hk)⟩⟩)
            clear s5 k1 k2 k3 k4 k5 k6 k7 k8 bz
            go_wp2
            go_ret
            exact ⟨by rw [HF.out]; rfl, by unfold ApGave; rw [HF.out]; exact FIN.out⟩
      · obtain rfl : i = es.length := by omega
        have him : ¬ ((es.length : Int) < (es.length : Int)) := by omega
        have HF := hid (show apT T es = some T' by rw [HAP.out, List.drop_length]; rfl)
        have HBL : Hid (B.length = nsum es) := (by have := HBS.out; rw [List.drop_length] at this; unfold Hid; simpa [nsum] using this)
        go_wp2
        go_ret
        refine ⟨by rw [HF.out]; rfl, ?_⟩
        unfold ApGave
        rw [HF.out]
        exact ⟨A ++ B, e2, LZ.out, by rw [List.length_append, HBL.out], he1, he2⟩
end Go.Proofs.YtmhpeppbhjpkiaaGreat

