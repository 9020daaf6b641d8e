/- Putting bytes into a text in pieces: what it comes to. -/
import Derived.Test.YtpifjghhlcjedaaPutw
namespace Go.Proofs.Ytpifjghhlcjedaa
open Go.RowKit

theorem cutL_new (O A l : List UInt8) : Ab.cutL 1 (A.length : Int) (l.length : Int) O (A ++ l) = l := by
  simp [Ab.cutL, Ab.which]

/-- The new piece. -/
def newP (A l : List UInt8) : Pc := ⟨1, A.length, l.length, Ab.nl l⟩
theorem newP_good {O A l : List UInt8} (hl : l ≠ []) (hz : A.length + l.length ≤ 1048576) : Gd O (A ++ l) (newP A l) ∧ pcs O (A ++ l) (newP A l) = l := by
  have e : pcs O (A ++ l) (newP A l) = l := cutL_new O A l
  have h1 : 0 < l.length := List.length_pos_iff.2 hl
  have h2 := Ab.nl_le l
  refine ⟨⟨?_, ?_, by rw [e]; rfl⟩, e⟩
  · show (1 : Int) ≤ l.length ∧ (l.length : Int) ≤ 2147483647 ∧ (0 : Int) ≤ Ab.nl l ∧ (Ab.nl l : Int) ≤ l.length
    omega
  · exact Ab.hd_true (snd_true ⟨.inr rfl, by omega, by omega, by omega⟩) (show A.length + l.length ≤ (Ab.which 1 O (A ++ l)).length by simp [Ab.which])

/-- What a piece put to the end of a tree comes to. -/
theorem JoinR.ok {O A : List UInt8} {t T : Tr} {p q : Pc} {b : Bool} (h : JoinR t p T q b) (hw : t.whole) (hg : Gds O A t.list) (hp : Gd O A p) (hz : (txt O A t.list).length + (pcs O A p).length ≤ 1048576) :
    T.whole ∧ Gds O A T.list ∧ Gd O A q ∧ txt O A T.list ++ pcs O A q = txt O A t.list ++ pcs O A p ∧ T.size ≤ t.size := by
  rcases h with ⟨rfl, rfl, rfl, _⟩ | ⟨rfl, m, r, hm, hr, hj, rfl, rfl⟩
  · exact ⟨hw, hg, hp, rfl, Nat.le_refl _⟩
  · have s1 := Tr.splitT_whole t m hw.1
    have q1 := (Tr.splitT_list t m).1
    have z := t.size_list
    have hlt : m < t.list.length := (List.getElem?_eq_some_iff.1 hr).1
    have hsplit : t.list = t.list.take m ++ [r] := by
      conv => lhs; rw [← List.take_append_drop m t.list]
      rw [List.drop_eq_getElem_cons hlt, List.drop_eq_nil_of_le (by omega)]
      obtain ⟨_, e⟩ := List.getElem?_eq_some_iff.1 hr
      rw [e]
    have hrg := hg.at hr
    have et : txt O A t.list = txt O A (t.list.take m) ++ pcs O A r := by
      conv => lhs; rw [hsplit]
      rw [txt_append, txt_cons, txt_nil, List.append_nil]
    have l1 := hrg.len
    have l2 := hp.len
    rw [et, List.length_append] at hz
    obtain ⟨g1, g2⟩ := both_good hrg hp hj (by omega)
    have y := (Tr.splitT t m).1.size_list
    rw [q1, List.length_take] at y
    refine ⟨s1.1, by rw [q1]; exact hg.take m, g1, ?_, by omega⟩
    rw [q1, g2, et]
    simp

theorem put_pure {O A l : List UInt8} {t T U T' : Tr} {q : Pc} {b : Bool} {off : Int} (hcut : CutR O A t off T U) (hj : JoinR T (newP A l) T' q b) (hw : t.whole) (hg : Gds O A t.list) (hl : l ≠ []) (hz : (txt O A t.list).length + l.length ≤ 1048575) (hA : A.length + l.length ≤ 1048576) :
    T'.whole ∧ U.whole ∧ Gds O (A ++ l) (T'.list ++ q :: U.list) ∧ txt O (A ++ l) (T'.list ++ q :: U.list) = (txt O A t.list).take off.toNat ++ (l ++ (txt O A t.list).drop off.toNat) ∧ fineL (T'.list ++ q :: U.list) ∧ q.fit := by
  obtain ⟨c1, c2, c3, c4, c5, c6, c7⟩ := hcut.ok hw hg
  obtain ⟨n1, n2⟩ := newP_good (O := O) hl hA
  have hTl : (txt O (A ++ l) T.list).length ≤ (txt O A t.list).length := by rw [txt_more c3, c5, List.length_take]; omega
  obtain ⟨j1, j2, j3, j4, j5⟩ := hj.ok (O := O) c1 (c3.more l) n1 (by rw [n2]; omega)
  have hG : Gds O (A ++ l) (T'.list ++ q :: U.list) := j2.append (Gds.cons j3 (c4.more l))
  have e : txt O (A ++ l) (T'.list ++ q :: U.list) = (txt O A t.list).take off.toNat ++ (l ++ (txt O A t.list).drop off.toNat) := by
    rw [txt_append, txt_cons, ← List.append_assoc, j4, n2, txt_more c3, txt_more c4, c5, c6]
    simp
  refine ⟨j1, c2, hG, e, hG.fine ?_, j3.fit⟩
  rw [e]
  simp only [List.length_append, List.length_take, List.length_drop]
  omega

theorem Pw.start {w w9 : World} {base sb bb : Nat} {vo va : Value} {O A : List UInt8} {t T U : Tr} {x y a : Option Addr} {e : Int} (h : Sh w base sb bb vo va O A t a e) (hb : Below w.heap.size w w9) (hx : At w9 T x) (hy : At w9 U y) :
    Pw w ((w9.alloc (.cells #[.pointer x] 26)).alloc (.cells #[.pointer y] 26)) base sb bb w9.heap.size (w9.heap.size + 1) vo va va O A T U x y a e := by
  have hb2 := bAA w9 (.cells #[.pointer x] 26) (.cells #[.pointer y] 26)
  have hs := (h.keep hb).keep hb2
  exact ⟨(Chg.of_below hb _ _ _).below hb2, hs.here, hs.buf, .inl rfl, (Below.heap_alloc _ _ _ (by simp)).trans (World.alloc_heap_new w9 _), alloc2_here w9 _ _, hb.size, Nat.le_trans hb.size (Nat.le_succ _), by omega, hx.keep hb2, hy.keep hb2⟩

/-- Another block of a piece's cells turned: all lies on. -/
theorem Pw.other {w W W' : World} {base sb bb g6 g7 g8 : Nat} {vo va va0 : Value} {O A : List UInt8} {T U : Tr} {x y a : Option Addr} {e : Int} {cs : Array Value} (h : Pw w W base sb bb g6 g7 vo va va0 O A T U x y a e) (h8 : W.heap[g8]? = some (.cells cs 32 (0, 0))) (l8 : w.heap.size ≤ g8)
    (hs : W'.heap.size = W.heap.size) (hk : ∀ k, k ≠ g8 → W'.heap[k]? = W.heap[k]?) (ho : W'.os = W.os) (ht : W'.tape = W.tape) (hp : W'.output = W.output) : Pw w W' base sb bb g6 g7 vo va va0 O A T U x y a e := by
  have N : ∀ (k : Nat) (cs : Array Value) (t : Nat), W.heap[k]? = some (Obj.cells cs t (0, 0)) → t ≠ 32 → W'.heap[k]? = some (.cells cs t (0, 0)) := fun k cs t hk' htt =>
    (hk k (fun e => by subst e; rw [h8] at hk'; cases hk'; exact htt rfl)).trans hk'
  have NN : Nods W W' := fun b cs hb => N b cs _ hb (by decide)
  exact ⟨⟨ho.trans h.chg.os, ht.trans h.chg.tape, hp.trans h.chg.output, by rw [hs]; exact h.chg.size, fun k hk1 h1 h2 h3 => (hk k (by omega)).trans (h.chg.block k hk1 h1 h2 h3)⟩, N _ _ _ h.here (by decide),
    ⟨h.buf.lo, N _ _ _ h.buf.here (by decide), own_same h.buf.orig fun k e _ => hk k (fun e' => Ab.own_ne h.buf.orig h8 (by decide) (by rw [e, e'])), own_same h.buf.added fun k e _ => hk k (fun e' => Ab.own_ne h.buf.added h8 (by decide) (by rw [e, e'])), h.buf.apart⟩,
    h.own, N _ _ _ h.b6 (by decide), N _ _ _ h.b7 (by decide), h.l6, h.l7, h.n67, NN.at h.tx, NN.at h.uy⟩

theorem sh_set {W : World} {sb : Nat} {x y z : Value} (h : W.heap[sb]? = some (.cells #[x, y, z] 113 (0, 0))) (y' z' : Value) :
    ((W.setCell ⟨sb, 1, none⟩ y').setCell ⟨sb, 2, none⟩ z').heap[sb]? = some (.cells #[x, y', z'] 113 (0, 0)) ∧ ∀ k, k ≠ sb → ((W.setCell ⟨sb, 1, none⟩ y').setCell ⟨sb, 2, none⟩ z').heap[k]? = W.heap[k]? := by
  have one : ∀ (V : World) (cs : Array Value) (i : Nat) (v : Value), V.heap[sb]? = some (.cells cs 113 (0, 0)) → (V.setCell ⟨sb, i, none⟩ v).heap[sb]? = some (.cells (cs.setIfInBounds i v) 113 (0, 0)) := by
    intro V cs i v hV
    obtain ⟨hlt, hk'⟩ := Array.getElem?_eq_some_iff.1 hV
    show (V.heap.modify sb _)[sb]? = _
    rw [Array.getElem?_eq_getElem (by rw [Array.size_modify]; exact hlt), Array.getElem_modify_self, hk']
    rfl
  refine ⟨one _ _ 2 _ (one _ _ 1 _ h), fun k hk => ?_⟩
  rw [Below.heap_setCell _ _ _ _ hk, Below.heap_setCell _ _ _ _ hk]

/-- The sheet's tree and number of edits stored. -/
theorem Pw.fin {w W : World} {base sb bb g6 g7 : Nat} {vo va va0 : Value} {O A : List UInt8} {T U t' : Tr} {x y a a' : Option Addr} {e e' : Int} (h : Pw w W base sb bb g6 g7 vo va va0 O A T U x y a e) (hlo : base ≤ sb) (ht : At W t' a') :
    Sh ((W.setCell ⟨sb, 1, none⟩ (.pointer a')).setCell ⟨sb, 2, none⟩ (.int .i64 e')) base sb bb vo va O A t' a' e' ∧ Chg w ((W.setCell ⟨sb, 1, none⟩ (.pointer a')).setCell ⟨sb, 2, none⟩ (.int .i64 e')) sb bb va0.ownBlock := by
  obtain ⟨s1, s2⟩ := sh_set h.here (.pointer a') (.int .i64 e')
  have N : ∀ (k : Nat) (cs : Array Value) (t : Nat), W.heap[k]? = some (Obj.cells cs t (0, 0)) → t ≠ 113 → ((W.setCell ⟨sb, 1, none⟩ (.pointer a')).setCell ⟨sb, 2, none⟩ (.int .i64 e')).heap[k]? = some (.cells cs t (0, 0)) := fun k cs t hk htt =>
    (s2 k (fun e => by subst e; rw [h.here] at hk; cases hk; exact htt rfl)).trans hk
  have NN : Nods W ((W.setCell ⟨sb, 1, none⟩ (.pointer a')).setCell ⟨sb, 2, none⟩ (.int .i64 e')) := fun b cs hb => N b cs _ hb (by decide)
  refine ⟨⟨hlo, s1, ⟨h.buf.lo, N _ _ _ h.buf.here (by decide), ?_, ?_, h.buf.apart⟩, NN.at ht⟩, (h.chg.set (.inl rfl) _ _).set (.inl rfl) _ _⟩
  · exact own_same h.buf.orig fun k e hk => s2 k (fun e' => Ab.own_ne h.buf.orig h.here (by decide) (by rw [e, e']))
  · exact own_same h.buf.added fun k e hk => s2 k (fun e' => Ab.own_ne h.buf.added h.here (by decide) (by rw [e, e']))

end Go.Proofs.Ytpifjghhlcjedaa
