/- Putting bytes into a text in pieces: what it comes to. -/
import Derived.Test.YtmhpeppbhjpkiaaGreatPm13
namespace Go.Proofs.YtmhpeppbhjpkiaaGreat
open Go.RowKit

theorem cutL_new (O A l : List UInt8) : Ab.cutL 1 (A.length : Int) (l.length : Int) O (A ++ l) = l := by
  simp [Ab.cutL, Ab.which]

/-- The new piece. -/
def newP (A l : List UInt8) : Pc := ⟨1, A.length, l.length, Ab.nl l⟩
theorem newP_good {O A l : List UInt8} (hl : l ≠ []) (hz : A.length + l.length ≤ 1048576) : Gd O (A ++ l) (newP A l) ∧ pcs O (A ++ l) (newP A l) = l := by
  have e : pcs O (A ++ l) (newP A l) = l := cutL_new O A l
  have h1 : 0 < l.length := List.length_pos_iff.2 hl
  have h2 := Ab.nl_le l
  refine ⟨⟨?_, ?_, by rw [e]; rfl⟩, e⟩
  · show (1 : Int) ≤ l.length ∧ (l.length : Int) ≤ 2147483647 ∧ (0 : Int) ≤ Ab.nl l ∧ (Ab.nl l : Int) ≤ l.length
    omega
  · exact Ab.hd_true (snd_true ⟨.inr rfl, by omega, by omega, by omega⟩) (show A.length + l.length ≤ (Ab.which 1 O (A ++ l)).length by simp [Ab.which])

/-- What a piece put to the end of a tree comes to. -/
theorem JoinR.ok {O A : List UInt8} {t T : Tr} {p q : Pc} {b : Bool} (h : JoinR t p T q b) (hw : t.whole) (hg : Gds O A t.list) (hp : Gd O A p) (hz : (txt O A t.list).length + (pcs O A p).length ≤ 1048576) :
    T.whole ∧ Gds O A T.list ∧ Gd O A q ∧ txt O A T.list ++ pcs O A q = txt O A t.list ++ pcs O A p ∧ T.size ≤ t.size := by
  rcases h with ⟨rfl, rfl, rfl, _⟩ | ⟨rfl, m, r, hm, hr, hj, rfl, rfl⟩
  · exact ⟨hw, hg, hp, rfl, Nat.le_refl _⟩
  · have s1 := Tr.splitT_whole t m hw.1
    have q1 := (Tr.splitT_list t m).1
    have z := t.size_list
    have hlt : m < t.list.length := (List.getElem?_eq_some_iff.1 hr).1
    have hsplit : t.list = t.list.take m ++ [r] := by
      conv => lhs; rw [← List.take_append_drop m t.list]
      rw [List.drop_eq_getElem_cons hlt, List.drop_eq_nil_of_le (by omega)]
      obtain ⟨_, e⟩ := List.getElem?_eq_some_iff.1 hr
      rw [e]
    have hrg := hg.at hr
    have et : txt O A t.list = txt O A (t.list.take m) ++ pcs O A r := by
      conv => lhs; rw [hsplit]
      rw [txt_append, txt_cons, txt_nil, List.append_nil]
    have l1 := hrg.len
    have l2 := hp.len
    rw [et, List.length_append] at hz
    obtain ⟨g1, g2⟩ := both_good hrg hp hj (by omega)
    have y := (Tr.splitT t m).1.size_list
    rw [q1, List.length_take] at y
    refine ⟨s1.1, by rw [q1]; exact hg.take m, g1, ?_, by omega⟩
    rw [q1, g2, et]
    simp

theorem put_pure {O A l : List UInt8} {t T U T' : Tr} {q : Pc} {b : Bool} {off : Int} (hcut : CutR O A t off T U) (hj : JoinR T (newP A l) T' q b) (hw : t.whole) (hg : Gds O A t.list) (hl : l ≠ []) (hz : (txt O A t.list).length + l.length ≤ 1048575) (hA : A.length + l.length ≤ 1048576) :
    T'.whole ∧ U.whole ∧ Gds O (A ++ l) (T'.list ++ q :: U.list) ∧ txt O (A ++ l) (T'.list ++ q :: U.list) = (txt O A t.list).take off.toNat ++ (l ++ (txt O A t.list).drop off.toNat) ∧ fineL (T'.list ++ q :: U.list) ∧ q.fit := by
  obtain ⟨c1, c2, c3, c4, c5, c6, c7⟩ := hcut.ok hw hg
  obtain ⟨n1, n2⟩ := newP_good (O := O) hl hA
  have hTl : (txt O (A ++ l) T.list).length ≤ (txt O A t.list).length := by rw [txt_more c3, c5, List.length_take]; omega
  obtain ⟨j1, j2, j3, j4, j5⟩ := hj.ok (O := O) c1 (c3.more l) n1 (by rw [n2]; omega)
  have hG : Gds O (A ++ l) (T'.list ++ q :: U.list) := j2.append (Gds.cons j3 (c4.more l))
  have e : txt O (A ++ l) (T'.list ++ q :: U.list) = (txt O A t.list).take off.toNat ++ (l ++ (txt O A t.list).drop off.toNat) := by
    rw [txt_append, txt_cons, ← List.append_assoc, j4, n2, txt_more c3, txt_more c4, c5, c6]
    simp
  refine ⟨j1, c2, hG, e, hG.fine ?_, j3.fit⟩
  rw [e]
  simp only [List.length_append, List.length_take, List.length_drop]
  omega

theorem Pw.start {w w9 : World} {base sb bb : Nat} {vo va : Value} {O A : List UInt8} {t T U : Tr} {x y a : Option Addr} {e : Int} (h : Sh w base sb bb vo va O A t a e) (hb : Below w.heap.size w w9) (hx : At w9 T x) (hy : At w9 U y) :
    Pw w ((w9.alloc (.cells #[.pointer x] 53)).alloc (.cells #[.pointer y] 53)) base sb bb w9.heap.size (w9.heap.size + 1) vo va va O A T U x y a e := by
  have hb2 := bAA w9 (.cells #[.pointer x] 53) (.cells #[.pointer y] 53)
  have hs := (h.keep hb).keep hb2
  exact ⟨(Chg.of_below hb _ _ _).below hb2, hs.here, hs.buf, .inl rfl, (Below.heap_alloc _ _ _ (by simp)).trans (World.alloc_heap_new w9 _), alloc2_here w9 _ _, hb.size, Nat.le_trans hb.size (Nat.le_succ _), by omega, hx.keep hb2, hy.keep hb2⟩

/-- Another block of a piece's cells turned: all lies on. -/
theorem Pw.other {w W W' : World} {base sb bb g6 g7 g8 : Nat} {vo va va0 : Value} {O A : List UInt8} {T U : Tr} {x y a : Option Addr} {e : Int} {cs : Array Value} (h : Pw w W base sb bb g6 g7 vo va va0 O A T U x y a e) (h8 : W.heap[g8]? = some (.cells cs 59 (0, 0))) (l8 : w.heap.size ≤ g8)
    (hs : W'.heap.size = W.heap.size) (hk : ∀ k, k ≠ g8 → W'.heap[k]? = W.heap[k]?) (ho : W'.os = W.os) (ht : W'.tape = W.tape) (hp : W'.output = W.output) : Pw w W' base sb bb g6 g7 vo va va0 O A T U x y a e := by
  have N : ∀ (k : Nat) (cs : Array Value) (t : Nat), W.heap[k]? = some (Obj.cells cs t (0, 0)) → t ≠ 59 → W'.heap[k]? = some (.cells cs t (0, 0)) := fun k cs t hk' htt =>
    (hk k (fun e => by subst e; rw [h8] at hk'; cases hk'; exact htt rfl)).trans hk'
  have NN : Nods W W' := fun b cs hb => N b cs _ hb (by decide)
  exact ⟨⟨ho.trans h.chg.os, ht.trans h.chg.tape, hp.trans h.chg.output, by rw [hs]; exact h.chg.size, fun k hk1 h1 h2 h3 => (hk k (by omega)).trans (h.chg.block k hk1 h1 h2 h3)⟩, N _ _ _ h.here (by decide),
    ⟨h.buf.lo, N _ _ _ h.buf.here (by decide), own_same h.buf.orig fun k e _ => hk k (fun e' => Ab.own_ne h.buf.orig h8 (by decide) (by rw [e, e'])), own_same h.buf.added fun k e _ => hk k (fun e' => Ab.own_ne h.buf.added h8 (by decide) (by rw [e, e'])), h.buf.apart⟩,
    h.own, N _ _ _ h.b6 (by decide), N _ _ _ h.b7 (by decide), h.l6, h.l7, h.n67, NN.at h.tx, NN.at h.uy⟩

theorem sh_set {W : World} {sb : Nat} {x y z : Value} (h : W.heap[sb]? = some (.cells #[x, y, z] 55 (0, 0))) (y' z' : Value) :
    ((W.setCell ⟨sb, 1, none⟩ y').setCell ⟨sb, 2, none⟩ z').heap[sb]? = some (.cells #[x, y', z'] 55 (0, 0)) ∧ ∀ k, k ≠ sb → ((W.setCell ⟨sb, 1, none⟩ y').setCell ⟨sb, 2, none⟩ z').heap[k]? = W.heap[k]? := by
  have one : ∀ (V : World) (cs : Array Value) (i : Nat) (v : Value), V.heap[sb]? = some (.cells cs 55 (0, 0)) → (V.setCell ⟨sb, i, none⟩ v).heap[sb]? = some (.cells (cs.setIfInBounds i v) 55 (0, 0)) := by
    intro V cs i v hV
    obtain ⟨hlt, hk'⟩ := Array.getElem?_eq_some_iff.1 hV
    show (V.heap.modify sb _)[sb]? = _
    rw [Array.getElem?_eq_getElem (by rw [Array.size_modify]; exact hlt), Array.getElem_modify_self, hk']
    rfl
  refine ⟨one _ _ 2 _ (one _ _ 1 _ h), fun k hk => ?_⟩
  rw [Below.heap_setCell _ _ _ _ hk, Below.heap_setCell _ _ _ _ hk]

/-- The sheet's tree and number of edits stored. -/
theorem Pw.fin {w W : World} {base sb bb g6 g7 : Nat} {vo va va0 : Value} {O A : List UInt8} {T U t' : Tr} {x y a a' : Option Addr} {e e' : Int} (h : Pw w W base sb bb g6 g7 vo va va0 O A T U x y a e) (hlo : base ≤ sb) (ht : At W t' a') :
    Sh ((W.setCell ⟨sb, 1, none⟩ (.pointer a')).setCell ⟨sb, 2, none⟩ (.int .i64 e')) base sb bb vo va O A t' a' e' ∧ Chg w ((W.setCell ⟨sb, 1, none⟩ (.pointer a')).setCell ⟨sb, 2, none⟩ (.int .i64 e')) sb bb va0.ownBlock := by
  obtain ⟨s1, s2⟩ := sh_set h.here (.pointer a') (.int .i64 e')
  have N : ∀ (k : Nat) (cs : Array Value) (t : Nat), W.heap[k]? = some (Obj.cells cs t (0, 0)) → t ≠ 55 → ((W.setCell ⟨sb, 1, none⟩ (.pointer a')).setCell ⟨sb, 2, none⟩ (.int .i64 e')).heap[k]? = some (.cells cs t (0, 0)) := fun k cs t hk htt =>
    (s2 k (fun e => by subst e; rw [h.here] at hk; cases hk; exact htt rfl)).trans hk
  have NN : Nods W ((W.setCell ⟨sb, 1, none⟩ (.pointer a')).setCell ⟨sb, 2, none⟩ (.int .i64 e')) := fun b cs hb => N b cs _ hb (by decide)
  refine ⟨⟨hlo, s1, ⟨h.buf.lo, N _ _ _ h.buf.here (by decide), ?_, ?_, h.buf.apart⟩, NN.at ht⟩, (h.chg.set (.inl rfl) _ _).set (.inl rfl) _ _⟩
  · exact own_same h.buf.orig fun k e hk => s2 k (fun e' => Ab.own_ne h.buf.orig h.here (by decide) (by rw [e, e']))
  · exact own_same h.buf.added fun k e hk => s2 k (fun e' => Ab.own_ne h.buf.added h.here (by decide) (by rw [e, e']))

end Go.Proofs.YtmhpeppbhjpkiaaGreat

/- A sheet's meet: two trees put together, the pieces that meet joined if they join. -/
namespace Go.Proofs.YtmhpeppbhjpkiaaGreat
open Go.RowKit

/-- How two trees meet. -/
def MeetR (L R t : Tr) : Prop :=
  (R.size = 0 ∧ t = Tr.gluT L R) ∨
  (∃ p T q b, R.list[0]? = some p ∧ JoinR L p T q b ∧ ((b = false ∧ t = Tr.gluT L R) ∨ (b = true ∧ t = Tr.joinT T q (Tr.splitT R 1).2)))

/-- meet's own variables behind w. -/
structure Mw (w W : World) (la ra : Option Addr) : Prop where
  below : Below w.heap.size w W
  b0 : W.heap[w.heap.size]? = some (.cells #[.pointer la] 53 (0, 0))
  b1 : W.heap[w.heap.size + 1]? = some (.cells #[.pointer ra] 53 (0, 0))
  b2 : W.heap[w.heap.size + 1 + 1]? = some (.cells #[.pointer none] 53 (0, 0))
theorem Mw.call {w W W' : World} {la ra : Option Addr} (h : Mw w W la ra) (hb : Below W.heap.size W W') : Mw w W' la ra :=
  ⟨h.below.trans (hb.mono h.below.size), (hb.block _ (sh_lt h.b0)).trans h.b0, (hb.block _ (sh_lt h.b1)).trans h.b1, (hb.block _ (sh_lt h.b2)).trans h.b2⟩
theorem Mw.cells {w W : World} {la ra : Option Addr} (h : Mw w W la ra) :
    W.cell? ⟨w.heap.size, 0, none⟩ = some (.pointer la) ∧ (W.cell? ⟨w.heap.size + 1, 0, none⟩ = some (.pointer ra) ∧ W.frozen? ⟨w.heap.size + 1, 0, none⟩ = false) ∧ (W.cell? ⟨w.heap.size + 1 + 1, 0, none⟩ = some (.pointer none) ∧ W.frozen? ⟨w.heap.size + 1 + 1, 0, none⟩ = false) := ⟨(box_cell h.b0).1, box_cell h.b1, box_cell h.b2⟩
theorem Mw.set1 {w W : World} {la ra : Option Addr} (h : Mw w W la ra) (r' : Option Addr) : Mw w (W.setCell ⟨w.heap.size + 1, 0, none⟩ (.pointer r')) la r' ∧ Nods W (W.setCell ⟨w.heap.size + 1, 0, none⟩ (.pointer r')) :=
  ⟨⟨bset h.below (by omega) _ _, (Below.heap_setCell _ _ _ _ (by simp)).trans h.b0, box_set h.b1 _, (Below.heap_setCell _ _ _ _ (by simp)).trans h.b2⟩, fun b cs hb => by
    by_cases e : b = w.heap.size + 1
    · subst e; rw [h.b1] at hb; cases hb
    · exact (Below.heap_setCell _ _ _ _ e).trans hb⟩
theorem Mw.fin {w W : World} {la ra x : Option Addr} {T : Tr} (h : Mw w W la ra) (hT : At W T x) : At (W.setCell ⟨w.heap.size + 1 + 1, 0, none⟩ (.pointer x)) T x ∧ Below w.heap.size w (W.setCell ⟨w.heap.size + 1 + 1, 0, none⟩ (.pointer x)) :=
  ⟨Nods.at (w := W) (fun b cs hb => by
    by_cases e : b = w.heap.size + 1 + 1
    · subst e; rw [h.b2] at hb; cases hb
    · exact (Below.heap_setCell _ _ _ _ e).trans hb) hT, bset h.below (by omega) _ _⟩

def MeetGave (w : World) (t : Tr) (e : Ending) (w' : World) : Prop := ∃ x, e = .returned (.agg #[.pointer x]) ∧ At w' t x ∧ Below w.heap.size w w'

set_option maxHeartbeats 2000000 in
/-- The right tree has no pieces. -/
theorem meet_nil (L R : Tr) (la ra : Option Addr) (w : World) (hL : Hid (At w L la)) (hR : Hid (At w R ra)) (h0 : Hid (R.size = 0)) (wl : Hid L.whole) (wr : Hid R.whole) (fl : Hid L.fine) (hz : Hid (fineL (L.list ++ R.list))) :
    Calls Tryz.prog 114 #[.agg #[.pointer la], .agg #[.pointer ra]] w (MeetGave w (Tr.gluT L R)) := by
  have hM : Mw w (((w.alloc (.cells #[.pointer la] 53)).alloc (.cells #[.pointer ra] 53)).alloc (.cells #[.pointer none] 53)) la ra :=
    ⟨bAAA w _ _ _, ((Below.heap_alloc _ _ _ (by simp; omega)).trans (Below.heap_alloc _ _ _ (by simp))).trans (World.alloc_heap_new w _), (Below.heap_alloc _ _ _ (by simp)).trans (alloc2_here w _ _), alloc3_here w _ _ _⟩
  obtain ⟨W0, hW0⟩ : ∃ W0, ((w.alloc (.cells #[.pointer la] 53)).alloc (.cells #[.pointer ra] 53)).alloc (.cells #[.pointer none] 53) = W0 := ⟨_, rfl⟩
  rw [hW0] at hM
  obtain ⟨c0, ⟨c1, f1⟩, ⟨c2, f2⟩⟩ := hM.cells
  have HM := hid hM
  clear hM
  have HG := hid (fun W (hW : At W R ra) => Get_no R ra 0 W (by rw [h0.out]; simp) hW)
  have HJ := hid (fun W (hW : At W L la) => joinLast_any L la ⟨0, 0, 0, 0⟩ W hW fl.out wl.out (by simp) (by simp) ⟨by simp, by simp⟩)
  simp only [Pc.v] at HJ
  have HU := hid (fun W (h1 : At W L la) (h2 : At W R ra) => Join_glue L R la ra 0 0 0 0 W (by decide) hz wl wr h1 h2)
  go_enter Tryz.func114, Tryz.ntmps114
  go_wp2_with (first
    | (go_at_call 60; refine (HG.out _ (hR.out.keep HM.out.below)).mono ?_; rintro e w9 ⟨rfl, hb9⟩; have M9 := hid ((HM.out.call hb9).call (bAlloc (Below.refl _ _) (.cells #[.int .i64 0, .int .i64 0, .int .i64 0, .int .i64 0] 59))); clear c0 c1 f1 c2 f2 hb9 hW0; obtain ⟨c0, ⟨c1, f1⟩, ⟨c2, f2⟩⟩ := M9.out.cells)
    | (go_at_call 75; refine (HJ.out _ (hL.out.keep M9.out.below)).mono ?_; rintro e w8 ⟨T, ⟨qs, qo, ql, qn⟩, b, hjr, x8, rfl, hx8, hb8⟩; simp only [Pc.v]; have M8 := hid ((M9.out.call hb8).call (bAA w8 (.cells #[.pointer x8] 53) (.cells #[.int .i64 qs, .int .i64 qo, .int .i64 ql, .int .i64 qn] 59))); clear c0 c1 f1 c2 f2 hb8 hx8 hjr; obtain ⟨c0, ⟨c1, f1⟩, ⟨c2, f2⟩⟩ := M8.out.cells)
    | (go_at_call 20; refine (HU.out _ (hL.out.keep M8.out.below) (hR.out.keep M8.out.below)).mono ?_; rintro e w7 ⟨x7, rfl, hx7, hb7⟩; have M7 := hid (M8.out.call hb7); have X7 := hid hx7; clear c0 c1 f1 c2 f2 hb7 hx7; obtain ⟨c0, ⟨c1, f1⟩, ⟨c2, f2⟩⟩ := M7.out.cells))
  obtain ⟨F1, F2⟩ := M7.out.fin X7.out
  exact bodyPost_ret (v := .agg #[.pointer x7]) (by simp [results, Tryz.results114, go_sem, c2]) rfl ⟨x7, rfl, F1, F2⟩

/-- The first piece of a list taken off. -/
theorem txt_first {O A : List UInt8} {R : Tr} {p : Pc} (hp : R.list[0]? = some p) : R.list = p :: (Tr.splitT R 1).2.list ∧ txt O A R.list = pcs O A p ++ txt O A (Tr.splitT R 1).2.list := by
  have q := (Tr.splitT_list R 1).2
  have e : R.list = p :: R.list.drop 1 := by
    cases hl : R.list with
    | nil => rw [hl] at hp; cases hp
    | cons a l => rw [hl] at hp; simp at hp; rw [hp]; rfl
  refine ⟨by rw [q]; exact e, ?_⟩
  rw [q]
  conv => lhs; rw [e]
  rw [txt_cons]

/-- What comes of trees that meet. -/
theorem MeetR.ok {O A : List UInt8} {L R t : Tr} (h : MeetR L R t) (wl : L.whole) (wr : R.whole) (gl : Gds O A L.list) (gr : Gds O A R.list) (hz : (txt O A L.list).length + (txt O A R.list).length ≤ 1048576) :
    t.whole ∧ Gds O A t.list ∧ txt O A t.list = txt O A L.list ++ txt O A R.list := by
  have glue : (Tr.gluT L R).whole ∧ Gds O A (Tr.gluT L R).list ∧ txt O A (Tr.gluT L R).list = txt O A L.list ++ txt O A R.list := by
    rw [Tr.gluT_list]
    exact ⟨Tr.gluT_whole wl wr, gl.append gr, txt_append _ _ _ _⟩
  rcases h with ⟨_, rfl⟩ | ⟨p, T, q, b, hp, hj, ⟨_, rfl⟩ | ⟨_, rfl⟩⟩
  · exact glue
  · exact glue
  · obtain ⟨e1, e2⟩ := txt_first (O := O) (A := A) hp
    have hpg := gr.at hp
    rw [e2, List.length_append] at hz
    obtain ⟨j1, j2, j3, j4, j5⟩ := hj.ok wl gl hpg (by omega)
    rw [Tr.joinT_list]
    have g3 : Gds O A (Tr.splitT R 1).2.list := fun x hx => gr x (by rw [e1]; simp [hx])
    refine ⟨Tr.joinT_whole _ j1 (Tr.splitT_whole R 1 wr.1).2, j2.append (Gds.cons j3 g3), ?_⟩
    rw [txt_append, txt_cons, ← List.append_assoc, j4, e2, List.append_assoc]

set_option maxHeartbeats 4000000 in
/-- The right tree has a first piece. -/
theorem meet_some (O A : List UInt8) (L R : Tr) (la ra : Option Addr) (ps po pl pn : Int) (w : World) (hL : Hid (At w L la)) (hR : Hid (At w R ra)) (hp : Hid (R.list[0]? = some ⟨ps, po, pl, pn⟩)) (wl : Hid L.whole) (wr : Hid R.whole) (gl : Hid (Gds O A L.list)) (gr : Hid (Gds O A R.list)) (hz : Hid ((txt O A L.list).length + (txt O A R.list).length ≤ 1048576)) :
    Calls Tryz.prog 114 #[.agg #[.pointer la], .agg #[.pointer ra]] w fun e w' => ∃ t, MeetR L R t ∧ MeetGave w t e w' := by
  have hM : Mw w (((w.alloc (.cells #[.pointer la] 53)).alloc (.cells #[.pointer ra] 53)).alloc (.cells #[.pointer none] 53)) la ra :=
    ⟨bAAA w _ _ _, ((Below.heap_alloc _ _ _ (by simp; omega)).trans (Below.heap_alloc _ _ _ (by simp))).trans (World.alloc_heap_new w _), (Below.heap_alloc _ _ _ (by simp)).trans (alloc2_here w _ _), alloc3_here w _ _ _⟩
  obtain ⟨W0, hW0⟩ : ∃ W0, ((w.alloc (.cells #[.pointer la] 53)).alloc (.cells #[.pointer ra] 53)).alloc (.cells #[.pointer none] 53) = W0 := ⟨_, rfl⟩
  rw [hW0] at hM
  obtain ⟨c0, ⟨c1, f1⟩, ⟨c2, f2⟩⟩ := hM.cells
  have HM := hid hM
  clear hM
  have hrs : 0 < R.size := by rw [← R.size_list]; have := (List.getElem?_eq_some_iff.1 hp.out).1; omega
  have fl : L.fine := (Tr.fine_list L).2 (gl.out.fine (by have := hz.out; omega))
  have fr : R.fine := (Tr.fine_list R).2 (gr.out.fine (by have := hz.out; omega))
  have hpf := (gr.out.at hp.out).fit
  simp only [Pc.fit] at hpf
  have HG : Hid (∀ W, At W R ra → Calls Tryz.prog 60 #[.agg #[.pointer ra], .int .i64 0] W fun e w' => e = .returned (.tuple #[.agg #[.int .i64 ps, .int .i64 po, .int .i64 pl, .int .i64 pn], .int .i64 0]) ∧ Below W.heap.size W w') := fun W hW =>
    (Get_yes R ra 0 W hrs fr.2 hW).mono fun e w' ⟨s1, o1, n1, k1, h1, h2, h3⟩ => by
      rw [hp.out] at h1
      cases h1
      exact ⟨h2, h3⟩
  have HJ := hid (fun W (hW : At W L la) => joinLast_any L la ⟨ps, po, pl, pn⟩ W hW fl wl.out (by simp only; omega) (by simp only; omega) ⟨by simp only; omega, by simp only; omega⟩)
  simp only [Pc.v] at HJ
  have HU := hid (fun W (h1 : At W L la) (h2 : At W R ra) => Join_glue L R la ra 0 0 0 0 W (by decide) (hid (by rw [show L.list ++ R.list = (Tr.gluT L R).list from (Tr.gluT_list L R).symm, Tr.gluT_list]; exact (gl.out.append gr.out).fine (by rw [txt_append, List.length_append]; exact hz.out))) wl wr h1 h2)
  have HSp := hid (fun W (hW : At W R ra) => Split_yes R ra 1 W (show 1 ≤ R.size from hrs) fr wr hW)
  have HJn := hid (fun T qs qo ql qn b x y W (hjr : JoinR L ⟨ps, po, pl, pn⟩ T ⟨qs, qo, ql, qn⟩ b) (h1 : At W T x) (h2 : At W (Tr.splitT R 1).2 y) => by
    obtain ⟨e1, e2⟩ := txt_first (O := O) (A := A) hp.out
    have hz' := hz.out
    rw [e2, List.length_append] at hz'
    obtain ⟨j1, j2, j3, j4, j5⟩ := hjr.ok wl.out gl.out (gr.out.at hp.out) (by omega)
    have hf : fitB ql qn = true := by simpa [fitB, Pc.fit] using j3.fit
    have g3 : Gds O A (Tr.splitT R 1).2.list := fun x hx => gr.out x (by rw [e1]; simp [hx])
    refine Join_fit T (Tr.splitT R 1).2 x y qs qo ql qn W hf (hid ((j2.append (Gds.cons j3 g3)).fine ?_)) j1 (Tr.splitT_whole R 1 wr.out.1).2 h1 h2
    rw [txt_append, txt_cons, ← List.append_assoc, j4, List.length_append, List.length_append]
    omega)
  go_enter Tryz.func114, Tryz.ntmps114
  go_wp2_with (first
    | (go_at_call 60; refine (HG.out _ (hR.out.keep HM.out.below)).mono ?_; rintro e w9 ⟨rfl, hb9⟩; have M9 := hid ((HM.out.call hb9).call (bAlloc (Below.refl _ _) (.cells #[.int .i64 ps, .int .i64 po, .int .i64 pl, .int .i64 pn] 59))); clear c0 c1 f1 c2 f2 hb9 hW0; obtain ⟨c0, ⟨c1, f1⟩, ⟨c2, f2⟩⟩ := M9.out.cells)
    | (go_at_call 75; refine (HJ.out _ (hL.out.keep M9.out.below)).mono ?_; rintro e w8 ⟨T, ⟨qs, qo, ql, qn⟩, b, hjr, x8, rfl, hx8, hb8⟩; simp only [Pc.v]; have z8 := sh_lt (M9.out.call hb8).b2; have M8 := hid ((M9.out.call hb8).call (bAA w8 (.cells #[.pointer x8] 53) (.cells #[.int .i64 qs, .int .i64 qo, .int .i64 ql, .int .i64 qn] 59))); have X8 := hid (hx8.keep (bAA w8 (.cells #[.pointer x8] 53) (.cells #[.int .i64 qs, .int .i64 qo, .int .i64 ql, .int .i64 qn] 59))); have E1 := hid ((Below.heap_alloc (w8.alloc (.cells #[.pointer x8] 53)) (.cells #[.int .i64 qs, .int .i64 qo, .int .i64 ql, .int .i64 qn] 59) w8.heap.size (by simp)).trans (World.alloc_heap_new w8 _)); have E2 := hid (alloc2_here w8 (.cells #[.pointer x8] 53) (.cells #[.int .i64 qs, .int .i64 qo, .int .i64 ql, .int .i64 qn] 59)); have JR := hid hjr; clear c0 c1 f1 c2 f2 hb8 hx8 hjr; obtain ⟨c0, ⟨c1, f1⟩, ⟨c2, f2⟩⟩ := M8.out.cells)
    | (go_at_call 20; refine (HU.out _ (hL.out.keep M8.out.below) (hR.out.keep M8.out.below)).mono ?_; rintro e w7 ⟨x7, rfl, hx7, hb7⟩; have M7 := hid (M8.out.call hb7); have X7 := hid hx7; clear c0 c1 f1 c2 f2 hb7 hx7; obtain ⟨c0, ⟨c1, f1⟩, ⟨c2, f2⟩⟩ := M7.out.cells))
  · rename_i hb
    obtain ⟨F1, F2⟩ := M7.out.fin X7.out
    exact bodyPost_ret (v := .agg #[.pointer x7]) (by simp [results, Tryz.results114, go_sem, c2]) rfl ⟨_, .inr ⟨_, T, _, b, hp.out, JR.out, .inl ⟨by simpa using hb, rfl⟩⟩, x7, rfl, F1, F2⟩
  · have HB : Hid (b = true) := hid (by
      cases b with
      | true => rfl
      | false => first | contradiction | simp_all)
    clear c0 c1 f1 c2 f2
    have lt8 := sh_lt E1.out
    have lt9 := sh_lt E2.out
    have n1 : ¬ (w8.heap.size = w.heap.size + 1) := by omega
    have n2 : ¬ (w.heap.size + 1 = w8.heap.size) := by omega
    have n3 : ¬ (w8.heap.size + 1 = w.heap.size + 1) := by omega
    have n4 : ¬ (w.heap.size + 1 = w8.heap.size + 1) := by omega
    have n5 : ¬ (w8.heap.size = w.heap.size) := by omega
    have n6 : ¬ (w.heap.size = w8.heap.size) := by omega
    generalize (w8.alloc (.cells #[.pointer x8] 53)).alloc (.cells #[.int .i64 qs, .int .i64 qo, .int .i64 ql, .int .i64 qn] 59) = W8 at *
    obtain ⟨c0, ⟨c1, f1⟩, ⟨c2, f2⟩⟩ := M8.out.cells
    obtain ⟨d0, d1⟩ := box_cell E1.out
    obtain ⟨e0, e1, e2, e3⟩ := four_cells E2.out
    go_wp2_with (first
      | (go_at_call 77; refine (HSp.out _ (hR.out.keep M8.out.below)).mono ?_; rintro e w6 ⟨x6, y6, rfl, hx6, hy6, hb6⟩; have M6 := hid (M8.out.call hb6); have Y6 := hid hy6; have X6 := hid (X8.out.keep hb6); have G1 := hid ((hb6.block _ lt8).trans E1.out); have G2 := hid ((hb6.block _ lt9).trans E2.out); clear c0 c1 f1 c2 f2 d0 d1 e0 e1 e2 e3 hb6 hx6 hy6; obtain ⟨c0, ⟨c1, f1⟩, ⟨c2, f2⟩⟩ := M6.out.cells; obtain ⟨d0, d1⟩ := box_cell G1.out; obtain ⟨e0, e1, e2, e3⟩ := four_cells G2.out)
      | (go_at_call 20; refine (HJn.out T qs qo ql qn b x8 y6 _ JR.out ((M6.out.set1 y6).2.at X6.out) ((M6.out.set1 y6).2.at Y6.out)).mono ?_; rintro e w5 ⟨x5, rfl, hx5, hb5⟩; have M5 := hid ((M6.out.set1 y6).1.call hb5); have X5 := hid hx5; clear c0 c1 f1 c2 f2 d0 d1 e0 e1 e2 e3 hb5 hx5; obtain ⟨c0, ⟨c1, f1⟩, ⟨c2, f2⟩⟩ := M5.out.cells))
    obtain ⟨F1, F2⟩ := M5.out.fin X5.out
    exact bodyPost_ret (v := .agg #[.pointer x5]) (by simp [results, Tryz.results114, go_sem, c2]) rfl ⟨_, .inr ⟨_, T, _, b, hp.out, JR.out, .inr ⟨HB.out, rfl⟩⟩, x5, rfl, F1, F2⟩

theorem meet_any (O A : List UInt8) (L R : Tr) (la ra : Option Addr) (w : World) (hL : At w L la) (hR : At w R ra) (wl : L.whole) (wr : R.whole) (gl : Gds O A L.list) (gr : Gds O A R.list) (hz : (txt O A L.list).length + (txt O A R.list).length ≤ 1048576) :
    Calls Tryz.prog 114 #[.agg #[.pointer la], .agg #[.pointer ra]] w fun e w' => ∃ t, MeetR L R t ∧ MeetGave w t e w' := by
  rcases Nat.eq_zero_or_pos R.size with h0 | h0
  · refine (meet_nil L R la ra w (hid hL) (hid hR) (hid h0) (hid wl) (hid wr) (hid ((Tr.fine_list L).2 (gl.fine (by omega)))) (hid ((gl.append gr).fine (by rw [txt_append, List.length_append]; exact hz)))).mono fun e w' k => ⟨_, .inl ⟨h0, rfl⟩, k⟩
  · have hlt : 0 < R.list.length := by rw [R.size_list]; exact h0
    obtain ⟨⟨ps, po, pl, pn⟩, hp⟩ : ∃ r, R.list[0]? = some r := ⟨_, List.getElem?_eq_getElem hlt⟩
    exact meet_some O A L R la ra ps po pl pn w (hid hL) (hid hR) (hid hp) (hid wl) (hid wr) (hid gl) (hid gr) (hid hz)

end Go.Proofs.YtmhpeppbhjpkiaaGreat

/- A sheet's takeOut and Delete. Conditions: the sheet lies in memory, its tree is whole and its pieces good, the text is small. -/
namespace Go.Proofs.YtmhpeppbhjpkiaaGreat
open Go.RowKit

/-- How bytes are taken out of a tree. -/
def OutR (O A : List UInt8) (t : Tr) (x y : Int) (t' : Tr) : Prop := ∃ T U T1 U1, CutR O A t y T U ∧ CutR O A T x T1 U1 ∧ MeetR T1 U t'

theorem OutR.ok {O A : List UInt8} {t t' : Tr} {x y : Int} (h : OutR O A t x y t') (hw : t.whole) (hg : Gds O A t.list) (hz : (txt O A t.list).length ≤ 1048575) (h1 : x ≤ y) :
    t'.whole ∧ Gds O A t'.list ∧ txt O A t'.list = (txt O A t.list).take x.toNat ++ (txt O A t.list).drop y.toNat := by
  obtain ⟨T, U, T1, U1, hc, hd, hm⟩ := h
  obtain ⟨a1, a2, a3, a4, a5, a6, a7⟩ := hc.ok hw hg
  obtain ⟨b1, b2, b3, b4, b5, b6, b7⟩ := hd.ok a1 a3
  have e : txt O A T1.list = (txt O A t.list).take x.toNat := by rw [b5, a5, List.take_take]; congr 1; omega
  obtain ⟨c1, c2, c3⟩ := hm.ok b1 a2 b3 a4 (by rw [e, a6, List.length_take, List.length_drop]; omega)
  exact ⟨c1, c2, by rw [c3, e, a6]⟩

/-- What takeOut leaves. -/
def OutGave (w : World) (base sb bb : Nat) (vo va : Value) (O A : List UInt8) (t : Tr) (x y e : Int) (w' : World) : Prop :=
  ∃ a' t', OutR O A t x y t' ∧ Sh w' base sb bb vo va O A t' a' (e + 1) ∧ Chg w w' sb bb va.ownBlock

set_option maxHeartbeats 4000000 in
theorem takeOut_some (sb bb : Nat) (vo va : Value) (O A : List UInt8) (t : Tr) (a : Option Addr) (e : Int) (base : Nat) (x y : Int) (w : World)
    (hSh : Hid (Sh w base sb bb vo va O A t a e)) (hw : Hid t.whole) (hg : Hid (Gds O A t.list)) (hz : Hid ((txt O A t.list).length ≤ 1048574)) (hne : (x == y) = false) (h0 : 0 ≤ x) (h1 : x ≤ y) (h2 : y ≤ t.byt) (he : 0 ≤ e ∧ e ≤ 4611686018427387904) :
    Calls Tryz.prog 68 #[.pointer (some ⟨sb, 0, none⟩), .int .i64 x, .int .i64 y] w fun e' w' => (∃ r, e' = .returned r) ∧ OutGave w base sb bb vo va O A t x y e w' := by
  have htx := len_le_txt hg.out
  have hsz : t.size ≤ (txt O A t.list).length := by rw [← t.size_list]; exact htx
  have hfine : t.fine := (Tr.fine_list t).2 (hg.out.fine (by have := hz.out; omega))
  have hbt := txt_len hg.out
  rw [← byt_list] at hbt
  have hcut := hid (fun W (hW : Below w.heap.size w W) => cut_any sb (some ⟨bb, 0, none⟩) (.pointer a) (.int .i64 e) O A base t a y W (hSh.out.shb.keep hW) (hSh.out.tree.keep hW) (by omega) h2 hw.out hfine hg.out (by have := hz.out; omega))
  have hcut2 := hid (fun T U x6 W (hc : CutR O A t y T U) (hW : ShB W base sb (some ⟨bb, 0, none⟩) (.pointer a) (.int .i64 e) O A) (hT : At W T x6) => by
    obtain ⟨a1, a2, a3, a4, a5, a6, a7⟩ := hc.ok hw.out hg.out
    have hl : (txt O A T.list).length = y.toNat := by rw [a5, List.length_take]; omega
    have hb2 := txt_len a3
    rw [← byt_list] at hb2
    have hz' := hz.out
    have hs2 := len_le_txt a3
    rw [T.size_list] at hs2
    exact cut_any sb (some ⟨bb, 0, none⟩) (.pointer a) (.int .i64 e) O A base T x6 x W hW hT h0 (by omega) a1 ((Tr.fine_list T).2 (a3.fine (by omega))) a3 (by omega))
  have hmeet := hid (fun T U T1 U1 la ra W (hc : CutR O A t y T U) (hd : CutR O A T x T1 U1) (hL : At W T1 la) (hR : At W U ra) => by
    obtain ⟨a1, a2, a3, a4, a5, a6, a7⟩ := hc.ok hw.out hg.out
    obtain ⟨b1, b2, b3, b4, b5, b6, b7⟩ := hd.ok a1 a3
    exact meet_any O A T1 U la ra W hL hR b1 a2 b3 a4 (by have := hz.out; rw [b5, a5, a6, List.length_take, List.length_take, List.length_drop]; omega))
  obtain ⟨c0, c1, c2, f0, f1, f2⟩ := sh_cells hSh.out.here
  clear htx hsz hfine hbt
  go_enter Tryz.func68, Tryz.ntmps68
  go_wp2_with (first
    | (go_at_call 74; refine (hcut.out _ (Below.refl _ _)).mono ?_; rintro e9 w9 ⟨T, U, hct, x9, y9, rfl, hx, hy, hb9⟩; have P0 := Pw.start hSh.out hb9 hx hy; have HCT := hid hct; clear hct hx hy hb9 c0 c1 c2 f0 f1 f2 hcut; obtain ⟨c6, f6⟩ := box_cell P0.b6; obtain ⟨c7, f7⟩ := box_cell P0.b7; have HP := hid P0; clear P0)
    | (go_at_call 74; refine (hcut2.out T U x9 _ HCT.out HP.out.shb HP.out.tx).mono ?_; rintro e8 w8 ⟨T1, U1, hct2, x8, y8, rfl, hx8, hy8, hb8⟩; have P8 := HP.out.below hb8; have HCT2 := hid hct2; have X8 := hid hx8; clear hct2 hx8 hy8 c6 f6 c7 f7 hb8 hcut2; obtain ⟨c6, f6⟩ := box_cell P8.b6; obtain ⟨c7, f7⟩ := box_cell P8.b7; have n67 : ¬ (w9.heap.size = w9.heap.size + 1) := (by omega); have HP8 := hid P8; have HP7 := hid (P8.set6 X8.out); clear P8)
    | (go_at_call 114; refine (hmeet.out T U T1 U1 x8 y9 _ HCT.out HCT2.out HP7.out.tx HP7.out.uy).mono ?_; rintro e7 w7 ⟨t7, hm7, x7, rfl, hx7, hb7⟩; have HP6 := hid (HP7.out.below hb7); have HM7 := hid hm7; have X7 := hid hx7; clear hm7 hx7 hb7 c6 f6 c7 f7; obtain ⟨c0, c1, c2, f0, f1, f2⟩ := sh_cells HP6.out.here))
  obtain ⟨F1, F2⟩ := HP6.out.fin (e' := e + 1) hSh.out.lo X7.out
  go_end0
  exact ⟨⟨_, rfl⟩, x7, t7, ⟨T, U, T1, U1, HCT.out, HCT2.out, HM7.out⟩, F1, F2⟩

set_option maxHeartbeats 1000000 in
theorem Delete_some (sb bb : Nat) (vo va : Value) (O A : List UInt8) (t : Tr) (a : Option Addr) (e : Int) (base : Nat) (x y : Int) (w : World)
    (hSh : Hid (Sh w base sb bb vo va O A t a e)) (hw : Hid t.whole) (hg : Hid (Gds O A t.list)) (hz : Hid ((txt O A t.list).length ≤ 1048574)) (hne : (x == y) = false) (h0 : 0 ≤ x) (h1 : x ≤ y) (h2 : y ≤ t.byt) (he : 0 ≤ e ∧ e ≤ 4611686018427387904) :
    Calls Tryz.prog 34 #[.pointer (some ⟨sb, 0, none⟩), .int .i64 x, .int .i64 y] w fun e' w' => e' = .returned (.int .i64 0) ∧ ∃ w1, Below w.heap.size w w1 ∧ OutGave w1 base sb bb vo va O A t x y e w' := by
  have hr : decide (0 ≤ x ∧ x ≤ y ∧ y ≤ t.byt) = true := by simp; omega
  have HR := hid (fun W (hW : Below w.heap.size w W) => hasRange_any (some ⟨sb, 0, none⟩) a e t x y W (hSh.out.keep hW).sht (hSh.out.tree.keep hW))
  rw [hr] at HR
  have HP := hid (fun W (hW : Below w.heap.size w W) => takeOut_some sb bb vo va O A t a e base x y W (hSh.out.keep hW) hw hg hz hne h0 h1 h2 he)
  go_enter Tryz.func34, Tryz.ntmps34
  go_wp2_with (first
    | (go_at_call 42; refine (HR.out _ (Below.refl _ _)).mono ?_; rintro e9 w9 ⟨rfl, hb9⟩)
    | (go_at_call 68; refine (HP.out _ hb9).mono ?_; rintro e8 w8 ⟨⟨r8, rfl⟩, hp8⟩; have H8 := hid hp8; clear hp8))
  go_ret
  exact ⟨rfl, w9, hb9, H8.out⟩

end Go.Proofs.YtmhpeppbhjpkiaaGreat

/- A sheet's putIn. Conditions: the sheet lies in memory, its tree is whole and its pieces good, the text stays small. -/
namespace Go.Proofs.YtmhpeppbhjpkiaaGreat
open Go.RowKit

/-- How bytes are put into a tree. -/
def PutR (O A l : List UInt8) (t : Tr) (off : Int) (t' : Tr) : Prop := ∃ T U T' q b, CutR O A t off T U ∧ JoinR T (newP A l) T' q b ∧ t' = Tr.joinT T' q U

/-- What putIn leaves. -/
def PutGave (w : World) (base sb bb : Nat) (vo va : Value) (O A l : List UInt8) (t : Tr) (off e : Int) (w' : World) : Prop :=
  ∃ a' va' t', PutR O A l t off t' ∧ Sh w' base sb bb vo va' O (A ++ l) t' a' (e + 1) ∧ Chg w w' sb bb va.ownBlock ∧ (va'.ownBlock = va.ownBlock ∨ ∃ k, va'.ownBlock = some k ∧ w.heap.size ≤ k)

set_option maxHeartbeats 8000000 in
theorem putIn_some (sb bb : Nat) (vo va : Value) (O A : List UInt8) (t : Tr) (a : Option Addr) (e : Int) (base : Nat) (ad : Addr) (c : Nat) (l : List UInt8) (off : Int) (w : World)
    (hSh : Hid (Sh w base sb bb vo va O A t a e)) (hw : Hid t.whole) (hg : Hid (Gds O A t.list)) (hz : Hid ((txt O A t.list).length + l.length ≤ 1048575)) (hA : Hid (A.length + l.length ≤ 1048576)) (hv : Hid (Ab.Rd w (.slice (some ad) l.length c) l)) (hl : ((l.length : Int) == 0) = false)
    (h0 : 0 ≤ off) (h1 : off ≤ t.byt) (he : 0 ≤ e ∧ e ≤ 4611686018427387904) :
    Calls Tryz.prog 43 #[.pointer (some ⟨sb, 0, none⟩), .int .i64 off, .slice (some ad) l.length c] w fun e' w' => (∃ r, e' = .returned r) ∧ PutGave w base sb bb vo va O A l t off e w' := by
  have hln : l ≠ [] := fun e => by subst e; simp at hl
  have HL := hid hln
  clear hln
  have htx := len_le_txt hg.out
  have hsz : t.size ≤ (txt O A t.list).length := by rw [← t.size_list]; exact htx
  have hfine : t.fine := (Tr.fine_list t).2 (hg.out.fine (by have := hz.out; omega))
  have hcut := hid (fun W (hW : Below w.heap.size w W) => cut_any sb (some ⟨bb, 0, none⟩) (.pointer a) (.int .i64 e) O A base t a off W (hSh.out.shb.keep hW) (hSh.out.tree.keep hW) h0 h1 hw.out hfine hg.out (by have := hz.out; omega))
  obtain ⟨c0, c1, c2, f0, f1, f2⟩ := sh_cells hSh.out.here
  go_enter Tryz.func43, Tryz.ntmps43
  go_wp2_with (first
    | (go_at_call 74; refine (hcut.out _ (Below.refl _ _)).mono ?_; rintro e9 w9 ⟨T, U, hct, x, y, rfl, hx, hy, hb9⟩; have P0 := Pw.start hSh.out hb9 hx hy; have HV := hid ((hv.out.keep hb9).keep (bAA w9 (.cells #[.pointer x] 53) (.cells #[.pointer y] 53))); have HCT := hid hct; clear hct hx hy hb9 c0 c1 c2 f0 f1 f2))
  generalize (w9.alloc (.cells #[.pointer x] 53)).alloc (.cells #[.pointer y] 53) = w8 at *
  obtain ⟨g6, hg6⟩ : ∃ g6, w9.heap.size = g6 := ⟨_, rfl⟩
  rw [hg6] at P0 ⊢
  obtain ⟨g7, hg7⟩ : ∃ g7, g6 + 1 = g7 := ⟨_, rfl⟩
  rw [hg7] at P0 ⊢
  clear hg6 hg7 w9
  have HP := hid P0
  clear P0
  have hS : w8.drew.cell? ⟨g6, 0, none⟩ = some (.pointer x) ∧ w8.drew.cell? ⟨sb, 0, none⟩ = some (.pointer (some ⟨bb, 0, none⟩)) := HP.out.cells
  have P8 := hid (HP.out.below (Below.refl _ _).drew)
  have V8 := hid (HV.out.keep (Below.refl _ _).drew)
  refine wp_region_late (S := fun w' => w'.cell? ⟨g6, 0, none⟩ = some (.pointer x) ∧ w'.cell? ⟨sb, 0, none⟩ = some (.pointer (some ⟨bb, 0, none⟩))) (n0 := 15) (by kernel_rfl) fun hsh => ?_
  change wpLate _ _ _ _ _ _ _ _ _ w8.drew
  refine wpLate_take (i := 0) (v := .agg #[.pointer x]) rfl (by kernel_rfl) (by kernel_rfl) (by kernel_rfl) (by kernel_rfl) hsh rfl (fun _ _ _ h => h) (.inl ⟨rfl, fun w' h => by obtain ⟨h1, h2⟩ := h; go_simp⟩) hS fun hsh => ?_
  refine wpLate_take (i := 1) (v := .pointer (some ⟨sb, 0, none⟩)) rfl (by kernel_rfl) (by kernel_rfl) (by kernel_rfl) (by kernel_rfl) hsh rfl (fun _ _ _ h => h) (.inl ⟨rfl, fun w' h => by obtain ⟨h1, h2⟩ := h; go_simp⟩) hS fun hsh => ?_
  refine wpLate_take (i := 2) (v := .pointer (some ⟨sb, 0, none⟩)) rfl (by kernel_rfl) (by kernel_rfl) (by kernel_rfl) (by kernel_rfl) hsh rfl (fun _ _ _ h => h) (.inl ⟨rfl, fun w' h => by obtain ⟨h1, h2⟩ := h; go_simp⟩) hS fun hsh => ?_
  refine wpLate_take (i := 3) (v := .pointer (some ⟨sb, 0, none⟩)) rfl (by kernel_rfl) (by kernel_rfl) (by kernel_rfl) (by kernel_rfl) hsh rfl (fun _ _ _ h => h) (.inl ⟨rfl, fun w' h => by obtain ⟨h1, h2⟩ := h; go_simp⟩) hS fun hsh => ?_
  refine wpLate_take (i := 4) (v := .pointer (some ⟨sb, 0, none⟩)) rfl (by kernel_rfl) (by kernel_rfl) (by kernel_rfl) (by kernel_rfl) hsh rfl (fun _ _ _ h => h) (.inl ⟨rfl, fun w' h => by obtain ⟨h1, h2⟩ := h; go_simp⟩) hS fun hsh => ?_
  refine wpLate_take (i := 5) (v := .pointer (some ⟨bb, 0, none⟩)) rfl (by kernel_rfl) (by kernel_rfl) (by kernel_rfl) (by kernel_rfl) hsh rfl (fun _ _ _ h => h) (.inl ⟨rfl, fun w' h => by obtain ⟨h1, h2⟩ := h; go_simp⟩) hS fun hsh => ?_
  refine wpLate_take (i := 6) (v := .slice (some ad) l.length c) rfl (by kernel_rfl) (by kernel_rfl) (by kernel_rfl) (by kernel_rfl) hsh rfl (fun _ _ _ h => h) (.inl ⟨rfl, fun w' h => by obtain ⟨h1, h2⟩ := h; go_simp⟩) hS fun hsh => ?_
  clear hS
  generalize w8.drew = W at *
  obtain ⟨ct1, ct2, ct3, ct4, ct5, ct6, ct7⟩ := HCT.out.ok hw.out hg.out
  have hTf : T.fine := (Tr.fine_list T).2 (ct3.fine (by rw [ct5, List.length_take]; have := hz.out; omega))
  have hjl := hid (fun W (hW : At W T x) => joinLast_any T x (newP A l) W hW hTf ct1 (by show -9223372036854775808 ≤ (l.length : Int); omega) (by show (l.length : Int) ≤ 9223372036854775807; have := hA.out; omega) ⟨by show (0 : Int) ≤ Ab.nl l; omega, by show (Ab.nl l : Int) ≤ 4294967296; have := Ab.nl_le l; have := hA.out; omega⟩)
  simp only [Pc.v, newP] at hjl
  have hpc := hid (fun W (hW : ShB W base sb (some ⟨bb, 0, none⟩) (.pointer a) (.int .i64 e) O (A ++ l)) => piece_yes sb (some ⟨bb, 0, none⟩) (.pointer a) (.int .i64 e) O (A ++ l) base 1 A.length l.length W (snd_true ⟨.inr rfl, by omega, by omega, by have := hA.out; omega⟩) (by simp [Ab.which]) hW)
  rw [cutL_new] at hpc
  clear ct2 ct3 ct4 ct5 ct6 ct7 htx hsz hfine hcut
  refine wpLate_two (i := 7) (j := 14) (by kernel_rfl) rfl rfl rfl rfl (fun K hK => ?_) (fun K hK => ?_)
  · go_simp
    refine (Ab.add_any (.slice (some ad) l.length c) bb vo va O A base l W P8.out.buf (by have := hA.out; omega) V8.out).mono ?_
    rintro e7 W7 ⟨va7, rfl, hbuf7, ht7, ho7⟩
    have P7 := hid (P8.out.touch rfl hbuf7 ht7 ho7)
    refine hK _ _ (fun _ _ => P7.out.cells) ?_
    clear hK K hbuf7 ht7 ho7
    refine wpLate_two (i := 8) (j := 14) (by kernel_rfl) rfl rfl rfl rfl (fun K hK => ?_) (fun K hK => ?_)
    · go_simp
      refine (hpc.out W7 P7.out.shb).mono ?_
      rintro e8 W6 ⟨rfl, hb8⟩
      have P6 := hid (P7.out.below hb8)
      refine hK _ _ (fun _ _ => P6.out.cells) ?_
      clear hK K hb8
      refine wpLate_two (i := 9) (j := 14) (by kernel_rfl) rfl rfl rfl rfl (fun K hK => ?_) (fun K hK => ?_)
      · go_simp
        refine (hjl.out W6 P6.out.tx).mono ?_
        rintro e9 W5 ⟨T', ⟨qs, qo, ql, qn⟩, b9, hjr, x9, rfl, hx9, hb9⟩
        simp only [Pc.v]
        have P5 := hid (P6.out.below hb9)
        have X9 := hid hx9
        have JR := hid hjr
        refine hK _ _ (fun _ _ => P5.out.cells) ?_
        clear hK K hb9 hx9 hjr
        refine wpLate_any (i := 10) (v := .tuple #[.agg #[.pointer x9], .agg #[.int .i64 qs, .int .i64 qo, .int .i64 ql, .int .i64 qn], .bool b9]) rfl (by kernel_rfl) (by kernel_rfl) (by kernel_rfl) (by decide) (fun _ _ _ h => h) (.inl ⟨rfl, fun w' _ => by go_simp⟩) (fun _ => P5.out.cells) ?_
        refine wpLate_any (i := 11) (v := .agg #[.pointer x9]) rfl (by kernel_rfl) (by kernel_rfl) (by kernel_rfl) (by decide) (fun _ _ _ h => h) (.inl ⟨rfl, fun w' _ => by go_simp⟩) (fun _ => P5.out.cells) ?_
        refine wpLate_any (i := 12) (v := .agg #[.int .i64 qs, .int .i64 qo, .int .i64 ql, .int .i64 qn]) rfl (by kernel_rfl) (by kernel_rfl) (by kernel_rfl) (by decide) (fun _ _ _ h => h) (.inl ⟨rfl, fun w' _ => by go_simp⟩) (fun _ => P5.out.cells) ?_
        refine wpLate_any (i := 13) (v := .bool b9) rfl (by kernel_rfl) (by kernel_rfl) (by kernel_rfl) (by decide) (fun _ _ _ h => h) (.inl ⟨rfl, fun w' _ => by go_simp⟩) (fun _ => P5.out.cells) ?_
        refine wpLate_step (i := 14) (by kernel_rfl) rfl rfl fun K hK => ?_
        go_simp
        refine hK _ _ (fun _ _ => (P5.out.below (bAlloc (Below.refl _ _) (.cells #[.int .i64 0, .int .i64 0, .int .i64 0, .int .i64 0] 59))).cells) ?_
        clear hK K
        have X9 := hid (X9.out.alloc (.cells #[.int .i64 0, .int .i64 0, .int .i64 0, .int .i64 0] 59))
        have P4 := hid (P5.out.below (bAlloc (Below.refl _ _) (.cells #[.int .i64 0, .int .i64 0, .int .i64 0, .int .i64 0] 59)))
        have E4 := hid (World.alloc_heap_new W5 (.cells #[.int .i64 0, .int .i64 0, .int .i64 0, .int .i64 0] 59))
        have l8 : w.heap.size ≤ W5.heap.size := P5.out.chg.size
        obtain ⟨g8, hg8⟩ : ∃ g8, W5.heap.size = g8 := ⟨_, rfl⟩
        rw [hg8] at E4 l8 ⊢
        generalize W5.alloc (.cells #[.int .i64 0, .int .i64 0, .int .i64 0, .int .i64 0] 59) = W4 at *
        obtain ⟨c0, f0⟩ := box_cell P4.out.b6
        refine wpLate_step (i := 15) (by kernel_rfl) rfl rfl fun K hK => ?_
        go_simp
        refine hK _ _ (fun h => absurd rfl h) ?_
        clear hK K c0 f0
        have PA := hid (P4.out.set6 X9.out)
        have n86 : g8 ≠ g6 := fun e => by have h := E4.out; rw [e, P4.out.b6] at h; cases h
        have EA := hid ((Below.heap_setCell W4 ⟨g6, 0, none⟩ (.pointer x9) g8 n86).trans E4.out)
        generalize W4.setCell ⟨g6, 0, none⟩ (.pointer x9) = WA at *
        obtain ⟨c0, c1, c2, c3⟩ := four_cells EA.out
        have c4 := free_all EA.out
        refine wpLate_step (i := 16) (by kernel_rfl) rfl rfl fun K hK => ?_
        go_simp
        refine hK _ _ (fun _ h => by cases h) ?_
        clear hK K c0 c1 c2 c3 c4
        obtain ⟨s1, s2, s3⟩ := set_four EA.out (.int .i64 qs) (.int .i64 qo) (.int .i64 ql) (.int .i64 qn)
        have PB := hid (PA.out.other EA.out l8 s3 s2 rfl rfl rfl)
        have EB := hid s1
        clear s1 s2 s3
        generalize (((WA.setCell ⟨g8, 0, none⟩ (.int .i64 qs)).setCell ⟨g8, 1, none⟩ (.int .i64 qo)).setCell ⟨g8, 2, none⟩ (.int .i64 ql)).setCell ⟨g8, 3, none⟩ (.int .i64 qn) = WB at *
        refine wpLate_step (i := 17) (by kernel_rfl) rfl rfl fun K hK => ?_
        go_simp
        refine hK _ _ (fun _ h => by cases h) ?_
        clear hK K
        refine wpLate_done (by kernel_rfl) ?_
        obtain ⟨pw1, pw2, pw3, pw4, pw5, pw6⟩ := put_pure HCT.out JR.out hw.out hg.out HL.out hz.out hA.out
        have hq : fitB ql qn = true := by simpa [fitB, Pc.fit] using pw6
        have hjn := hid (fun W (h1 : At W T' x9) (h2 : At W U y) => Join_fit T' U x9 y qs qo ql qn W hq (hid pw5) (hid pw1) (hid pw2) h1 h2)
        obtain ⟨c0, f0⟩ := box_cell PB.out.b6
        obtain ⟨c1, f1⟩ := box_cell PB.out.b7
        obtain ⟨d0, d1, d2, d3⟩ := four_cells EB.out
        go_wp2_with (first
          | (go_at_call 20; refine (hjn.out _ PB.out.tx PB.out.uy).mono ?_; rintro e1 w1 ⟨z, rfl, hz1, hb1⟩; have PC := hid (PB.out.below hb1); have Z1 := hid hz1; clear hb1 hz1 c0 f0 c1 f1 d0 d1 d2 d3; obtain ⟨c0, c1, c2, f0, f1, f2⟩ := sh_cells PC.out.here))
        obtain ⟨F1, F2⟩ := PC.out.fin (e' := e + 1) hSh.out.lo Z1.out
        go_end0
        exact ⟨⟨_, rfl⟩, z, va7, _, ⟨T, U, T', _, b9, HCT.out, JR.out, rfl⟩, F1, F2, PC.out.own⟩
      · go_simp
        refine hK _ _ (fun _ _ => (P6.out.below (bAlloc (Below.refl _ _) (.cells #[.int .i64 0, .int .i64 0, .int .i64 0, .int .i64 0] 59))).cells) ?_
        clear hK K
        have P5 := hid (P6.out.below (bAlloc (Below.refl _ _) (.cells #[.int .i64 0, .int .i64 0, .int .i64 0, .int .i64 0] 59)))
        have E5 := hid (World.alloc_heap_new W6 (.cells #[.int .i64 0, .int .i64 0, .int .i64 0, .int .i64 0] 59))
        have l8 : w.heap.size ≤ W6.heap.size := P6.out.chg.size
        obtain ⟨g8, hg8⟩ : ∃ g8, W6.heap.size = g8 := ⟨_, rfl⟩
        rw [hg8] at E5 l8 ⊢
        generalize W6.alloc (.cells #[.int .i64 0, .int .i64 0, .int .i64 0, .int .i64 0] 59) = W5 at *
        refine wpLate_step (i := 9) (by kernel_rfl) rfl rfl fun K hK => ?_
        go_simp
        refine (hjl.out W5 P5.out.tx).mono ?_
        rintro e9 W4 ⟨T', ⟨qs, qo, ql, qn⟩, b9, hjr, x9, rfl, hx9, hb9⟩
        simp only [Pc.v]
        have P4 := hid (P5.out.below hb9)
        have X9 := hid hx9
        have JR := hid hjr
        have E4 := hid ((hb9.block _ (sh_lt E5.out)).trans E5.out)
        refine hK _ _ (fun _ _ => P4.out.cells) ?_
        clear hK K hb9 hx9 hjr
        refine wpLate_any (i := 10) (v := .tuple #[.agg #[.pointer x9], .agg #[.int .i64 qs, .int .i64 qo, .int .i64 ql, .int .i64 qn], .bool b9]) rfl (by kernel_rfl) (by kernel_rfl) (by kernel_rfl) (by decide) (fun _ _ _ h => h) (.inl ⟨rfl, fun w' _ => by go_simp⟩) (fun _ => P4.out.cells) ?_
        refine wpLate_any (i := 11) (v := .agg #[.pointer x9]) rfl (by kernel_rfl) (by kernel_rfl) (by kernel_rfl) (by decide) (fun _ _ _ h => h) (.inl ⟨rfl, fun w' _ => by go_simp⟩) (fun _ => P4.out.cells) ?_
        refine wpLate_any (i := 12) (v := .agg #[.int .i64 qs, .int .i64 qo, .int .i64 ql, .int .i64 qn]) rfl (by kernel_rfl) (by kernel_rfl) (by kernel_rfl) (by decide) (fun _ _ _ h => h) (.inl ⟨rfl, fun w' _ => by go_simp⟩) (fun _ => P4.out.cells) ?_
        refine wpLate_any (i := 13) (v := .bool b9) rfl (by kernel_rfl) (by kernel_rfl) (by kernel_rfl) (by decide) (fun _ _ _ h => h) (.inl ⟨rfl, fun w' _ => by go_simp⟩) (fun _ => P4.out.cells) ?_
        obtain ⟨c0, f0⟩ := box_cell P4.out.b6
        refine wpLate_step (i := 15) (by kernel_rfl) rfl rfl fun K hK => ?_
        go_simp
        refine hK _ _ (fun h => absurd rfl h) ?_
        clear hK K c0 f0
        have PA := hid (P4.out.set6 X9.out)
        have n86 : g8 ≠ g6 := fun e => by have h := E4.out; rw [e, P4.out.b6] at h; cases h
        have EA := hid ((Below.heap_setCell W4 ⟨g6, 0, none⟩ (.pointer x9) g8 n86).trans E4.out)
        generalize W4.setCell ⟨g6, 0, none⟩ (.pointer x9) = WA at *
        obtain ⟨c0, c1, c2, c3⟩ := four_cells EA.out
        have c4 := free_all EA.out
        refine wpLate_step (i := 16) (by kernel_rfl) rfl rfl fun K hK => ?_
        go_simp
        refine hK _ _ (fun _ h => by cases h) ?_
        clear hK K c0 c1 c2 c3 c4
        obtain ⟨s1, s2, s3⟩ := set_four EA.out (.int .i64 qs) (.int .i64 qo) (.int .i64 ql) (.int .i64 qn)
        have PB := hid (PA.out.other EA.out l8 s3 s2 rfl rfl rfl)
        have EB := hid s1
        clear s1 s2 s3
        generalize (((WA.setCell ⟨g8, 0, none⟩ (.int .i64 qs)).setCell ⟨g8, 1, none⟩ (.int .i64 qo)).setCell ⟨g8, 2, none⟩ (.int .i64 ql)).setCell ⟨g8, 3, none⟩ (.int .i64 qn) = WB at *
        refine wpLate_step (i := 17) (by kernel_rfl) rfl rfl fun K hK => ?_
        go_simp
        refine hK _ _ (fun _ h => by cases h) ?_
        clear hK K
        refine wpLate_done (by kernel_rfl) ?_
        obtain ⟨pw1, pw2, pw3, pw4, pw5, pw6⟩ := put_pure HCT.out JR.out hw.out hg.out HL.out hz.out hA.out
        have hq : fitB ql qn = true := by simpa [fitB, Pc.fit] using pw6
        have hjn := hid (fun W (h1 : At W T' x9) (h2 : At W U y) => Join_fit T' U x9 y qs qo ql qn W hq (hid pw5) (hid pw1) (hid pw2) h1 h2)
        obtain ⟨c0, f0⟩ := box_cell PB.out.b6
        obtain ⟨c1, f1⟩ := box_cell PB.out.b7
        obtain ⟨d0, d1, d2, d3⟩ := four_cells EB.out
        go_wp2_with (first
          | (go_at_call 20; refine (hjn.out _ PB.out.tx PB.out.uy).mono ?_; rintro e1 w1 ⟨z, rfl, hz1, hb1⟩; have PC := hid (PB.out.below hb1); have Z1 := hid hz1; clear hb1 hz1 c0 f0 c1 f1 d0 d1 d2 d3; obtain ⟨c0, c1, c2, f0, f1, f2⟩ := sh_cells PC.out.here))
        obtain ⟨F1, F2⟩ := PC.out.fin (e' := e + 1) hSh.out.lo Z1.out
        go_end0
        exact ⟨⟨_, rfl⟩, z, va7, _, ⟨T, U, T', _, b9, HCT.out, JR.out, rfl⟩, F1, F2, PC.out.own⟩
    · go_simp
      refine hK _ _ (fun _ _ => (P7.out.below (bAlloc (Below.refl _ _) (.cells #[.int .i64 0, .int .i64 0, .int .i64 0, .int .i64 0] 59))).cells) ?_
      clear hK K
      have P6 := hid (P7.out.below (bAlloc (Below.refl _ _) (.cells #[.int .i64 0, .int .i64 0, .int .i64 0, .int .i64 0] 59)))
      have E6 := hid (World.alloc_heap_new W7 (.cells #[.int .i64 0, .int .i64 0, .int .i64 0, .int .i64 0] 59))
      have l8 : w.heap.size ≤ W7.heap.size := P7.out.chg.size
      obtain ⟨g8, hg8⟩ : ∃ g8, W7.heap.size = g8 := ⟨_, rfl⟩
      rw [hg8] at E6 l8 ⊢
      generalize W7.alloc (.cells #[.int .i64 0, .int .i64 0, .int .i64 0, .int .i64 0] 59) = W6 at *
      refine wpLate_step (i := 8) (by kernel_rfl) rfl rfl fun K hK => ?_
      go_simp
      refine (hpc.out W6 P6.out.shb).mono ?_
      rintro e8 W5 ⟨rfl, hb8⟩
      have P5 := hid (P6.out.below hb8)
      have E5 := hid ((hb8.block _ (sh_lt E6.out)).trans E6.out)
      refine hK _ _ (fun _ _ => P5.out.cells) ?_
      clear hK K hb8
      refine wpLate_step (i := 9) (by kernel_rfl) rfl rfl fun K hK => ?_
      go_simp
      refine (hjl.out W5 P5.out.tx).mono ?_
      rintro e9 W4 ⟨T', ⟨qs, qo, ql, qn⟩, b9, hjr, x9, rfl, hx9, hb9⟩
      simp only [Pc.v]
      have P4 := hid (P5.out.below hb9)
      have X9 := hid hx9
      have JR := hid hjr
      have E4 := hid ((hb9.block _ (sh_lt E5.out)).trans E5.out)
      refine hK _ _ (fun _ _ => P4.out.cells) ?_
      clear hK K hb9 hx9 hjr
      refine wpLate_any (i := 10) (v := .tuple #[.agg #[.pointer x9], .agg #[.int .i64 qs, .int .i64 qo, .int .i64 ql, .int .i64 qn], .bool b9]) rfl (by kernel_rfl) (by kernel_rfl) (by kernel_rfl) (by decide) (fun _ _ _ h => h) (.inl ⟨rfl, fun w' _ => by go_simp⟩) (fun _ => P4.out.cells) ?_
      refine wpLate_any (i := 11) (v := .agg #[.pointer x9]) rfl (by kernel_rfl) (by kernel_rfl) (by kernel_rfl) (by decide) (fun _ _ _ h => h) (.inl ⟨rfl, fun w' _ => by go_simp⟩) (fun _ => P4.out.cells) ?_
      refine wpLate_any (i := 12) (v := .agg #[.int .i64 qs, .int .i64 qo, .int .i64 ql, .int .i64 qn]) rfl (by kernel_rfl) (by kernel_rfl) (by kernel_rfl) (by decide) (fun _ _ _ h => h) (.inl ⟨rfl, fun w' _ => by go_simp⟩) (fun _ => P4.out.cells) ?_
      refine wpLate_any (i := 13) (v := .bool b9) rfl (by kernel_rfl) (by kernel_rfl) (by kernel_rfl) (by decide) (fun _ _ _ h => h) (.inl ⟨rfl, fun w' _ => by go_simp⟩) (fun _ => P4.out.cells) ?_
      obtain ⟨c0, f0⟩ := box_cell P4.out.b6
      refine wpLate_step (i := 15) (by kernel_rfl) rfl rfl fun K hK => ?_
      go_simp
      refine hK _ _ (fun h => absurd rfl h) ?_
      clear hK K c0 f0
      have PA := hid (P4.out.set6 X9.out)
      have n86 : g8 ≠ g6 := fun e => by have h := E4.out; rw [e, P4.out.b6] at h; cases h
      have EA := hid ((Below.heap_setCell W4 ⟨g6, 0, none⟩ (.pointer x9) g8 n86).trans E4.out)
      generalize W4.setCell ⟨g6, 0, none⟩ (.pointer x9) = WA at *
      obtain ⟨c0, c1, c2, c3⟩ := four_cells EA.out
      have c4 := free_all EA.out
      refine wpLate_step (i := 16) (by kernel_rfl) rfl rfl fun K hK => ?_
      go_simp
      refine hK _ _ (fun _ h => by cases h) ?_
      clear hK K c0 c1 c2 c3 c4
      obtain ⟨s1, s2, s3⟩ := set_four EA.out (.int .i64 qs) (.int .i64 qo) (.int .i64 ql) (.int .i64 qn)
      have PB := hid (PA.out.other EA.out l8 s3 s2 rfl rfl rfl)
      have EB := hid s1
      clear s1 s2 s3
      generalize (((WA.setCell ⟨g8, 0, none⟩ (.int .i64 qs)).setCell ⟨g8, 1, none⟩ (.int .i64 qo)).setCell ⟨g8, 2, none⟩ (.int .i64 ql)).setCell ⟨g8, 3, none⟩ (.int .i64 qn) = WB at *
      refine wpLate_step (i := 17) (by kernel_rfl) rfl rfl fun K hK => ?_
      go_simp
      refine hK _ _ (fun _ h => by cases h) ?_
      clear hK K
      refine wpLate_done (by kernel_rfl) ?_
      obtain ⟨pw1, pw2, pw3, pw4, pw5, pw6⟩ := put_pure HCT.out JR.out hw.out hg.out HL.out hz.out hA.out
      have hq : fitB ql qn = true := by simpa [fitB, Pc.fit] using pw6
      have hjn := hid (fun W (h1 : At W T' x9) (h2 : At W U y) => Join_fit T' U x9 y qs qo ql qn W hq (hid pw5) (hid pw1) (hid pw2) h1 h2)
      obtain ⟨c0, f0⟩ := box_cell PB.out.b6
      obtain ⟨c1, f1⟩ := box_cell PB.out.b7
      obtain ⟨d0, d1, d2, d3⟩ := four_cells EB.out
      go_wp2_with (first
        | (go_at_call 20; refine (hjn.out _ PB.out.tx PB.out.uy).mono ?_; rintro e1 w1 ⟨z, rfl, hz1, hb1⟩; have PC := hid (PB.out.below hb1); have Z1 := hid hz1; clear hb1 hz1 c0 f0 c1 f1 d0 d1 d2 d3; obtain ⟨c0, c1, c2, f0, f1, f2⟩ := sh_cells PC.out.here))
      obtain ⟨F1, F2⟩ := PC.out.fin (e' := e + 1) hSh.out.lo Z1.out
      go_end0
      exact ⟨⟨_, rfl⟩, z, va7, _, ⟨T, U, T', _, b9, HCT.out, JR.out, rfl⟩, F1, F2, PC.out.own⟩
  · go_simp
    refine hK _ _ (fun _ _ => (P8.out.below (bAlloc (Below.refl _ _) (.cells #[.int .i64 0, .int .i64 0, .int .i64 0, .int .i64 0] 59))).cells) ?_
    clear hK K
    have P7 := hid (P8.out.below (bAlloc (Below.refl _ _) (.cells #[.int .i64 0, .int .i64 0, .int .i64 0, .int .i64 0] 59)))
    have V7 := hid (V8.out.keep (bAlloc (Below.refl _ _) (.cells #[.int .i64 0, .int .i64 0, .int .i64 0, .int .i64 0] 59)))
    have E7 := hid (World.alloc_heap_new W (.cells #[.int .i64 0, .int .i64 0, .int .i64 0, .int .i64 0] 59))
    have l8 : w.heap.size ≤ W.heap.size := P8.out.chg.size
    obtain ⟨g8, hg8⟩ : ∃ g8, W.heap.size = g8 := ⟨_, rfl⟩
    rw [hg8] at E7 l8 ⊢
    generalize W.alloc (.cells #[.int .i64 0, .int .i64 0, .int .i64 0, .int .i64 0] 59) = W7 at *
    refine wpLate_step (i := 7) (by kernel_rfl) rfl rfl fun K hK => ?_
    go_simp
    refine (Ab.add_any (.slice (some ad) l.length c) bb vo va O A base l W7 P7.out.buf (by have := hA.out; omega) V7.out).mono ?_
    rintro e7 W6 ⟨va7, rfl, hbuf7, ht7, ho7⟩
    have P6 := hid (P7.out.touch rfl hbuf7 ht7 ho7)
    have E6 := hid (touch_same P7.out.buf ht7 E7.out (by decide) (by decide))
    refine hK _ _ (fun _ _ => P6.out.cells) ?_
    clear hK K hbuf7 ht7 ho7
    refine wpLate_step (i := 8) (by kernel_rfl) rfl rfl fun K hK => ?_
    go_simp
    refine (hpc.out W6 P6.out.shb).mono ?_
    rintro e8 W5 ⟨rfl, hb8⟩
    have P5 := hid (P6.out.below hb8)
    have E5 := hid ((hb8.block _ (sh_lt E6.out)).trans E6.out)
    refine hK _ _ (fun _ _ => P5.out.cells) ?_
    clear hK K hb8
    refine wpLate_step (i := 9) (by kernel_rfl) rfl rfl fun K hK => ?_
    go_simp
    refine (hjl.out W5 P5.out.tx).mono ?_
    rintro e9 W4 ⟨T', ⟨qs, qo, ql, qn⟩, b9, hjr, x9, rfl, hx9, hb9⟩
    simp only [Pc.v]
    have P4 := hid (P5.out.below hb9)
    have X9 := hid hx9
    have JR := hid hjr
    have E4 := hid ((hb9.block _ (sh_lt E5.out)).trans E5.out)
    refine hK _ _ (fun _ _ => P4.out.cells) ?_
    clear hK K hb9 hx9 hjr
    refine wpLate_any (i := 10) (v := .tuple #[.agg #[.pointer x9], .agg #[.int .i64 qs, .int .i64 qo, .int .i64 ql, .int .i64 qn], .bool b9]) rfl (by kernel_rfl) (by kernel_rfl) (by kernel_rfl) (by decide) (fun _ _ _ h => h) (.inl ⟨rfl, fun w' _ => by go_simp⟩) (fun _ => P4.out.cells) ?_
    refine wpLate_any (i := 11) (v := .agg #[.pointer x9]) rfl (by kernel_rfl) (by kernel_rfl) (by kernel_rfl) (by decide) (fun _ _ _ h => h) (.inl ⟨rfl, fun w' _ => by go_simp⟩) (fun _ => P4.out.cells) ?_
    refine wpLate_any (i := 12) (v := .agg #[.int .i64 qs, .int .i64 qo, .int .i64 ql, .int .i64 qn]) rfl (by kernel_rfl) (by kernel_rfl) (by kernel_rfl) (by decide) (fun _ _ _ h => h) (.inl ⟨rfl, fun w' _ => by go_simp⟩) (fun _ => P4.out.cells) ?_
    refine wpLate_any (i := 13) (v := .bool b9) rfl (by kernel_rfl) (by kernel_rfl) (by kernel_rfl) (by decide) (fun _ _ _ h => h) (.inl ⟨rfl, fun w' _ => by go_simp⟩) (fun _ => P4.out.cells) ?_
    obtain ⟨c0, f0⟩ := box_cell P4.out.b6
    refine wpLate_step (i := 15) (by kernel_rfl) rfl rfl fun K hK => ?_
    go_simp
    refine hK _ _ (fun h => absurd rfl h) ?_
    clear hK K c0 f0
    have PA := hid (P4.out.set6 X9.out)
    have n86 : g8 ≠ g6 := fun e => by have h := E4.out; rw [e, P4.out.b6] at h; cases h
    have EA := hid ((Below.heap_setCell W4 ⟨g6, 0, none⟩ (.pointer x9) g8 n86).trans E4.out)
    generalize W4.setCell ⟨g6, 0, none⟩ (.pointer x9) = WA at *
    obtain ⟨c0, c1, c2, c3⟩ := four_cells EA.out
    have c4 := free_all EA.out
    refine wpLate_step (i := 16) (by kernel_rfl) rfl rfl fun K hK => ?_
    go_simp
    refine hK _ _ (fun _ h => by cases h) ?_
    clear hK K c0 c1 c2 c3 c4
    obtain ⟨s1, s2, s3⟩ := set_four EA.out (.int .i64 qs) (.int .i64 qo) (.int .i64 ql) (.int .i64 qn)
    have PB := hid (PA.out.other EA.out l8 s3 s2 rfl rfl rfl)
    have EB := hid s1
    clear s1 s2 s3
    generalize (((WA.setCell ⟨g8, 0, none⟩ (.int .i64 qs)).setCell ⟨g8, 1, none⟩ (.int .i64 qo)).setCell ⟨g8, 2, none⟩ (.int .i64 ql)).setCell ⟨g8, 3, none⟩ (.int .i64 qn) = WB at *
    refine wpLate_step (i := 17) (by kernel_rfl) rfl rfl fun K hK => ?_
    go_simp
    refine hK _ _ (fun _ h => by cases h) ?_
    clear hK K
    refine wpLate_done (by kernel_rfl) ?_
    obtain ⟨pw1, pw2, pw3, pw4, pw5, pw6⟩ := put_pure HCT.out JR.out hw.out hg.out HL.out hz.out hA.out
    have hq : fitB ql qn = true := by simpa [fitB, Pc.fit] using pw6
    have hjn := hid (fun W (h1 : At W T' x9) (h2 : At W U y) => Join_fit T' U x9 y qs qo ql qn W hq (hid pw5) (hid pw1) (hid pw2) h1 h2)
    obtain ⟨c0, f0⟩ := box_cell PB.out.b6
    obtain ⟨c1, f1⟩ := box_cell PB.out.b7
    obtain ⟨d0, d1, d2, d3⟩ := four_cells EB.out
    go_wp2_with (first
      | (go_at_call 20; refine (hjn.out _ PB.out.tx PB.out.uy).mono ?_; rintro e1 w1 ⟨z, rfl, hz1, hb1⟩; have PC := hid (PB.out.below hb1); have Z1 := hid hz1; clear hb1 hz1 c0 f0 c1 f1 d0 d1 d2 d3; obtain ⟨c0, c1, c2, f0, f1, f2⟩ := sh_cells PC.out.here))
    obtain ⟨F1, F2⟩ := PC.out.fin (e' := e + 1) hSh.out.lo Z1.out
    go_end0
    exact ⟨⟨_, rfl⟩, z, va7, _, ⟨T, U, T', _, b9, HCT.out, JR.out, rfl⟩, F1, F2, PC.out.own⟩

end Go.Proofs.YtmhpeppbhjpkiaaGreat

