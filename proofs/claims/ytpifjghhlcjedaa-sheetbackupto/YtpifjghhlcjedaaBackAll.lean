/- What is put in and taken out leaves the text: SheetBack (Meet, Out, Backp, Same, Backk, Backw, BackProof in one text). -/
import Derived.Test.YtpifjghhlcjedaaPutp
import Derived.Test.YtpifjghhlcjedaaAwp
import Derived.Test.YtpifjghhlcjedaaPcs
import Derived.Deep.CutRange
import Derived.Test.YtpifjghhlcjedaaAw
import Derived.Test.YtpifjghhlcjedaaNilWalk
import Derived.ProofKit
import Derived.OpenShut
import Derived.JoinedCond
import Derived.Deep.Matrix
import Derived.Lib.SmallJoins
namespace Go.Proofs.Ytpifjghhlcjedaa
open Go.RowKit

/-- How two trees meet. -/
def MeetR (L R t : Tr) : Prop :=
  (R.size = 0 ∧ t = Tr.gluT L R) ∨
  (∃ p T q b, R.list[0]? = some p ∧ JoinR L p T q b ∧ ((b = false ∧ t = Tr.gluT L R) ∨ (b = true ∧ t = Tr.joinT T q (Tr.splitT R 1).2)))

/-- meet's own variables behind w. -/
structure Mw (w W : World) (la ra : Option Addr) : Prop where
  below : Below w.heap.size w W
  b0 : W.heap[w.heap.size]? = some (.cells #[.pointer la] 26 (0, 0))
  b1 : W.heap[w.heap.size + 1]? = some (.cells #[.pointer ra] 26 (0, 0))
  b2 : W.heap[w.heap.size + 1 + 1]? = some (.cells #[.pointer none] 26 (0, 0))
theorem Mw.call {w W W' : World} {la ra : Option Addr} (h : Mw w W la ra) (hb : Below W.heap.size W W') : Mw w W' la ra :=
  ⟨h.below.trans (hb.mono h.below.size), (hb.block _ (sh_lt h.b0)).trans h.b0, (hb.block _ (sh_lt h.b1)).trans h.b1, (hb.block _ (sh_lt h.b2)).trans h.b2⟩
theorem Mw.cells {w W : World} {la ra : Option Addr} (h : Mw w W la ra) :
    W.cell? ⟨w.heap.size, 0, none⟩ = some (.pointer la) ∧ (W.cell? ⟨w.heap.size + 1, 0, none⟩ = some (.pointer ra) ∧ W.frozen? ⟨w.heap.size + 1, 0, none⟩ = false) ∧ (W.cell? ⟨w.heap.size + 1 + 1, 0, none⟩ = some (.pointer none) ∧ W.frozen? ⟨w.heap.size + 1 + 1, 0, none⟩ = false) := ⟨(box_cell h.b0).1, box_cell h.b1, box_cell h.b2⟩
theorem Mw.set1 {w W : World} {la ra : Option Addr} (h : Mw w W la ra) (r' : Option Addr) : Mw w (W.setCell ⟨w.heap.size + 1, 0, none⟩ (.pointer r')) la r' ∧ Nods W (W.setCell ⟨w.heap.size + 1, 0, none⟩ (.pointer r')) :=
  ⟨⟨bset h.below (by omega) _ _, (Below.heap_setCell _ _ _ _ (by simp)).trans h.b0, box_set h.b1 _, (Below.heap_setCell _ _ _ _ (by simp)).trans h.b2⟩, fun b cs hb => by
    by_cases e : b = w.heap.size + 1
    · subst e; rw [h.b1] at hb; cases hb
    · exact (Below.heap_setCell _ _ _ _ e).trans hb⟩
theorem Mw.fin {w W : World} {la ra x : Option Addr} {T : Tr} (h : Mw w W la ra) (hT : At W T x) : At (W.setCell ⟨w.heap.size + 1 + 1, 0, none⟩ (.pointer x)) T x ∧ Below w.heap.size w (W.setCell ⟨w.heap.size + 1 + 1, 0, none⟩ (.pointer x)) :=
  ⟨Nods.at (w := W) (fun b cs hb => by
    by_cases e : b = w.heap.size + 1 + 1
    · subst e; rw [h.b2] at hb; cases hb
    · exact (Below.heap_setCell _ _ _ _ e).trans hb) hT, bset h.below (by omega) _ _⟩

def MeetGave (w : World) (t : Tr) (e : Ending) (w' : World) : Prop := ∃ x, e = .returned (.agg #[.pointer x]) ∧ At w' t x ∧ Below w.heap.size w w'

set_option maxHeartbeats 2000000 in
/-- The right tree has no pieces. -/
theorem meet_nil (L R : Tr) (la ra : Option Addr) (w : World) (hL : Hid (At w L la)) (hR : Hid (At w R ra)) (h0 : Hid (R.size = 0)) (wl : Hid L.whole) (wr : Hid R.whole) (fl : Hid L.fine) (hz : Hid (fineL (L.list ++ R.list))) :
    Calls Try.prog 107 #[.agg #[.pointer la], .agg #[.pointer ra]] w (MeetGave w (Tr.gluT L R)) := by
  have hM : Mw w (((w.alloc (.cells #[.pointer la] 26)).alloc (.cells #[.pointer ra] 26)).alloc (.cells #[.pointer none] 26)) la ra :=
    ⟨bAAA w _ _ _, ((Below.heap_alloc _ _ _ (by simp; omega)).trans (Below.heap_alloc _ _ _ (by simp))).trans (World.alloc_heap_new w _), (Below.heap_alloc _ _ _ (by simp)).trans (alloc2_here w _ _), alloc3_here w _ _ _⟩
  obtain ⟨W0, hW0⟩ : ∃ W0, ((w.alloc (.cells #[.pointer la] 26)).alloc (.cells #[.pointer ra] 26)).alloc (.cells #[.pointer none] 26) = W0 := ⟨_, rfl⟩
  rw [hW0] at hM
  obtain ⟨c0, ⟨c1, f1⟩, ⟨c2, f2⟩⟩ := hM.cells
  have HM := hid hM
  clear hM
  have HG := hid (fun W (hW : At W R ra) => Get_no R ra 0 W (by rw [h0.out]; simp) hW)
  have HJ := hid (fun W (hW : At W L la) => joinLast_any L la ⟨0, 0, 0, 0⟩ W hW fl.out wl.out (by simp) (by simp) ⟨by simp, by simp⟩)
  simp only [Pc.v] at HJ
  have HU := hid (fun W (h1 : At W L la) (h2 : At W R ra) => Join_glue L R la ra 0 0 0 0 W (by decide) hz wl wr h1 h2)
  go_enter Try.func107, Try.ntmps107
  go_wp2_with (first
    | (go_at_call 24; refine (HG.out _ (hR.out.keep HM.out.below)).mono ?_; rintro e w9 ⟨rfl, hb9⟩; have M9 := hid ((HM.out.call hb9).call (bAlloc (Below.refl _ _) (.cells #[.int .i64 0, .int .i64 0, .int .i64 0, .int .i64 0] 32))); clear c0 c1 f1 c2 f2 hb9 hW0; obtain ⟨c0, ⟨c1, f1⟩, ⟨c2, f2⟩⟩ := M9.out.cells)
    | (go_at_call 105; refine (HJ.out _ (hL.out.keep M9.out.below)).mono ?_; rintro e w8 ⟨T, ⟨qs, qo, ql, qn⟩, b, hjr, x8, rfl, hx8, hb8⟩; simp only [Pc.v]; have M8 := hid ((M9.out.call hb8).call (bAA w8 (.cells #[.pointer x8] 26) (.cells #[.int .i64 qs, .int .i64 qo, .int .i64 ql, .int .i64 qn] 32))); clear c0 c1 f1 c2 f2 hb8 hx8 hjr; obtain ⟨c0, ⟨c1, f1⟩, ⟨c2, f2⟩⟩ := M8.out.cells)
    | (go_at_call 13; refine (HU.out _ (hL.out.keep M8.out.below) (hR.out.keep M8.out.below)).mono ?_; rintro e w7 ⟨x7, rfl, hx7, hb7⟩; have M7 := hid (M8.out.call hb7); have X7 := hid hx7; clear c0 c1 f1 c2 f2 hb7 hx7; obtain ⟨c0, ⟨c1, f1⟩, ⟨c2, f2⟩⟩ := M7.out.cells))
  obtain ⟨F1, F2⟩ := M7.out.fin X7.out
  exact bodyPost_ret (v := .agg #[.pointer x7]) (by simp [results, Try.results107, go_sem, c2]) rfl ⟨x7, rfl, F1, F2⟩

/-- The first piece of a list taken off. -/
theorem txt_first {O A : List UInt8} {R : Tr} {p : Pc} (hp : R.list[0]? = some p) : R.list = p :: (Tr.splitT R 1).2.list ∧ txt O A R.list = pcs O A p ++ txt O A (Tr.splitT R 1).2.list := by
  have q := (Tr.splitT_list R 1).2
  have e : R.list = p :: R.list.drop 1 := by
    cases hl : R.list with
    | nil => rw [hl] at hp; cases hp
    | cons a l => rw [hl] at hp; simp at hp; rw [hp]; rfl
  refine ⟨by rw [q]; exact e, ?_⟩
  rw [q]
  conv => lhs; rw [e]
  rw [txt_cons]

/-- What comes of trees that meet. -/
theorem MeetR.ok {O A : List UInt8} {L R t : Tr} (h : MeetR L R t) (wl : L.whole) (wr : R.whole) (gl : Gds O A L.list) (gr : Gds O A R.list) (hz : (txt O A L.list).length + (txt O A R.list).length ≤ 1048576) :
    t.whole ∧ Gds O A t.list ∧ txt O A t.list = txt O A L.list ++ txt O A R.list := by
  have glue : (Tr.gluT L R).whole ∧ Gds O A (Tr.gluT L R).list ∧ txt O A (Tr.gluT L R).list = txt O A L.list ++ txt O A R.list := by
    rw [Tr.gluT_list]
    exact ⟨Tr.gluT_whole wl wr, gl.append gr, txt_append _ _ _ _⟩
  rcases h with ⟨_, rfl⟩ | ⟨p, T, q, b, hp, hj, ⟨_, rfl⟩ | ⟨_, rfl⟩⟩
  · exact glue
  · exact glue
  · obtain ⟨e1, e2⟩ := txt_first (O := O) (A := A) hp
    have hpg := gr.at hp
    rw [e2, List.length_append] at hz
    obtain ⟨j1, j2, j3, j4, j5⟩ := hj.ok wl gl hpg (by omega)
    rw [Tr.joinT_list]
    have g3 : Gds O A (Tr.splitT R 1).2.list := fun x hx => gr x (by rw [e1]; simp [hx])
    refine ⟨Tr.joinT_whole _ j1 (Tr.splitT_whole R 1 wr.1).2, j2.append (Gds.cons j3 g3), ?_⟩
    rw [txt_append, txt_cons, ← List.append_assoc, j4, e2, List.append_assoc]

set_option maxHeartbeats 4000000 in
/-- The right tree has a first piece. -/
theorem meet_some (O A : List UInt8) (L R : Tr) (la ra : Option Addr) (ps po pl pn : Int) (w : World) (hL : Hid (At w L la)) (hR : Hid (At w R ra)) (hp : Hid (R.list[0]? = some ⟨ps, po, pl, pn⟩)) (wl : Hid L.whole) (wr : Hid R.whole) (gl : Hid (Gds O A L.list)) (gr : Hid (Gds O A R.list)) (hz : Hid ((txt O A L.list).length + (txt O A R.list).length ≤ 1048576)) :
    Calls Try.prog 107 #[.agg #[.pointer la], .agg #[.pointer ra]] w fun e w' => ∃ t, MeetR L R t ∧ MeetGave w t e w' := by
  have hM : Mw w (((w.alloc (.cells #[.pointer la] 26)).alloc (.cells #[.pointer ra] 26)).alloc (.cells #[.pointer none] 26)) la ra :=
    ⟨bAAA w _ _ _, ((Below.heap_alloc _ _ _ (by simp; omega)).trans (Below.heap_alloc _ _ _ (by simp))).trans (World.alloc_heap_new w _), (Below.heap_alloc _ _ _ (by simp)).trans (alloc2_here w _ _), alloc3_here w _ _ _⟩
  obtain ⟨W0, hW0⟩ : ∃ W0, ((w.alloc (.cells #[.pointer la] 26)).alloc (.cells #[.pointer ra] 26)).alloc (.cells #[.pointer none] 26) = W0 := ⟨_, rfl⟩
  rw [hW0] at hM
  obtain ⟨c0, ⟨c1, f1⟩, ⟨c2, f2⟩⟩ := hM.cells
  have HM := hid hM
  clear hM
  have hrs : 0 < R.size := by rw [← R.size_list]; have := (List.getElem?_eq_some_iff.1 hp.out).1; omega
  have fl : L.fine := (Tr.fine_list L).2 (gl.out.fine (by have := hz.out; omega))
  have fr : R.fine := (Tr.fine_list R).2 (gr.out.fine (by have := hz.out; omega))
  have hpf := (gr.out.at hp.out).fit
  simp only [Pc.fit] at hpf
  have HG : Hid (∀ W, At W R ra → Calls Try.prog 24 #[.agg #[.pointer ra], .int .i64 0] W fun e w' => e = .returned (.tuple #[.agg #[.int .i64 ps, .int .i64 po, .int .i64 pl, .int .i64 pn], .int .i64 0]) ∧ Below W.heap.size W w') := fun W hW =>
    (Get_yes R ra 0 W hrs fr.2 hW).mono fun e w' ⟨s1, o1, n1, k1, h1, h2, h3⟩ => by
      rw [hp.out] at h1
      cases h1
      exact ⟨h2, h3⟩
  have HJ := hid (fun W (hW : At W L la) => joinLast_any L la ⟨ps, po, pl, pn⟩ W hW fl wl.out (by simp only; omega) (by simp only; omega) ⟨by simp only; omega, by simp only; omega⟩)
  simp only [Pc.v] at HJ
  have HU := hid (fun W (h1 : At W L la) (h2 : At W R ra) => Join_glue L R la ra 0 0 0 0 W (by decide) (hid (by rw [show L.list ++ R.list = (Tr.gluT L R).list from (Tr.gluT_list L R).symm, Tr.gluT_list]; exact (gl.out.append gr.out).fine (by rw [txt_append, List.length_append]; exact hz.out))) wl wr h1 h2)
  have HSp := hid (fun W (hW : At W R ra) => Split_yes R ra 1 W (show 1 ≤ R.size from hrs) fr wr hW)
  have HJn := hid (fun T qs qo ql qn b x y W (hjr : JoinR L ⟨ps, po, pl, pn⟩ T ⟨qs, qo, ql, qn⟩ b) (h1 : At W T x) (h2 : At W (Tr.splitT R 1).2 y) => by
    obtain ⟨e1, e2⟩ := txt_first (O := O) (A := A) hp.out
    have hz' := hz.out
    rw [e2, List.length_append] at hz'
    obtain ⟨j1, j2, j3, j4, j5⟩ := hjr.ok wl.out gl.out (gr.out.at hp.out) (by omega)
    have hf : fitB ql qn = true := by simpa [fitB, Pc.fit] using j3.fit
    have g3 : Gds O A (Tr.splitT R 1).2.list := fun x hx => gr.out x (by rw [e1]; simp [hx])
    refine Join_fit T (Tr.splitT R 1).2 x y qs qo ql qn W hf (hid ((j2.append (Gds.cons j3 g3)).fine ?_)) j1 (Tr.splitT_whole R 1 wr.out.1).2 h1 h2
    rw [txt_append, txt_cons, ← List.append_assoc, j4, List.length_append, List.length_append]
    omega)
  go_enter Try.func107, Try.ntmps107
  go_wp2_with (first
    | (go_at_call 24; refine (HG.out _ (hR.out.keep HM.out.below)).mono ?_; rintro e w9 ⟨rfl, hb9⟩; have M9 := hid ((HM.out.call hb9).call (bAlloc (Below.refl _ _) (.cells #[.int .i64 ps, .int .i64 po, .int .i64 pl, .int .i64 pn] 32))); clear c0 c1 f1 c2 f2 hb9 hW0; obtain ⟨c0, ⟨c1, f1⟩, ⟨c2, f2⟩⟩ := M9.out.cells)
    | (go_at_call 105; refine (HJ.out _ (hL.out.keep M9.out.below)).mono ?_; rintro e w8 ⟨T, ⟨qs, qo, ql, qn⟩, b, hjr, x8, rfl, hx8, hb8⟩; simp only [Pc.v]; have z8 := sh_lt (M9.out.call hb8).b2; have M8 := hid ((M9.out.call hb8).call (bAA w8 (.cells #[.pointer x8] 26) (.cells #[.int .i64 qs, .int .i64 qo, .int .i64 ql, .int .i64 qn] 32))); have X8 := hid (hx8.keep (bAA w8 (.cells #[.pointer x8] 26) (.cells #[.int .i64 qs, .int .i64 qo, .int .i64 ql, .int .i64 qn] 32))); have E1 := hid ((Below.heap_alloc (w8.alloc (.cells #[.pointer x8] 26)) (.cells #[.int .i64 qs, .int .i64 qo, .int .i64 ql, .int .i64 qn] 32) w8.heap.size (by simp)).trans (World.alloc_heap_new w8 _)); have E2 := hid (alloc2_here w8 (.cells #[.pointer x8] 26) (.cells #[.int .i64 qs, .int .i64 qo, .int .i64 ql, .int .i64 qn] 32)); have JR := hid hjr; clear c0 c1 f1 c2 f2 hb8 hx8 hjr; obtain ⟨c0, ⟨c1, f1⟩, ⟨c2, f2⟩⟩ := M8.out.cells)
    | (go_at_call 13; refine (HU.out _ (hL.out.keep M8.out.below) (hR.out.keep M8.out.below)).mono ?_; rintro e w7 ⟨x7, rfl, hx7, hb7⟩; have M7 := hid (M8.out.call hb7); have X7 := hid hx7; clear c0 c1 f1 c2 f2 hb7 hx7; obtain ⟨c0, ⟨c1, f1⟩, ⟨c2, f2⟩⟩ := M7.out.cells))
  · rename_i hb
    obtain ⟨F1, F2⟩ := M7.out.fin X7.out
    exact bodyPost_ret (v := .agg #[.pointer x7]) (by simp [results, Try.results107, go_sem, c2]) rfl ⟨_, .inr ⟨_, T, _, b, hp.out, JR.out, .inl ⟨by simpa using hb, rfl⟩⟩, x7, rfl, F1, F2⟩
  · have HB : Hid (b = true) := hid (by
      cases b with
      | true => rfl
      | false => first | contradiction | simp_all)
    clear c0 c1 f1 c2 f2
    have lt8 := sh_lt E1.out
    have lt9 := sh_lt E2.out
    have n1 : ¬ (w8.heap.size = w.heap.size + 1) := by omega
    have n2 : ¬ (w.heap.size + 1 = w8.heap.size) := by omega
    have n3 : ¬ (w8.heap.size + 1 = w.heap.size + 1) := by omega
    have n4 : ¬ (w.heap.size + 1 = w8.heap.size + 1) := by omega
    have n5 : ¬ (w8.heap.size = w.heap.size) := by omega
    have n6 : ¬ (w.heap.size = w8.heap.size) := by omega
    generalize (w8.alloc (.cells #[.pointer x8] 26)).alloc (.cells #[.int .i64 qs, .int .i64 qo, .int .i64 ql, .int .i64 qn] 32) = W8 at *
    obtain ⟨c0, ⟨c1, f1⟩, ⟨c2, f2⟩⟩ := M8.out.cells
    obtain ⟨d0, d1⟩ := box_cell E1.out
    obtain ⟨e0, e1, e2, e3⟩ := four_cells E2.out
    go_wp2_with (first
      | (go_at_call 15; refine (HSp.out _ (hR.out.keep M8.out.below)).mono ?_; rintro e w6 ⟨x6, y6, rfl, hx6, hy6, hb6⟩; have M6 := hid (M8.out.call hb6); have Y6 := hid hy6; have X6 := hid (X8.out.keep hb6); have G1 := hid ((hb6.block _ lt8).trans E1.out); have G2 := hid ((hb6.block _ lt9).trans E2.out); clear c0 c1 f1 c2 f2 d0 d1 e0 e1 e2 e3 hb6 hx6 hy6; obtain ⟨c0, ⟨c1, f1⟩, ⟨c2, f2⟩⟩ := M6.out.cells; obtain ⟨d0, d1⟩ := box_cell G1.out; obtain ⟨e0, e1, e2, e3⟩ := four_cells G2.out)
      | (go_at_call 13; refine (HJn.out T qs qo ql qn b x8 y6 _ JR.out ((M6.out.set1 y6).2.at X6.out) ((M6.out.set1 y6).2.at Y6.out)).mono ?_; rintro e w5 ⟨x5, rfl, hx5, hb5⟩; have M5 := hid ((M6.out.set1 y6).1.call hb5); have X5 := hid hx5; clear c0 c1 f1 c2 f2 d0 d1 e0 e1 e2 e3 hb5 hx5; obtain ⟨c0, ⟨c1, f1⟩, ⟨c2, f2⟩⟩ := M5.out.cells))
    obtain ⟨F1, F2⟩ := M5.out.fin X5.out
    exact bodyPost_ret (v := .agg #[.pointer x5]) (by simp [results, Try.results107, go_sem, c2]) rfl ⟨_, .inr ⟨_, T, _, b, hp.out, JR.out, .inr ⟨HB.out, rfl⟩⟩, x5, rfl, F1, F2⟩

theorem meet_any (O A : List UInt8) (L R : Tr) (la ra : Option Addr) (w : World) (hL : At w L la) (hR : At w R ra) (wl : L.whole) (wr : R.whole) (gl : Gds O A L.list) (gr : Gds O A R.list) (hz : (txt O A L.list).length + (txt O A R.list).length ≤ 1048576) :
    Calls Try.prog 107 #[.agg #[.pointer la], .agg #[.pointer ra]] w fun e w' => ∃ t, MeetR L R t ∧ MeetGave w t e w' := by
  rcases Nat.eq_zero_or_pos R.size with h0 | h0
  · refine (meet_nil L R la ra w (hid hL) (hid hR) (hid h0) (hid wl) (hid wr) (hid ((Tr.fine_list L).2 (gl.fine (by omega)))) (hid ((gl.append gr).fine (by rw [txt_append, List.length_append]; exact hz)))).mono fun e w' k => ⟨_, .inl ⟨h0, rfl⟩, k⟩
  · have hlt : 0 < R.list.length := by rw [R.size_list]; exact h0
    obtain ⟨⟨ps, po, pl, pn⟩, hp⟩ : ∃ r, R.list[0]? = some r := ⟨_, List.getElem?_eq_getElem hlt⟩
    exact meet_some O A L R la ra ps po pl pn w (hid hL) (hid hR) (hid hp) (hid wl) (hid wr) (hid gl) (hid gr) (hid hz)

end Go.Proofs.Ytpifjghhlcjedaa

namespace Go.Proofs.Ytpifjghhlcjedaa
open Go.RowKit

/-- How bytes are taken out of a tree. -/
def OutR (O A : List UInt8) (t : Tr) (x y : Int) (t' : Tr) : Prop := ∃ T U T1 U1, CutR O A t y T U ∧ CutR O A T x T1 U1 ∧ MeetR T1 U t'

theorem OutR.ok {O A : List UInt8} {t t' : Tr} {x y : Int} (h : OutR O A t x y t') (hw : t.whole) (hg : Gds O A t.list) (hz : (txt O A t.list).length ≤ 1048575) (h1 : x ≤ y) :
    t'.whole ∧ Gds O A t'.list ∧ txt O A t'.list = (txt O A t.list).take x.toNat ++ (txt O A t.list).drop y.toNat := by
  obtain ⟨T, U, T1, U1, hc, hd, hm⟩ := h
  obtain ⟨a1, a2, a3, a4, a5, a6, a7⟩ := hc.ok hw hg
  obtain ⟨b1, b2, b3, b4, b5, b6, b7⟩ := hd.ok a1 a3
  have e : txt O A T1.list = (txt O A t.list).take x.toNat := by rw [b5, a5, List.take_take]; congr 1; omega
  obtain ⟨c1, c2, c3⟩ := hm.ok b1 a2 b3 a4 (by rw [e, a6, List.length_take, List.length_drop]; omega)
  exact ⟨c1, c2, by rw [c3, e, a6]⟩

/-- What takeOut leaves. -/
def OutGave (w : World) (base sb bb : Nat) (vo va : Value) (O A : List UInt8) (t : Tr) (x y e : Int) (w' : World) : Prop :=
  ∃ a' t', OutR O A t x y t' ∧ Sh w' base sb bb vo va O A t' a' (e + 1) ∧ Chg w w' sb bb va.ownBlock

set_option maxHeartbeats 4000000 in
theorem takeOut_some (sb bb : Nat) (vo va : Value) (O A : List UInt8) (t : Tr) (a : Option Addr) (e : Int) (base : Nat) (x y : Int) (w : World)
    (hSh : Hid (Sh w base sb bb vo va O A t a e)) (hw : Hid t.whole) (hg : Hid (Gds O A t.list)) (hz : Hid ((txt O A t.list).length ≤ 1048574)) (hne : (x == y) = false) (h0 : 0 ≤ x) (h1 : x ≤ y) (h2 : y ≤ t.byt) (he : 0 ≤ e ∧ e ≤ 4611686018427387904) :
    Calls Try.prog 79 #[.pointer (some ⟨sb, 0, none⟩), .int .i64 x, .int .i64 y] w fun e' w' => (∃ r, e' = .returned r) ∧ OutGave w base sb bb vo va O A t x y e w' := by
  have htx := len_le_txt hg.out
  have hsz : t.size ≤ (txt O A t.list).length := by rw [← t.size_list]; exact htx
  have hfine : t.fine := (Tr.fine_list t).2 (hg.out.fine (by have := hz.out; omega))
  have hbt := txt_len hg.out
  rw [← byt_list] at hbt
  have hcut := hid (fun W (hW : Below w.heap.size w W) => cut_any sb (some ⟨bb, 0, none⟩) (.pointer a) (.int .i64 e) O A base t a y W (hSh.out.shb.keep hW) (hSh.out.tree.keep hW) (by omega) h2 hw.out hfine hg.out (by have := hz.out; omega))
  have hcut2 := hid (fun T U x6 W (hc : CutR O A t y T U) (hW : ShB W base sb (some ⟨bb, 0, none⟩) (.pointer a) (.int .i64 e) O A) (hT : At W T x6) => by
    obtain ⟨a1, a2, a3, a4, a5, a6, a7⟩ := hc.ok hw.out hg.out
    have hl : (txt O A T.list).length = y.toNat := by rw [a5, List.length_take]; omega
    have hb2 := txt_len a3
    rw [← byt_list] at hb2
    have hz' := hz.out
    have hs2 := len_le_txt a3
    rw [T.size_list] at hs2
    exact cut_any sb (some ⟨bb, 0, none⟩) (.pointer a) (.int .i64 e) O A base T x6 x W hW hT h0 (by omega) a1 ((Tr.fine_list T).2 (a3.fine (by omega))) a3 (by omega))
  have hmeet := hid (fun T U T1 U1 la ra W (hc : CutR O A t y T U) (hd : CutR O A T x T1 U1) (hL : At W T1 la) (hR : At W U ra) => by
    obtain ⟨a1, a2, a3, a4, a5, a6, a7⟩ := hc.ok hw.out hg.out
    obtain ⟨b1, b2, b3, b4, b5, b6, b7⟩ := hd.ok a1 a3
    exact meet_any O A T1 U la ra W hL hR b1 a2 b3 a4 (by have := hz.out; rw [b5, a5, a6, List.length_take, List.length_take, List.length_drop]; omega))
  obtain ⟨c0, c1, c2, f0, f1, f2⟩ := sh_cells hSh.out.here
  clear htx hsz hfine hbt
  go_enter Try.func79, Try.ntmps79
  go_wp2_with (first
    | (go_at_call 104; refine (hcut.out _ (Below.refl _ _)).mono ?_; rintro e9 w9 ⟨T, U, hct, x9, y9, rfl, hx, hy, hb9⟩; have P0 := Pw.start hSh.out hb9 hx hy; have HCT := hid hct; clear hct hx hy hb9 c0 c1 c2 f0 f1 f2 hcut; obtain ⟨c6, f6⟩ := box_cell P0.b6; obtain ⟨c7, f7⟩ := box_cell P0.b7; have HP := hid P0; clear P0)
    | (go_at_call 104; refine (hcut2.out T U x9 _ HCT.out HP.out.shb HP.out.tx).mono ?_; rintro e8 w8 ⟨T1, U1, hct2, x8, y8, rfl, hx8, hy8, hb8⟩; have P8 := HP.out.below hb8; have HCT2 := hid hct2; have X8 := hid hx8; clear hct2 hx8 hy8 c6 f6 c7 f7 hb8 hcut2; obtain ⟨c6, f6⟩ := box_cell P8.b6; obtain ⟨c7, f7⟩ := box_cell P8.b7; have n67 : ¬ (w9.heap.size = w9.heap.size + 1) := (by omega); have HP8 := hid P8; have HP7 := hid (P8.set6 X8.out); clear P8)
    | (go_at_call 107; refine (hmeet.out T U T1 U1 x8 y9 _ HCT.out HCT2.out HP7.out.tx HP7.out.uy).mono ?_; rintro e7 w7 ⟨t7, hm7, x7, rfl, hx7, hb7⟩; have HP6 := hid (HP7.out.below hb7); have HM7 := hid hm7; have X7 := hid hx7; clear hm7 hx7 hb7 c6 f6 c7 f7; obtain ⟨c0, c1, c2, f0, f1, f2⟩ := sh_cells HP6.out.here))
  obtain ⟨F1, F2⟩ := HP6.out.fin (e' := e + 1) hSh.out.lo X7.out
  go_end0
  exact ⟨⟨_, rfl⟩, x7, t7, ⟨T, U, T1, U1, HCT.out, HCT2.out, HM7.out⟩, F1, F2⟩

set_option maxHeartbeats 1000000 in
theorem Delete_some (sb bb : Nat) (vo va : Value) (O A : List UInt8) (t : Tr) (a : Option Addr) (e : Int) (base : Nat) (x y : Int) (w : World)
    (hSh : Hid (Sh w base sb bb vo va O A t a e)) (hw : Hid t.whole) (hg : Hid (Gds O A t.list)) (hz : Hid ((txt O A t.list).length ≤ 1048574)) (hne : (x == y) = false) (h0 : 0 ≤ x) (h1 : x ≤ y) (h2 : y ≤ t.byt) (he : 0 ≤ e ∧ e ≤ 4611686018427387904) :
    Calls Try.prog 42 #[.pointer (some ⟨sb, 0, none⟩), .int .i64 x, .int .i64 y] w fun e' w' => e' = .returned (.int .i64 0) ∧ ∃ w1, Below w.heap.size w w1 ∧ OutGave w1 base sb bb vo va O A t x y e w' := by
  have hr : decide (0 ≤ x ∧ x ≤ y ∧ y ≤ t.byt) = true := by simp; omega
  have HR := hid (fun W (hW : Below w.heap.size w W) => hasRange_any (some ⟨sb, 0, none⟩) a e t x y W (hSh.out.keep hW).sht (hSh.out.tree.keep hW))
  rw [hr] at HR
  have HP := hid (fun W (hW : Below w.heap.size w W) => takeOut_some sb bb vo va O A t a e base x y W (hSh.out.keep hW) hw hg hz hne h0 h1 h2 he)
  go_enter Try.func42, Try.ntmps42
  go_wp2_with (first
    | (go_at_call 77; refine (HR.out _ (Below.refl _ _)).mono ?_; rintro e9 w9 ⟨rfl, hb9⟩)
    | (go_at_call 79; refine (HP.out _ hb9).mono ?_; rintro e8 w8 ⟨⟨r8, rfl⟩, hp8⟩; have H8 := hid hp8; clear hp8))
  go_ret
  exact ⟨rfl, w9, hb9, H8.out⟩

end Go.Proofs.Ytpifjghhlcjedaa

namespace Go.Proofs.Ytpifjghhlcjedaa
open Go.RowKit

/-- A span of a piece. -/
def span (p : Pc) : Int × Int × Int := (p.s, p.o, p.l)

theorem new_list {l : List UInt8} {t : Tr} (h : NewR l t) : t.list = if l = [] then [] else [⟨0, 0, l.length, Ab.nl l⟩] := by
  rcases h with ⟨rfl, rfl⟩ | ⟨hl, rfl⟩
  · rw [Tr.gluT_list]; rfl
  · rw [Tr.joinT_list, if_neg hl]; rfl

theorem sB_nil : sB [] = 0 := rfl
theorem sB_one (p : Pc) : sB [p] = p.l := by simp [sB]
theorem sB_two (p q : Pc) : sB [p, q] = p.l + q.l := by simp [sB]

/-- A cut where a list of pieces parts. -/
theorem cut_between {O A : List UInt8} {t T U : Tr} {L M : List Pc} {off : Int} (h : CutR O A t off T U) (hl : t.list = L ++ M) (hg : Gds O A t.list) (ho : off = sB L) : T.list = L ∧ U.list = M := by
  have pos : ∀ {K : List Pc}, (∀ p ∈ K, 1 ≤ p.l) → K ≠ [] → 0 < sB K := fun {K} hK hne => by
    obtain ⟨q, qs, rfl⟩ := List.exists_cons_of_ne_nil hne
    have h1 := hK q (by simp)
    have h2 : ∀ (qs : List Pc), (∀ p ∈ qs, 1 ≤ p.l) → 0 ≤ sB qs := fun qs => by
      induction qs with
      | nil => intro _; simp [sB]
      | cons a l ih => intro h; rw [sB_cons]; have := h a (by simp); have := ih (fun p hp => h p (by simp [hp])); omega
    have := h2 qs (fun p hp => hK p (by simp [hp]))
    rw [sB_cons]
    omega
  have nonneg : ∀ {K : List Pc}, (∀ p ∈ K, 1 ≤ p.l) → 0 ≤ sB K := fun {K} hK => by
    by_cases hne : K = []
    · rw [hne]; simp [sB]
    · have := pos hK hne; omega
  have hall : ∀ p ∈ t.list, 1 ≤ p.l := fun p hp => (hg p hp).pos
  have hL : ∀ p ∈ L, 1 ≤ p.l := fun p hp => hall p (by rw [hl]; simp [hp])
  have hM : ∀ p ∈ M, 1 ≤ p.l := fun p hp => hall p (by rw [hl]; simp [hp])
  have hb : t.byt = sB L + sB M := by rw [byt_list, hl, sB_append]
  rcases h with ⟨h0, rfl, rfl⟩ | ⟨h0, h1, rfl, rfl⟩ | ⟨j, x, p, h1, h2, hp, hx0, hx1, hq, hc⟩
  · have : L = [] := by
      by_cases hne : L = []
      · exact hne
      · have := pos hL hne; omega
    subst this
    exact ⟨rfl, by rw [hl]; rfl⟩
  · have : M = [] := by
      by_cases hne : M = []
      · exact hne
      · have := pos hM hne; omega
    subst this
    exact ⟨by rw [hl]; simp, rfl⟩
  · have hjlt := (List.getElem?_eq_some_iff.1 hp).1
    have hj : j = L.length := by
      rcases Nat.lt_trichotomy j L.length with hlt | he | hgt
      · exfalso
        have e1 : t.list.take j = L.take j := by rw [hl, List.take_append_of_le_length (by omega)]
        have e2 : L = L.take j ++ p :: L.drop (j + 1) := by
          have hp' : L[j]? = some p := by rw [hl, List.getElem?_append_left hlt] at hp; exact hp
          conv => lhs; rw [← List.take_append_drop j L]
          rw [List.drop_eq_getElem_cons hlt]
          obtain ⟨_, e⟩ := List.getElem?_eq_some_iff.1 hp'
          rw [e]
        have e3 : sB L = sB (L.take j) + (p.l + sB (L.drop (j + 1))) := by conv => lhs; rw [e2]; rw [sB_append, sB_cons]
        have e4 := nonneg (K := L.drop (j + 1)) (fun q hq => hL q (List.mem_of_mem_drop hq))
        rw [e1] at hq
        omega
      · exact he
      · exfalso
        have e1 : t.list.take j = L ++ M.take (j - L.length) := by rw [hl, List.take_append, List.take_of_length_le (by omega)]
        have e2 : M.take (j - L.length) ≠ [] := by
          intro h
          have := congrArg List.length h
          rw [List.length_take] at this
          rw [hl, List.length_append] at hjlt
          have := List.length_nil (α := Pc)
          omega
        have e3 := pos (K := M.take (j - L.length)) (fun q hq => hM q (List.mem_of_mem_take hq)) e2
        rw [e1, sB_append] at hq
        omega
    subst hj
    rw [hl, List.take_left] at hq
    have hx : x = 0 := by omega
    rcases hc with ⟨_, rfl, rfl⟩ | ⟨h, _⟩
    · exact ⟨by rw [(Tr.splitT_list t L.length).1, hl, List.take_left], by rw [(Tr.splitT_list t L.length).2, hl, List.drop_left]⟩
    · omega

/-- The pieces behind an insertion into a new sheet. -/
theorem put_shape {text l : List UInt8} {t0 t1 : Tr} {off : Int} (h0 : NewR text t0) (h1 : PutR text [] l t0 off t1) (hz : text.length ≤ 1048576) (_ho : 0 ≤ off) (hb : off ≤ t0.byt) :
    ∃ La Lb : List Pc, t1.list = La ++ newP [] l :: Lb ∧ sB La = off ∧ (La ++ Lb = t0.list ∨ ∃ a b w : Pc, La = [a] ∧ Lb = [b] ∧ t0.list = [w] ∧ span (bothP a b) = span w ∧ Ab.jnB a.s a.o a.l b.s b.o b.l = true) := by
  obtain ⟨T, U, T', q, bb, hc, hj, rfl⟩ := h1
  obtain ⟨n1, n2, n3, n4⟩ := h0.ok hz
  have hlist := new_list h0
  have hs0 : ∀ p ∈ t0.list, p.s = 0 := fun p hp => by
    rw [hlist] at hp
    split at hp
    · cases hp
    · simp at hp; rw [hp]
  -- the tree ahead holds pieces of the original alone
  have hT : ∀ p ∈ T.list, p.s = 0 := by
    rcases hc with ⟨_, rfl, rfl⟩ | ⟨_, _, rfl, rfl⟩ | ⟨j, x, p, _, _, hp, _, _, _, ⟨_, rfl, rfl⟩ | ⟨_, rfl, rfl⟩⟩
    · intro p hp; cases hp
    · exact hs0
    · intro p hp; rw [(Tr.splitT_list t0 j).1] at hp; exact hs0 p (List.mem_of_mem_take hp)
    · intro r hr
      rw [Tr.joinT_list, (Tr.splitT_list t0 j).1] at hr
      rcases List.mem_append.1 hr with hr | hr
      · exact hs0 r (List.mem_of_mem_take hr)
      · rcases List.mem_cons.1 hr with rfl | hr
        · exact hs0 p (List.mem_of_getElem? hp)
        · cases hr
  rcases hj with ⟨_, rfl, rfl, _⟩ | ⟨_, m, r, hm, hr, hjn, _, _⟩
  · refine ⟨T'.list, U.list, Tr.joinT_list _ _ _, ?_⟩
    rcases hc with ⟨e0, rfl, rfl⟩ | ⟨_, e0, rfl, rfl⟩ | ⟨j, x, p, e1, e2, hp, hx0, hx1, hq, hcc⟩
    · exact ⟨by rw [e0]; rfl, .inl rfl⟩
    · exact ⟨by rw [e0, byt_list], .inl (by simp [Tr.list])⟩
    · have hne : text ≠ [] := by
        rintro rfl
        rw [hlist] at hp
        simp at hp
      rw [if_neg hne] at hlist
      have hj0 : j = 0 := by
        rcases Nat.eq_zero_or_pos j with h | h
        · exact h
        · rw [hlist, List.getElem?_eq_none (by simp; omega)] at hp; cases hp
      subst hj0
      have hpw : p = ⟨0, 0, text.length, Ab.nl text⟩ := by rw [hlist] at hp; simpa using hp.symm
      have hxo : x = off := by rw [List.take_zero, sB_nil] at hq; omega
      rcases hcc with ⟨h, _⟩ | ⟨hx, rfl, rfl⟩
      · omega
      · have l1 : (Tr.joinT (Tr.splitT t0 0).1 (fstP text [] p x) (Tr.mk none)).list = [fstP text [] p x] := by rw [Tr.joinT_list, (Tr.splitT_list t0 0).1]; rfl
        have l2 : (Tr.joinT (Tr.mk none) (sndP text [] p x) (Tr.splitT t0 (0 + 1)).2).list = [sndP text [] p x] := by rw [Tr.joinT_list, (Tr.splitT_list t0 (0 + 1)).2, hlist]; rfl
        refine ⟨by rw [l1, sB_one]; exact hxo, .inr ⟨_, _, _, l1, l2, hlist, ?_, ?_⟩⟩
        · rw [hpw]; simp [span, bothP, fstP, sndP]; omega
        · have hpl : p.l = text.length := by rw [hpw]
          have c1 : Ab.sndB 0 0 x = true := snd_true ⟨.inl rfl, by omega, by omega, by omega⟩
          have c2 : Ab.sndB 0 (0 + x) ((text.length : Int) - x) = true := snd_true ⟨.inl rfl, by omega, by omega, by omega⟩
          rw [hpw]
          simp only [fstP, sndP, Ab.jnB]
          rw [c1, c2]
          simp
  · exfalso
    have hh := hT r (List.mem_of_getElem? hr)
    have := (Ab.jn_parts hjn).2.2.1
    rw [hh] at this
    simp [newP] at this

/-- What is put into a new sheet and taken out again leaves its spans. -/
theorem back_spans {text l : List UInt8} {t0 t1 t2 : Tr} {off : Int} (h0 : NewR text t0) (h1 : PutR text [] l t0 off t1) (h2 : OutR text ([] ++ l) t1 off (off + l.length) t2) (hg : Gds text ([] ++ l) t1.list) (hw : t1.whole) (hz : text.length ≤ 1048576) (ho : 0 ≤ off) (hb : off ≤ t0.byt) :
    t2.list.map span = t0.list.map span := by
  obtain ⟨La, Lb, e1, e2, e3⟩ := put_shape h0 h1 hz ho hb
  obtain ⟨T, U, T1, U1, hc, hd, hm⟩ := h2
  have hsp : t1.list = (La ++ [newP [] l]) ++ Lb := by rw [e1]; simp
  obtain ⟨a1, a2⟩ := cut_between hc hsp hg (by rw [sB_append, sB_one, e2]; rfl)
  obtain ⟨c1, c2, c3, c4, _, _, _⟩ := hc.ok hw hg
  obtain ⟨b1, b2⟩ := cut_between hd a1 c3 e2.symm
  have hlist := new_list h0
  have hlen : t0.list.length ≤ 1 := by rw [hlist]; split <;> simp
  have hU : U.list = Lb := a2
  have zU := U.size_list
  rw [hU] at zU
  have zT := T1.size_list
  rw [b1] at zT
  rcases hm with ⟨hz0, rfl⟩ | ⟨p, Tj, q, b, hp, hj, ⟨rfl, rfl⟩ | ⟨rfl, rfl⟩⟩
  · rw [Tr.gluT_list, b1, hU]
    rcases e3 with e3 | ⟨a, b, w, _, e4, _⟩
    · rw [e3]
    · rw [e4] at zU; simp at zU; omega
  · rw [Tr.gluT_list, b1, hU]
    rcases e3 with e3 | ⟨a, b, w, e4, e5, e6, e7, e8⟩
    · rw [e3]
    · exfalso
      rcases hj with ⟨_, _, _, hno⟩ | ⟨h, _⟩
      · rw [hU, e5] at hp
        have hpb : p = b := by simpa using hp.symm
        rw [e4] at zT
        have := hno 0 a (by simp at zT; omega) (by rw [b1, e4]; rfl)
        rw [hpb, e8] at this
        cases this
      · cases h
  · rw [Tr.joinT_list, (Tr.splitT_list U 1).2, hU]
    rcases hj with ⟨h, _⟩ | ⟨_, m, r, hm, hr, hjn, rfl, rfl⟩
    · cases h
    · rw [(Tr.splitT_list T1 m).1, b1]
      rw [b1] at hr
      rw [hU] at hp
      rcases e3 with e3 | ⟨a, b, w, e4, e5, e6, e7, e8⟩
      · exfalso
        have x1 := (List.getElem?_eq_some_iff.1 hr).1
        have x2 := (List.getElem?_eq_some_iff.1 hp).1
        rw [← e3, List.length_append] at hlen
        omega
      · subst e4 e5
        have hm0 : m = 0 := by simp at zT; omega
        subst hm0
        have ha : r = a := by simpa using hr.symm
        have hb' : p = b := by simpa using hp.symm
        rw [e6, ha, hb']
        simpa using e7

end Go.Proofs.Ytpifjghhlcjedaa

namespace Go.Proofs.Ytpifjghhlcjedaa
open Go.RowKit

theorem spcs_at {L : List Pc} {m : Nat} {p : Pc} (h : L[m]? = some p) (i : Nat) (hi : i < 3) : (spcs L)[m * 3 + i]? = (spc p)[i]? := by
  have hlt := (List.getElem?_eq_some_iff.1 h).1
  have e : L = L.take m ++ p :: L.drop (m + 1) := by
    conv => lhs; rw [← List.take_append_drop m L]
    rw [List.drop_eq_getElem_cons hlt]
    obtain ⟨_, e⟩ := List.getElem?_eq_some_iff.1 h
    rw [e]
  have l1 : (spcs (L.take m)).length = m * 3 := by rw [spcs_length, List.length_take]; omega
  conv => lhs; rw [e]
  unfold spcs at l1 ⊢
  rw [List.flatMap_append, List.getElem?_append_right (by omega), l1, List.flatMap_cons, List.getElem?_append_left (by simp [spc]; omega)]
  congr 1
  omega

theorem own_span {w : World} {B n c : Nat} {ao : Option Addr} {L : List Pc} {m : Nat} {p : Pc} (h : w.ownsRow B 30 3 (.slice ao n c) n (spcs L)) (hp : L[m]? = some p) (hn : L.length = n) :
    ∃ g, ao = some ⟨g, 0, none⟩ ∧ w.cell? ⟨g, m * 3, none⟩ = some (.int .i64 p.s) ∧ w.cell? ⟨g, m * 3 + 1, none⟩ = some (.int .i64 p.o) ∧ w.cell? ⟨g, m * 3 + 2, none⟩ = some (.int .i64 p.l) := by
  have hlt := (List.getElem?_eq_some_iff.1 hp).1
  rcases h.2 with ⟨_, h0⟩ | ⟨g, cap, cur, e, _⟩
  · omega
  · cases e
    have hc := fun i (hi : i < 3) u (hu : (spc p)[i]? = some u) => h.cells (g := g) rfl (m * 3 + i) u (by rw [spcs_at hp i hi]; exact hu)
    have ad : ∀ j, (⟨g, 0, none⟩ : Addr).add j = ⟨g, j, none⟩ := fun j => by unfold Addr.add; split <;> simp_all
    refine ⟨g, rfl, ?_, ?_, ?_⟩
    · have := hc 0 (by omega) _ rfl
      rwa [ad] at this
    · have := hc 1 (by omega) _ rfl
      rwa [ad] at this
    · have := hc 2 (by omega) _ rfl
      rwa [ad] at this

set_option maxRecDepth 100000 in
set_option maxHeartbeats 2000000 in
theorem sameSpans_any (a1 : Option Addr) (c1 : Nat) (a2 : Option Addr) (c2 B1 B2 n : Nat) (L M : List Pc) (w : World) (hz : n ≤ 1048576) (hL : Hid (L.length = n)) (hM : Hid (L.map span = M.map span)) (h1 : Hid (w.ownsRow B1 30 3 (.slice a1 n c1) n (spcs L))) (h2 : Hid (w.ownsRow B2 30 3 (.slice a2 n c2) n (spcs M))) :
    Calls Try.prog 43 #[.slice a1 n c1, .slice a2 n c2] w fun e w' => e = .returned (.bool true) ∧ Below w.heap.size w w' := by
  go_enter Try.func43, Try.ntmps43
  go_wp2
  go_loopw [13] (fun i wq => ∃ m : Nat, m ≤ n ∧ i = .int .i64 m ∧ Below w.heap.size w wq) (fun i _ => n - (intOf i).toNat)
  case atStart => exact ⟨0, Nat.zero_le _, rfl, Below.refl _ _⟩
  case round =>
    obtain ⟨m, hm, rfl, hb⟩ := hrel
    have HB := hid hb
    clear hb
    by_cases hmt : m < n
    · have hl := hL.out
      obtain ⟨p, hp⟩ : ∃ p, L[m]? = some p := ⟨_, List.getElem?_eq_getElem (by omega)⟩
      have hl2 : M.length = n := by have := congrArg List.length hM.out; simp at this; omega
      obtain ⟨q, hq⟩ : ∃ q, M[m]? = some q := ⟨_, List.getElem?_eq_getElem (by omega)⟩
      have hpq : span p = span q := by
        have e := congrArg (fun X => X[m]?) hM.out
        simp only [List.getElem?_map, hp, hq, Option.map_some] at e
        exact Option.some.inj e
      obtain ⟨g1, rfl, r0, r1, r2⟩ := own_span (Ab.own_keep h1.out HB.out) hp hl
      obtain ⟨g2, rfl, q0, q1, q2⟩ := own_span (Ab.own_keep h2.out HB.out) hq hl2
      obtain ⟨s, o, l, nn⟩ := p
      obtain ⟨s', o', l', nn'⟩ := q
      simp only [span, Prod.mk.injEq] at hpq
      obtain ⟨rfl, rfl, rfl⟩ := hpq
      simp only at r0 r1 r2 q0 q1 q2
      have hm0 : (0 : Int) ≤ (m : Int) := by omega
      have hml : (m : Int) < (n : Int) := by omega
      clear hp hq hl hl2
      go_wp2
      go_region
      go_wp2
      go_roundw
      case rel => exact ⟨m + 1, by omega, by go_num, HB.out.drew⟩
      case measure => simp [intOf]; omega
    · obtain rfl : m = n := by omega
      go_wp2
      go_ret
      exact ⟨rfl, HB.out⟩

end Go.Proofs.Ytpifjghhlcjedaa

namespace Go.Proofs.Ytpifjghhlcjedaa
open Go.RowKit

set_option maxHeartbeats 400000 in
theorem putIn_none (p x : Value) (ao : Option Addr) (c : Nat) (w : World) : Calls Try.prog 78 #[p, x, .slice ao 0 c] w fun e' w' => (∃ r, e' = .returned r) ∧ Below w.heap.size w w' := by
  go_enter Try.func78, Try.ntmps78
  go_wp2
  refine bodyPost_ret (results_none rfl _ _ _) rfl ?_
  exact ⟨⟨_, rfl⟩, Below.refl _ _⟩

set_option maxHeartbeats 400000 in
theorem takeOut_none (p : Value) (x : Int) (w : World) : Calls Try.prog 79 #[p, .int .i64 x, .int .i64 x] w fun e' w' => (∃ r, e' = .returned r) ∧ Below w.heap.size w w' := by
  go_enter Try.func79, Try.ntmps79
  go_wp2
  refine bodyPost_ret (results_none rfl _ _ _) rfl ?_
  exact ⟨⟨_, rfl⟩, Below.refl _ _⟩

set_option maxHeartbeats 1000000 in
theorem Insert_empty (sb : Nat) (t : Tr) (a : Option Addr) (e : Int) (ao : Option Addr) (c : Nat) (off : Int) (w : World) (hS : Hid (ShT w (some ⟨sb, 0, none⟩) a e)) (hT : Hid (At w t a)) (h0 : 0 ≤ off) (h1 : off ≤ t.byt) :
    Calls Try.prog 41 #[.pointer (some ⟨sb, 0, none⟩), .int .i64 off, .slice ao 0 c] w fun e' w' => e' = .returned (.int .i64 0) ∧ Below w.heap.size w w' := by
  have hr : decide (0 ≤ off ∧ off ≤ off ∧ off ≤ t.byt) = true := by simp; omega
  have HR := hid (hasRange_any (some ⟨sb, 0, none⟩) a e t off off w hS hT)
  rw [hr] at HR
  go_enter Try.func41, Try.ntmps41
  go_wp2_with (first
    | (go_at_call 77; refine HR.out.mono ?_; rintro e9 w9 ⟨rfl, hb9⟩)
    | (go_at_call 78; refine (putIn_none _ _ _ _ _).mono ?_; rintro e8 w8 ⟨⟨r8, rfl⟩, hb8⟩))
  go_ret
  exact ⟨rfl, hb9.trans (hb8.mono hb9.size)⟩

set_option maxHeartbeats 1000000 in
theorem Delete_empty (sb : Nat) (t : Tr) (a : Option Addr) (e : Int) (off : Int) (w : World) (hS : Hid (ShT w (some ⟨sb, 0, none⟩) a e)) (hT : Hid (At w t a)) (h0 : 0 ≤ off) (h1 : off ≤ t.byt) :
    Calls Try.prog 42 #[.pointer (some ⟨sb, 0, none⟩), .int .i64 off, .int .i64 off] w fun e' w' => e' = .returned (.int .i64 0) ∧ Below w.heap.size w w' := by
  have hr : decide (0 ≤ off ∧ off ≤ off ∧ off ≤ t.byt) = true := by simp; omega
  have HR := hid (hasRange_any (some ⟨sb, 0, none⟩) a e t off off w hS hT)
  rw [hr] at HR
  go_enter Try.func42, Try.ntmps42
  go_wp2_with (first
    | (go_at_call 77; refine HR.out.mono ?_; rintro e9 w9 ⟨rfl, hb9⟩)
    | (go_at_call 79; refine (takeOut_none _ _ _).mono ?_; rintro e8 w8 ⟨⟨r8, rfl⟩, hb8⟩))
  go_ret
  exact ⟨rfl, hb9.trans (hb8.mono hb9.size)⟩

set_option maxHeartbeats 400000 in
theorem same_yes (u v : Value) (l : List UInt8) (w : World) (h1 : Ab.Rd w u l) (h2 : Ab.Rd w v l) : Calls Try.prog 32 #[u, v] w fun e w' => e = .returned (.bool true) ∧ Below w.heap.size w w' := by
  have k1 := conv_rd h1
  have k2 := conv_rd h2
  clear h1 h2
  go_enter Try.func32, Try.ntmps32
  go_wp2
  go_ret
  exact ⟨by simp, Below.refl _ _⟩

/-- All bytes of a sheet, whatever its text. -/
theorem Bytes_any' (sb bb : Nat) (vo va : Value) (O A : List UInt8) (t : Tr) (a : Option Addr) (e : Int) (base : Nat) (w : World) (hSh : Sh w base sb bb vo va O A t a e) (hw : t.whole) (hg : Gds O A t.list) (hz : (txt O A t.list).length ≤ 1048576) :
    Calls Try.prog 33 #[.pointer (some ⟨sb, 0, none⟩)] w fun e' w' => ∃ v, e' = .returned v ∧ Ab.Rd w' v (txt O A t.list) ∧ Below w.heap.size w w' := by
  rcases Nat.eq_zero_or_pos (txt O A t.list).length with h0 | h0
  · have hb : t.byt = 0 := by rw [byt_list, ← txt_len hg, h0]; rfl
    have HL := hid (sLen_any (some ⟨sb, 0, none⟩) a e t w hSh.sht hSh.tree)
    rw [hb] at HL
    have hnil : txt O A t.list = [] := List.eq_nil_of_length_eq_zero h0
    rw [hnil]
    clear hb h0 hnil hz hg hw hSh
    go_enter Try.func33, Try.ntmps33
    go_wp2_with (first | (go_at_call 34; refine HL.out.mono ?_; rintro e9 w9 ⟨rfl, hb9⟩) | (go_at_call 73; refine (read_none _ 0 _).mono ?_; rintro e8 w8 ⟨rfl, hb8⟩))
    go_ret
    exact ⟨_, rfl, .inl ⟨rfl, rfl⟩, hb9.trans (hb8.mono hb9.size)⟩
  · exact (Bytes_some sb bb vo va O A t a e base _ w (hid hSh) (hid hw) (hid hg) (hid hz) (hid rfl) (hid h0)).mono fun e' w' ⟨ao, c, h1, h2, h3⟩ => ⟨_, h1, Ab.own_rd h2, h3⟩

set_option maxHeartbeats 400000 in
theorem place_low (x : Int) (n : Nat) (w : World) (hx : x < 0) (hl : -9223372036854775808 ≤ x) (hn : 0 < n) (hz : n ≤ 1048577) : Calls Try.prog 40 #[.int .i64 x, .int .i64 n] w fun e w' => (∃ k : Nat, k < n ∧ e = .returned (.int .i64 k)) ∧ Below w.heap.size w w' := by
  have hne : ((n : Int) == 0) = false := by simp; omega
  go_enter Try.func40, Try.ntmps40
  go_wp2
  go_ret
  have h1 := Int.tmod_nonneg (n : Int) (a := -(x + 1)) (by omega)
  have h2 := Int.tmod_lt_of_pos (-(x + 1)) (b := (n : Int)) (by omega)
  refine ⟨⟨((-(x + 1)).tmod n).toNat, by omega, ?_⟩, Below.refl _ _⟩
  show Ending.returned (.int .i64 (-(x + 1).tmod n)) = _
  rw [Int.toNat_of_nonneg h1, Int.neg_tmod]

set_option maxHeartbeats 400000 in
theorem place_high (x : Int) (n : Nat) (w : World) (hx : 0 ≤ x) (hl : x ≤ 9223372036854775807) (hn : 0 < n) (hz : n ≤ 1048577) : Calls Try.prog 40 #[.int .i64 x, .int .i64 n] w fun e w' => (∃ k : Nat, k < n ∧ e = .returned (.int .i64 k)) ∧ Below w.heap.size w w' := by
  have hne : ((n : Int) == 0) = false := by simp; omega
  go_enter Try.func40, Try.ntmps40
  go_wp2
  go_ret
  have h1 := Int.emod_nonneg x (b := (n : Int)) (by omega)
  have h2 := Int.emod_lt_of_pos x (b := (n : Int)) (by omega)
  refine ⟨⟨(x % n).toNat, by omega, ?_⟩, Below.refl _ _⟩
  show Ending.returned (.int .i64 (x % n)) = _
  rw [Int.toNat_of_nonneg h1]

theorem place_any (x : Int) (n : Nat) (w : World) (h1 : -9223372036854775808 ≤ x) (h2 : x ≤ 9223372036854775807) (hn : 0 < n) (hz : n ≤ 1048577) : Calls Try.prog 40 #[.int .i64 x, .int .i64 n] w fun e w' => (∃ k : Nat, k < n ∧ e = .returned (.int .i64 k)) ∧ Below w.heap.size w w' := by
  rcases (by omega : x < 0 ∨ 0 ≤ x) with h | h
  · exact place_low x n w h h1 hn hz
  · exact place_high x n w h h2 hn hz

end Go.Proofs.Ytpifjghhlcjedaa

namespace Go.Proofs.Ytpifjghhlcjedaa
open Go.RowKit

/-- A row of spans lies on where a sheet changes. -/
theorem own_chg {W W' : World} {base sb bb : Nat} {vo va : Value} {O A : List UInt8} {t : Tr} {a : Option Addr} {e : Int} (hS : Sh W base sb bb vo va O A t a e) (hc : Chg W W' sb bb va.ownBlock) {B n : Nat} {v : Value} {xs : List Value} (h : W.ownsRow B 30 3 v n xs) : W'.ownsRow B 30 3 v n xs := by
  rcases h.2 with ⟨rfl, h0⟩ | ⟨g, cap, cur, rfl, h1, h2, h3⟩
  · exact ⟨h.1, .inl ⟨rfl, h0⟩⟩
  · refine ⟨h.1, .inr ⟨g, cap, cur, rfl, h1, ?_, h3⟩⟩
    refine (hc.block g (sh_lt h2) (fun e => ?_) (fun e => ?_) (fun e => ?_)).trans h2
    · subst e; rw [hS.here] at h2; cases h2
    · subst e; rw [hS.buf.here] at h2; cases h2
    · exact Ab.own_ne hS.buf.added h2 (by decide) e

theorem ins_del (l1 l2 : List UInt8) (k : Nat) (h : k ≤ l1.length) : (l1.take k ++ (l2 ++ l1.drop k)).take k ++ (l1.take k ++ (l2 ++ l1.drop k)).drop (k + l2.length) = l1 := by
  have hk : (l1.take k).length = k := by rw [List.length_take]; omega
  have e1 : (l1.take k ++ (l2 ++ l1.drop k)).take k = l1.take k := List.take_left' hk
  have e2 : (l1.take k ++ (l2 ++ l1.drop k)).drop (k + l2.length) = l1.drop k := by rw [← List.append_assoc]; exact List.drop_left' (by rw [List.length_append, hk])
  rw [e1, e2, List.take_append_drop]

set_option maxHeartbeats 4000000 in
/-- Something is put in. -/
theorem sheetBack_some (a1 : Option Addr) (c1 : Nat) (l1 : List UInt8) (x : Int) (a2 : Addr) (c2 : Nat) (l2 : List UInt8) (w : World) (h1 : Hid (Ab.Rd w (.slice a1 l1.length c1) l1)) (h2 : Hid (Ab.Rd w (.slice (some a2) l2.length c2) l2)) (hx1 : -9223372036854775808 ≤ x) (hx2 : x ≤ 9223372036854775807) (hz : l1.length + l2.length ≤ 1048573) (hl : ((l2.length : Int) == 0) = false) :
    Calls Try.prog 6 #[.slice a1 l1.length c1, .int .i64 x, .slice (some a2) l2.length c2] w fun e w' => e = .returned (.bool true) ∧ Below w.heap.size w w' := by
  have HA := hid awake_any
  have hl2 : l2 ≠ [] := fun e => by subst e; simp at hl
  have HL2 := hid hl2
  have HP := hid (fun W => place_any x (l1.length + 1) W hx1 hx2 (by omega) (by omega))
  simp only [Int.natCast_add, Int.cast_ofNat_Int] at HP
  clear hl2
  go_enter Try.func6, Try.ntmps6
  go_wp2_with (first
    | (go_at_call 25; refine (HA.out _).mono ?_; rintro e w1 ⟨rfl, b1⟩)
    | (go_at_call 26; refine (New_any a1 c1 l1 _ (by omega) (hid (h1.out.keep b1))).mono ?_; rintro e w2 ⟨sb, bb, vo, a, t, rfl, hS, hN, b2⟩; have HS := hid hS; have HN := hid hN; have L2 := bT b1 b2; clear hS hN)
    | (go_at_call 40; refine (HP.out _).mono ?_; rintro e w3 ⟨⟨k, hk, rfl⟩, b3⟩; have L3 := bT L2 b3; have S3 := hid (HS.out.keep b3)))
  obtain ⟨o1, o2, o3, o4⟩ := HN.out.ok (by omega)
  have hsz : t.size ≤ 1 := by rw [← t.size_list]; exact o4
  have hbt : t.byt = (l1.length : Int) := by rw [byt_list, ← txt_len o2, o3]
  have O1 := hid o1
  have O2 := hid o2
  have O3 := hid o3
  have HBT := hid hbt
  have hlo := b1.size
  clear o1 o2 o3 o4 hbt b1 b2 b3 L2 HS
  refine (Pieces_any (some ⟨sb, 0, none⟩) a 0 t w3 S3.out.sht S3.out.tree (by omega)).mono ?_
  rintro e w4 ⟨ao4, cp4, rfl, hr4, hb4⟩
  have L4 := bT L3 hb4
  have S4 := hid (S3.out.keep hb4)
  have R4 := hid hr4
  clear hr4 hb4 S3
  go_wp2_with fail
  refine (Insert_some sb bb vo (.slice none 0 0) l1 [] t a 0 w1.heap.size a2 c2 l2 (k : Int) _ S4 O1 O2 (hid (by rw [O3.out]; omega)) (hid (by simp; omega)) (hid (h2.out.keep L4)) hl (by omega) (by rw [HBT.out]; omega) (by decide)).mono ?_
  rintro e w5 ⟨rfl, w4', hb4', a5, va5, t5, hput, hS5, hc5, hown5⟩
  have L4' := bT L4 hb4'
  have L5 : Below w.heap.size w w5 := Chg.below_of L4' L4'.size hc5 (Nat.le_trans hlo hS5.lo) (Nat.le_trans hlo hS5.buf.lo) (fun k hk => by cases hk)
  have R5 := hid (own_chg (S4.out.keep hb4') hc5 (Ab.own_keep R4.out hb4'))
  have hput' := hput
  obtain ⟨p1, p2, p3⟩ := hput.ok O1.out O2.out HL2.out (by rw [O3.out]; omega) (by simp; omega)
  rw [O3.out] at p3
  have hl5 : (txt l1 ([] ++ l2) t5.list).length = l1.length + l2.length := by rw [p3]; simp; omega
  have hbt5 : t5.byt = (l1.length : Int) + l2.length := by rw [byt_list, ← txt_len p2, hl5]; push_cast; rfl
  have S5 := hid hS5
  have P1 := hid p1
  have P2 := hid p2
  have P3 := hid p3
  have HL5 := hid hl5
  have HB5 := hid hbt5
  have HPT := hid hput'
  clear hput hput' hS5 hc5 hown5 p1 p2 p3 hl5 hbt5 L4' hb4' R4 S4
  have HLen := hid (sLen_any (some ⟨sb, 0, none⟩) a5 (0 + 1) t5 w5 S5.out.sht S5.out.tree)
  rw [HB5.out] at HLen
  go_wp2_with (go_at_call 34; refine HLen.out.mono ?_; rintro e w6 ⟨rfl, hb6⟩; have L6 := bT L5 hb6; have S6 := hid (S5.out.keep hb6); have R6 := hid (Ab.own_keep R5.out hb6); clear hb6)
  refine (Delete_some sb bb vo va5 l1 ([] ++ l2) t5 a5 (0 + 1) w1.heap.size (k : Int) ((k : Int) + l2.length) _ S6 P1 P2 (hid (by rw [HL5.out]; omega)) (by have := List.length_pos_iff.2 HL2.out; simp; omega) (by omega) (by omega) (by rw [HB5.out]; omega) (by decide)).mono ?_
  rintro e w7 ⟨rfl, w6', hb6', a7, t7, hout, hS7, hc7⟩
  have L6' := bT L6 hb6'
  have L7 : Below w.heap.size w w7 := Chg.below_of L6' L6'.size hc7 (Nat.le_trans hlo hS7.lo) (Nat.le_trans hlo hS7.buf.lo) (fun q hq => Nat.le_trans hlo (own_ge hS7.buf.added hq))
  have R7 := hid (own_chg (S6.out.keep hb6') hc7 (Ab.own_keep R6.out hb6'))
  have hsp := back_spans HN.out HPT.out hout P2.out P1.out (by omega) (by omega) (by rw [HBT.out]; omega)
  obtain ⟨q1, q2, q3⟩ := hout.ok P1.out P2.out (by rw [HL5.out]; omega) (by omega)
  have htx : txt l1 ([] ++ l2) t7.list = l1 := by
    rw [q3, P3.out]
    have e1 : ((k : Int)).toNat = k := by omega
    have e2 : ((k : Int) + l2.length).toNat = k + l2.length := by omega
    rw [e1, e2]
    exact ins_del l1 l2 k (by omega)
  have hz7 : t7.size = t.size := by rw [← t7.size_list, ← t.size_list]; have := congrArg List.length hsp; simpa using this
  have S7 := hid hS7
  have Q1 := hid q1
  have Q2 := hid q2
  have HT7 := hid htx
  have HZ7 := hid hz7
  have HSP := hid hsp
  clear hout hS7 hc7 q1 q2 q3 htx hz7 hsp L6' hb6' R6 S6 L6
  have HBy := hid (Bytes_any' sb bb vo va5 l1 ([] ++ l2) t7 a7 (0 + 1 + 1) w1.heap.size w7 S7.out Q1.out Q2.out (by rw [HT7.out]; omega))
  rw [HT7.out] at HBy
  have HSm := hid (fun u v W => same_yes u v l1 W)
  have HPc := hid (fun W (hW : Below w7.heap.size w7 W) => Pieces_any (some ⟨sb, 0, none⟩) a7 (0 + 1 + 1) t7 W (S7.out.keep hW).sht (S7.out.tree.keep hW) (by rw [HZ7.out]; omega))
  rw [HZ7.out] at HPc
  have HSS := hid (fun b1 b2 a1 c1 a2 c2 W (h1 : W.ownsRow b1 30 3 (.slice a1 t.size c1) t.size (spcs t7.list)) (h2 : W.ownsRow b2 30 3 (.slice a2 t.size c2) t.size (spcs t.list)) => sameSpans_any a1 c1 a2 c2 b1 b2 t.size t7.list t.list W (by omega) (hid (by rw [t7.size_list]; exact HZ7.out)) HSP (hid h1) (hid h2))
  have HEd := hid (fun W (hW : Below w7.heap.size w7 W) => edits_any (some ⟨sb, 0, none⟩) a7 (0 + 1 + 1) W (S7.out.keep hW).sht)
  go_wp2_with (first
    | (go_at_call 33; refine HBy.out.mono ?_; rintro e w8 ⟨v8, rfl, hr8, hb8⟩; have V8 := hid hr8; clear hr8)
    | (go_at_call 32; refine (HSm.out _ _ _ V8.out (h1.out.keep (bT L7 hb8))).mono ?_; rintro e w9 ⟨rfl, hb9⟩; have b9 := bT hb8 hb9)
    | (go_at_call 31; refine (HPc.out _ b9).mono ?_; rintro e w10 ⟨ao10, c10, rfl, hr10, hb10⟩; have R10 := hid hr10; have b10 := bT b9 hb10; clear hr10)
    | (go_at_call 43; refine (HSS.out _ _ _ _ _ _ _ R10.out (Ab.own_keep R7.out b10)).mono ?_; rintro e w11 ⟨rfl, hb11⟩; have b11 := bT b10 hb11)
    | (go_at_call 38; refine (HEd.out _ b11).mono ?_; rintro e w12 ⟨rfl, hb12⟩; have b12 := bT b11 hb12))
  go_ret
  exact ⟨rfl, bT L7 b12⟩

set_option maxHeartbeats 4000000 in
/-- Nothing is put in. -/
theorem sheetBack_none (a1 : Option Addr) (c1 : Nat) (l1 : List UInt8) (x : Int) (a2 : Option Addr) (c2 : Nat) (w : World) (h1 : Hid (Ab.Rd w (.slice a1 l1.length c1) l1)) (hx1 : -9223372036854775808 ≤ x) (hx2 : x ≤ 9223372036854775807) (hz : l1.length ≤ 1048573) :
    Calls Try.prog 6 #[.slice a1 l1.length c1, .int .i64 x, .slice a2 0 c2] w fun e w' => e = .returned (.bool true) ∧ Below w.heap.size w w' := by
  have HA := hid awake_any
  have HP := hid (fun W => place_any x (l1.length + 1) W hx1 hx2 (by omega) (by omega))
  simp only [Int.natCast_add, Int.cast_ofNat_Int] at HP
  go_enter Try.func6, Try.ntmps6
  go_wp2_with (first
    | (go_at_call 25; refine (HA.out _).mono ?_; rintro e w1 ⟨rfl, b1⟩)
    | (go_at_call 26; refine (New_any a1 c1 l1 _ (by omega) (hid (h1.out.keep b1))).mono ?_; rintro e w2 ⟨sb, bb, vo, a, t, rfl, hS, hN, b2⟩; have HS := hid hS; have HN := hid hN; have L2 := bT b1 b2; clear hS hN)
    | (go_at_call 40; refine (HP.out _).mono ?_; rintro e w3 ⟨⟨k, hk, rfl⟩, b3⟩; have L3 := bT L2 b3; have S3 := hid (HS.out.keep b3)))
  obtain ⟨o1, o2, o3, o4⟩ := HN.out.ok (by omega)
  have hsz : t.size ≤ 1 := by rw [← t.size_list]; exact o4
  have hbt : t.byt = (l1.length : Int) := by rw [byt_list, ← txt_len o2, o3]
  have O1 := hid o1
  have O2 := hid o2
  have O3 := hid o3
  have HBT := hid hbt
  clear o1 o2 o3 o4 hbt b1 b2 b3 L2 HS
  have HPc := hid (fun W (hW : Below w3.heap.size w3 W) => Pieces_any (some ⟨sb, 0, none⟩) a 0 t W (S3.out.keep hW).sht (S3.out.tree.keep hW) (by omega))
  refine (HPc.out w3 (Below.refl _ _)).mono ?_
  rintro e w4 ⟨ao4, cp4, rfl, hr4, hb4⟩
  have R4 := hid hr4
  clear hr4
  have HIn := hid (fun W (hW : Below w3.heap.size w3 W) => Insert_empty sb t a 0 a2 c2 (k : Int) W (S3.out.keep hW).sht (S3.out.tree.keep hW) (by omega) (by rw [HBT.out]; omega))
  have HDe := hid (fun W (hW : Below w3.heap.size w3 W) => Delete_empty sb t a 0 (k : Int) W (S3.out.keep hW).sht (S3.out.tree.keep hW) (by omega) (by rw [HBT.out]; omega))
  have HLe := hid (fun W (hW : Below w3.heap.size w3 W) => sLen_any (some ⟨sb, 0, none⟩) a 0 t W (S3.out.keep hW).sht (S3.out.tree.keep hW))
  rw [HBT.out] at HLe
  have HBy := hid (fun W (hW : Below w3.heap.size w3 W) => Bytes_any' sb bb vo (.slice none 0 0) l1 [] t a 0 w1.heap.size W (S3.out.keep hW) O1.out O2.out (by rw [O3.out]; omega))
  rw [O3.out] at HBy
  have HSm := hid (fun u v W => same_yes u v l1 W)
  have HSS := hid (fun b1 b2 a1 c1 a2 c2 W (h1 : W.ownsRow b1 30 3 (.slice a1 t.size c1) t.size (spcs t.list)) (h2 : W.ownsRow b2 30 3 (.slice a2 t.size c2) t.size (spcs t.list)) => sameSpans_any a1 c1 a2 c2 b1 b2 t.size t.list t.list W (by omega) (hid t.size_list) (hid rfl) (hid h1) (hid h2))
  have HEd := hid (fun W (hW : Below w3.heap.size w3 W) => edits_any (some ⟨sb, 0, none⟩) a 0 W (S3.out.keep hW).sht)
  go_wp2_with (first
    | (go_at_call 41; refine (HIn.out _ hb4).mono ?_; rintro e w5 ⟨rfl, hb5⟩; have b5 := bT hb4 hb5)
    | (go_at_call 34; refine (HLe.out _ b5).mono ?_; rintro e w6 ⟨rfl, hb6⟩; have b6 := bT b5 hb6)
    | (go_at_call 42; refine (HDe.out _ b6).mono ?_; rintro e w7 ⟨rfl, hb7⟩; have b7 := bT b6 hb7)
    | (go_at_call 33; refine (HBy.out _ b7).mono ?_; rintro e w8 ⟨v8, rfl, hr8, hb8⟩; have V8 := hid hr8; have b8 := bT b7 hb8; clear hr8)
    | (go_at_call 32; refine (HSm.out _ _ _ V8.out (h1.out.keep (bT L3 b8))).mono ?_; rintro e w9 ⟨rfl, hb9⟩; have b9 := bT b8 hb9)
    | (go_at_call 31; refine (HPc.out _ b9).mono ?_; rintro e w10 ⟨ao10, c10, rfl, hr10, hb10⟩; have R10 := hid hr10; have b10 := bT b9 hb10; clear hr10)
    | (go_at_call 43; refine (HSS.out _ _ _ _ _ _ _ R10.out (Ab.own_keep R4.out (((((((hb5.trans (hb6.mono hb5.size)).trans (hb7.mono (bT hb5 hb6).size)).trans (hb8.mono (bT (bT hb5 hb6) hb7).size)).trans (hb9.mono (bT (bT (bT hb5 hb6) hb7) hb8).size)).trans (hb10.mono (bT (bT (bT (bT hb5 hb6) hb7) hb8) hb9).size)))))).mono ?_; rintro e w11 ⟨rfl, hb11⟩; have b11 := bT b10 hb11)
    | (go_at_call 38; refine (HEd.out _ b11).mono ?_; rintro e w12 ⟨rfl, hb12⟩; have b12 := bT b11 hb12))
  go_ret
  exact ⟨rfl, bT L3 b12⟩

end Go.Proofs.Ytpifjghhlcjedaa

namespace Go.Proofs.Ytpifjghhlcjedaa.back
open Go.ChangeShapes Go.WideShapes Go.ChangeAt Go.RowKit Go.Deep Go.Joins

theorem own : ownKnob Try.prog.godebug = none := by kernel_rfl
theorem laidOut : laidOutB Try.prog = true := by kernel_rfl
theorem cells5 : Try.prog.cellsOf 5 = 1 := by kernel_rfl

/-- numbers that are bytes -/
def by8 (zs : List Int) : List UInt8 := zs.map fun z => UInt8.ofNat z.toNat
theorem by8_length (zs : List Int) : (by8 zs).length = zs.length := by simp [by8]
theorem rd_ints {W : World} {a : Addr} {len cap : Nat} {zs : List Int} (hl : len ≤ zs.length) (hc : ∀ i, i < zs.length → W.cell? (a.add i) = some (.int .u8 (zs.getD i 0))) (hw : ∀ n ∈ zs, (Lit.int .u8 n).wf = true) :
    Ab.Rd W (.slice (some a) (by8 (zs.take len)).length cap) (by8 (zs.take len)) := by
  refine .inr ⟨a, cap, rfl, fun j u hu => ?_⟩
  have hj : j < len := by
    have h1 := (List.getElem?_eq_some_iff.1 hu).1
    rw [Ab.bv_length, by8_length, List.length_take] at h1
    omega
  have hz : j < zs.length := by omega
  have hb := bounds_u8 (hw zs[j] (List.getElem_mem hz))
  rw [hc j hz, ← hu]
  have e : (UInt8.ofNat zs[j].toNat).toNat = zs[j].toNat := by
    rw [UInt8.toNat_ofNat']; omega
  simp [Ab.bv, by8, hj, hz, e]
  omega

theorem bulk_one {H : Type} (d : DataW H) : 1 ≤ Rows.uptoBulk d := by
  cases d with
  | lit l => cases l <;> simp [Rows.uptoBulk]
  | _ => simp [Rows.uptoBulk]
theorem bulk_len {H : Type} : ∀ l : List (DataW H), l.length ≤ Rows.uptoBulkAll l
  | [] => Nat.zero_le _
  | x :: r => by have h1 := bulk_one x; have h2 := bulk_len r; simp only [Rows.uptoBulkAll, List.length_cons]; omega

/-- a list of bytes -/
theorem open_bytes {H : Type} {enc : TypeId × Value → H} {W : World} {fuel : Nat} {cs : List Value} {x : DataW H × List MemPlace} (h : DataW.trod enc Try.prog W 0 (fun _ => true) true fuel 61 cs = some x) :
    ∃ a0 c0 O, cs = [.slice a0 (List.length O) c0] ∧ Ab.Rd W (.slice a0 (List.length O) c0) O ∧ O.length + 1 ≤ Rows.uptoBulk x.1 := by
  rcases open_ints Try.underlying61 Try.underlying5 cells5 h with ⟨rfl, rfl⟩ | ⟨a, len, cap, zs, rfl, _, hl, hm, hz, rfl, hcell, hwz⟩
  · exact ⟨none, 0, [], rfl, .inl ⟨rfl, rfl⟩, by simpa using bulk_one _⟩
  · simp only [if_true] at hz
    have hlen : (by8 (zs.take len)).length = len := by rw [by8_length, List.length_take]; omega
    have h1 := rd_ints (cap := cap) (len := len) (by omega) hcell hwz
    refine ⟨some a, cap, by8 (zs.take len), by rw [hlen], h1, ?_⟩
    have h2 := bulk_len (lits (H := H) .u8 (zs.take len))
    simp only [lits, List.length_map, List.length_take] at h2
    simp only [Rows.uptoBulk, lits]
    omega

set_option maxRecDepth 100000 in
set_option maxHeartbeats 1000000 in
theorem lifted (os : Os) (started : os.Started) (H : Type) (enc : TypeId × Value → H) (F : Stop.Interp) :
    ReturnsInHanded {} Try.checked os 6 .any ((Rows.OpenSpec.upto Rows.sheetBackSpec).pre6 enc Try.prog Try.f6 Rows.sheetBackUptoRow.domain false) (((Rows.OpenSpec.upto Rows.sheetBackSpec).at F).post enc Try.prog Try.f6 false true false false) := by
  refine returnsInHanded_of_cond (C := Try.checked) (s := Rows.OpenSpec.upto Rows.sheetBackSpec) (k := Rows.uptoSmall) rfl own started (by kernel_rfl) Try.func6
    (OpenSpec.witness (enc := enc) (C := Try.checked) (s := Rows.OpenSpec.upto Rows.sheetBackSpec) (k := Rows.uptoSmall) rfl false ⟨#[], #[.slice none 0 0, .int .i64 0, .slice none 0 0], []⟩ 8 (by kernel_rfl) (by kernel_rfl) (by kernel_rfl)
      (x := ([.nil, .lit (.int .i64 0), .nil], [], [])) (by kernel_rfl) rfl (by kernel_rfl)) ?_
  intro W base args ds gs before hval0 hW _ hk0 _
  have hval : ∀ (j : Nat) t v, Try.f6.params[j]? = some t → args[j]? = some v → Value.okWide Try.prog W .any base t v := hval0
  have hW' := hW
  obtain ⟨p, q, hA0, hV, rfl, _, _⟩ := hW
  have hA : DataW.TrodAll enc Try.prog W 0 (fun _ => true) true Try.f6.params.toList args.toList ds p := hA0
  rw [Try.params6] at hA hval
  obtain ⟨v0, vs0, d0, ds0, p0, q0, hargs, rfl, rfl, h0, r0⟩ := trodAll_cons hA
  obtain ⟨v1, vs1, d1, ds1, p1, q1, rfl, rfl, rfl, h1, r1⟩ := trodAll_cons r0
  obtain ⟨v2, vs2, d2, ds2, p2, q2, rfl, rfl, rfl, h2, r2⟩ := trodAll_cons r1
  obtain ⟨rfl, rfl, rfl⟩ := trodAll_nil r2
  obtain rfl : args = #[v0, v1, v2] := by cases args; simp_all
  obtain ⟨rfl, rfl⟩ := trodVars_none hV
  have lt0 : ∀ x ∈ p0, x.block < W.heap.size := by obtain ⟨m, hm⟩ := h0; exact DataW.trod_lt m _ _ _ hm
  have lt1 : ∀ x ∈ p1, x.block < W.heap.size := by obtain ⟨m, hm⟩ := h1; exact DataW.trod_lt m _ _ _ hm
  have lt2 : ∀ x ∈ p2, x.block < W.heap.size := by obtain ⟨m, hm⟩ := h2; exact DataW.trod_lt m _ _ _ hm
  have hk : Rows.uptoBulkAll [d0, d1, d2] ≤ 1048576 := of_decide_eq_true hk0
  simp only [Rows.uptoBulkAll] at hk
  obtain ⟨s0, n0, m0, rfl⟩ := okWide_slice Try.underlying61 (hval 0 61 v0 rfl rfl)
  obtain ⟨s2, n2, m2, rfl⟩ := okWide_slice Try.underlying61 (hval 2 61 v2 rfl rfl)
  have i0 := h0
  have i2 := h2
  obtain ⟨f0, hf0⟩ := i0
  obtain ⟨f2, hf2⟩ := i2
  obtain ⟨a0, c0, O, e0, hO, bO⟩ := open_bytes hf0
  obtain ⟨a2, c2, P, e2, hP, bP⟩ := open_bytes hf2
  dsimp only at bO bP
  simp [Value.cells] at e0 e2
  obtain ⟨rfl, rfl, rfl⟩ := e0
  obtain ⟨rfl, rfl, rfl⟩ := e2
  have i1 := h1
  obtain ⟨m1, e1, hw1, _, _⟩ := open_int Try.underlying3 (hval 1 3 v1 rfl rfl) i1
  subst e1
  have b1 := bulk_one d1
  have i3 := h1
  obtain ⟨f1, hf1⟩ := i3
  obtain ⟨z1, ez, _, wz⟩ := DataW.trod_int Try.underlying3 hf1
  simp [Value.cells] at ez
  subst ez
  have hbd := bounds_i64 wz
  clear hA0 hval0 hk0
  have walk : Calls Try.prog 6 #[.slice s0 O.length m0, .int .i64 m1, .slice s2 P.length m2] W fun e w' => e = .returned (.bool true) ∧ Below W.heap.size W w' := by
    by_cases hP0 : P = []
    · subst hP0
      exact sheetBack_none s0 m0 O m1 s2 m2 W (hid hO) hbd.1 hbd.2 (by omega)
    · have hpos := List.length_pos_iff.2 hP0
      rcases hP with ⟨_, hn⟩ | ⟨ad, c, hn, hc⟩
      · exact absurd hn hP0
      · have e : s2 = some ad := by simp at hn; exact hn.1
        subst e
        exact sheetBack_some s0 m0 O m1 ad m2 P W (hid hO) (hid (.inr ⟨ad, m2, rfl, hc⟩)) hbd.1 hbd.2 (by omega) (by simp; omega)
  refine walk.mono fun e W' ⟨he, bel⟩ => ?_
  subst he
  exact ⟨_, rfl, _, _, _, [], _, [], hW', trodAll_mk1 (shut_bool Try.underlying4 _), (trodAll_cons_mk (Below.trod laidOut (by kernel_rfl) (of_decide_eq_true (by kernel_rfl)) h0 bel lt0) (trodAll_cons_mk (Below.trod laidOut (by kernel_rfl) (of_decide_eq_true (by kernel_rfl)) h1 bel lt1) (trodAll_cons_mk (Below.trod laidOut (by kernel_rfl) (of_decide_eq_true (by kernel_rfl)) h2 bel lt2) trodAll_mk0))), rfl, bel.frame _, fun h => by cases h⟩

theorem over : Rows.sheetBackUptoRow.holds Try.pinned (Rows.OpenSpec.upto Rows.sheetBackSpec) :=
  OpenClaim.holds_of_cond 6 Try.f6 rfl rfl rfl rfl rfl rfl rfl ⟨rfl, rfl, rfl, rfl, rfl⟩ rfl rfl rfl rfl rfl (by kernel_rfl) Try.func6 (by kernel_rfl)
    (of_decide_eq_true (by kernel_rfl)) (by unfold Func.isWrapper; first | (rw [if_pos (by decide +kernel)]; kernel_rfl) | (rw [if_neg (by decide +kernel)]; exact ⟨rfl, rfl⟩))
    (fun os started H enc _ F => lifted os started H enc F)
end Go.Proofs.Ytpifjghhlcjedaa.back
namespace Go.Proofs.Ytpifjghhlcjedaa
/-- The given statement, in its second form. -/
theorem sheetBack_holds : Rows.SheetBackUptoSaid := back.over
end Go.Proofs.Ytpifjghhlcjedaa
