/- A sheet's meet: two trees put together, the pieces that meet joined if they join. -/
import Derived.Test.YtpifjghhlcjedaaPutp
namespace Go.Proofs.Ytpifjghhlcjedaa
open Go.RowKit

/-- How two trees meet. -/
def MeetR (L R t : Tr) : Prop :=
  (R.size = 0 ∧ t = Tr.gluT L R) ∨
  (∃ p T q b, R.list[0]? = some p ∧ JoinR L p T q b ∧ ((b = false ∧ t = Tr.gluT L R) ∨ (b = true ∧ t = Tr.joinT T q (Tr.splitT R 1).2)))

/-- meet's own variables behind w. -/
structure Mw (w W : World) (la ra : Option Addr) : Prop where
  below : Below w.heap.size w W
  b0 : W.heap[w.heap.size]? = some (.cells #[.pointer la] 26 (0, 0))
  b1 : W.heap[w.heap.size + 1]? = some (.cells #[.pointer ra] 26 (0, 0))
  b2 : W.heap[w.heap.size + 1 + 1]? = some (.cells #[.pointer none] 26 (0, 0))
theorem Mw.call {w W W' : World} {la ra : Option Addr} (h : Mw w W la ra) (hb : Below W.heap.size W W') : Mw w W' la ra :=
  ⟨h.below.trans (hb.mono h.below.size), (hb.block _ (sh_lt h.b0)).trans h.b0, (hb.block _ (sh_lt h.b1)).trans h.b1, (hb.block _ (sh_lt h.b2)).trans h.b2⟩
theorem Mw.cells {w W : World} {la ra : Option Addr} (h : Mw w W la ra) :
    W.cell? ⟨w.heap.size, 0, none⟩ = some (.pointer la) ∧ (W.cell? ⟨w.heap.size + 1, 0, none⟩ = some (.pointer ra) ∧ W.frozen? ⟨w.heap.size + 1, 0, none⟩ = false) ∧ (W.cell? ⟨w.heap.size + 1 + 1, 0, none⟩ = some (.pointer none) ∧ W.frozen? ⟨w.heap.size + 1 + 1, 0, none⟩ = false) := ⟨(box_cell h.b0).1, box_cell h.b1, box_cell h.b2⟩
theorem Mw.set1 {w W : World} {la ra : Option Addr} (h : Mw w W la ra) (r' : Option Addr) : Mw w (W.setCell ⟨w.heap.size + 1, 0, none⟩ (.pointer r')) la r' ∧ Nods W (W.setCell ⟨w.heap.size + 1, 0, none⟩ (.pointer r')) :=
  ⟨⟨bset h.below (by omega) _ _, (Below.heap_setCell _ _ _ _ (by simp)).trans h.b0, box_set h.b1 _, (Below.heap_setCell _ _ _ _ (by simp)).trans h.b2⟩, fun b cs hb => by
    by_cases e : b = w.heap.size + 1
    · subst e; rw [h.b1] at hb; cases hb
    · exact (Below.heap_setCell _ _ _ _ e).trans hb⟩
theorem Mw.fin {w W : World} {la ra x : Option Addr} {T : Tr} (h : Mw w W la ra) (hT : At W T x) : At (W.setCell ⟨w.heap.size + 1 + 1, 0, none⟩ (.pointer x)) T x ∧ Below w.heap.size w (W.setCell ⟨w.heap.size + 1 + 1, 0, none⟩ (.pointer x)) :=
  ⟨Nods.at (w := W) (fun b cs hb => by
    by_cases e : b = w.heap.size + 1 + 1
    · subst e; rw [h.b2] at hb; cases hb
    · exact (Below.heap_setCell _ _ _ _ e).trans hb) hT, bset h.below (by omega) _ _⟩

def MeetGave (w : World) (t : Tr) (e : Ending) (w' : World) : Prop := ∃ x, e = .returned (.agg #[.pointer x]) ∧ At w' t x ∧ Below w.heap.size w w'

set_option maxHeartbeats 2000000 in
/-- The right tree has no pieces. -/
theorem meet_nil (L R : Tr) (la ra : Option Addr) (w : World) (hL : Hid (At w L la)) (hR : Hid (At w R ra)) (h0 : Hid (R.size = 0)) (wl : Hid L.whole) (wr : Hid R.whole) (fl : Hid L.fine) (hz : Hid (fineL (L.list ++ R.list))) :
    Calls Try.prog 107 #[.agg #[.pointer la], .agg #[.pointer ra]] w (MeetGave w (Tr.gluT L R)) := by
  have hM : Mw w (((w.alloc (.cells #[.pointer la] 26)).alloc (.cells #[.pointer ra] 26)).alloc (.cells #[.pointer none] 26)) la ra :=
    ⟨bAAA w _ _ _, ((Below.heap_alloc _ _ _ (by simp; omega)).trans (Below.heap_alloc _ _ _ (by simp))).trans (World.alloc_heap_new w _), (Below.heap_alloc _ _ _ (by simp)).trans (alloc2_here w _ _), alloc3_here w _ _ _⟩
  obtain ⟨W0, hW0⟩ : ∃ W0, ((w.alloc (.cells #[.pointer la] 26)).alloc (.cells #[.pointer ra] 26)).alloc (.cells #[.pointer none] 26) = W0 := ⟨_, rfl⟩
  rw [hW0] at hM
  obtain ⟨c0, ⟨c1, f1⟩, ⟨c2, f2⟩⟩ := hM.cells
  have HM := hid hM
  clear hM
  have HG := hid (fun W (hW : At W R ra) => Get_no R ra 0 W (by rw [h0.out]; simp) hW)
  have HJ := hid (fun W (hW : At W L la) => joinLast_any L la ⟨0, 0, 0, 0⟩ W hW fl.out wl.out (by simp) (by simp) ⟨by simp, by simp⟩)
  simp only [Pc.v] at HJ
  have HU := hid (fun W (h1 : At W L la) (h2 : At W R ra) => Join_glue L R la ra 0 0 0 0 W (by decide) hz wl wr h1 h2)
  go_enter Try.func107, Try.ntmps107
  go_wp2_with (first
    | (go_at_call 24; refine (HG.out _ (hR.out.keep HM.out.below)).mono ?_; rintro e w9 ⟨rfl, hb9⟩; have M9 := hid ((HM.out.call hb9).call (bAlloc (Below.refl _ _) (.cells #[.int .i64 0, .int .i64 0, .int .i64 0, .int .i64 0] 32))); clear c0 c1 f1 c2 f2 hb9 hW0; obtain ⟨c0, ⟨c1, f1⟩, ⟨c2, f2⟩⟩ := M9.out.cells)
    | (go_at_call 105; refine (HJ.out _ (hL.out.keep M9.out.below)).mono ?_; rintro e w8 ⟨T, ⟨qs, qo, ql, qn⟩, b, hjr, x8, rfl, hx8, hb8⟩; simp only [Pc.v]; have M8 := hid ((M9.out.call hb8).call (bAA w8 (.cells #[.pointer x8] 26) (.cells #[.int .i64 qs, .int .i64 qo, .int .i64 ql, .int .i64 qn] 32))); clear c0 c1 f1 c2 f2 hb8 hx8 hjr; obtain ⟨c0, ⟨c1, f1⟩, ⟨c2, f2⟩⟩ := M8.out.cells)
    | (go_at_call 13; refine (HU.out _ (hL.out.keep M8.out.below) (hR.out.keep M8.out.below)).mono ?_; rintro e w7 ⟨x7, rfl, hx7, hb7⟩; have M7 := hid (M8.out.call hb7); have X7 := hid hx7; clear c0 c1 f1 c2 f2 hb7 hx7; obtain ⟨c0, ⟨c1, f1⟩, ⟨c2, f2⟩⟩ := M7.out.cells))
  obtain ⟨F1, F2⟩ := M7.out.fin X7.out
  exact bodyPost_ret (v := .agg #[.pointer x7]) (by simp [results, Try.results107, go_sem, c2]) rfl ⟨x7, rfl, F1, F2⟩

/-- The first piece of a list taken off. -/
theorem txt_first {O A : List UInt8} {R : Tr} {p : Pc} (hp : R.list[0]? = some p) : R.list = p :: (Tr.splitT R 1).2.list ∧ txt O A R.list = pcs O A p ++ txt O A (Tr.splitT R 1).2.list := by
  have q := (Tr.splitT_list R 1).2
  have e : R.list = p :: R.list.drop 1 := by
    cases hl : R.list with
    | nil => rw [hl] at hp; cases hp
    | cons a l => rw [hl] at hp; simp at hp; rw [hp]; rfl
  refine ⟨by rw [q]; exact e, ?_⟩
  rw [q]
  conv => lhs; rw [e]
  rw [txt_cons]

/-- What comes of trees that meet. -/
theorem MeetR.ok {O A : List UInt8} {L R t : Tr} (h : MeetR L R t) (wl : L.whole) (wr : R.whole) (gl : Gds O A L.list) (gr : Gds O A R.list) (hz : (txt O A L.list).length + (txt O A R.list).length ≤ 1048576) :
    t.whole ∧ Gds O A t.list ∧ txt O A t.list = txt O A L.list ++ txt O A R.list := by
  have glue : (Tr.gluT L R).whole ∧ Gds O A (Tr.gluT L R).list ∧ txt O A (Tr.gluT L R).list = txt O A L.list ++ txt O A R.list := by
    rw [Tr.gluT_list]
    exact ⟨Tr.gluT_whole wl wr, gl.append gr, txt_append _ _ _ _⟩
  rcases h with ⟨_, rfl⟩ | ⟨p, T, q, b, hp, hj, ⟨_, rfl⟩ | ⟨_, rfl⟩⟩
  · exact glue
  · exact glue
  · obtain ⟨e1, e2⟩ := txt_first (O := O) (A := A) hp
    have hpg := gr.at hp
    rw [e2, List.length_append] at hz
    obtain ⟨j1, j2, j3, j4, j5⟩ := hj.ok wl gl hpg (by omega)
    rw [Tr.joinT_list]
    have g3 : Gds O A (Tr.splitT R 1).2.list := fun x hx => gr x (by rw [e1]; simp [hx])
    refine ⟨Tr.joinT_whole _ j1 (Tr.splitT_whole R 1 wr.1).2, j2.append (Gds.cons j3 g3), ?_⟩
    rw [txt_append, txt_cons, ← List.append_assoc, j4, e2, List.append_assoc]

set_option maxHeartbeats 4000000 in
/-- The right tree has a first piece. -/
theorem meet_some (O A : List UInt8) (L R : Tr) (la ra : Option Addr) (ps po pl pn : Int) (w : World) (hL : Hid (At w L la)) (hR : Hid (At w R ra)) (hp : Hid (R.list[0]? = some ⟨ps, po, pl, pn⟩)) (wl : Hid L.whole) (wr : Hid R.whole) (gl : Hid (Gds O A L.list)) (gr : Hid (Gds O A R.list)) (hz : Hid ((txt O A L.list).length + (txt O A R.list).length ≤ 1048576)) :
    Calls Try.prog 107 #[.agg #[.pointer la], .agg #[.pointer ra]] w fun e w' => ∃ t, MeetR L R t ∧ MeetGave w t e w' := by
  have hM : Mw w (((w.alloc (.cells #[.pointer la] 26)).alloc (.cells #[.pointer ra] 26)).alloc (.cells #[.pointer none] 26)) la ra :=
    ⟨bAAA w _ _ _, ((Below.heap_alloc _ _ _ (by simp; omega)).trans (Below.heap_alloc _ _ _ (by simp))).trans (World.alloc_heap_new w _), (Below.heap_alloc _ _ _ (by simp)).trans (alloc2_here w _ _), alloc3_here w _ _ _⟩
  obtain ⟨W0, hW0⟩ : ∃ W0, ((w.alloc (.cells #[.pointer la] 26)).alloc (.cells #[.pointer ra] 26)).alloc (.cells #[.pointer none] 26) = W0 := ⟨_, rfl⟩
  rw [hW0] at hM
  obtain ⟨c0, ⟨c1, f1⟩, ⟨c2, f2⟩⟩ := hM.cells
  have HM := hid hM
  clear hM
  have hrs : 0 < R.size := by rw [← R.size_list]; have := (List.getElem?_eq_some_iff.1 hp.out).1; omega
  have fl : L.fine := (Tr.fine_list L).2 (gl.out.fine (by have := hz.out; omega))
  have fr : R.fine := (Tr.fine_list R).2 (gr.out.fine (by have := hz.out; omega))
  have hpf := (gr.out.at hp.out).fit
  simp only [Pc.fit] at hpf
  have HG : Hid (∀ W, At W R ra → Calls Try.prog 24 #[.agg #[.pointer ra], .int .i64 0] W fun e w' => e = .returned (.tuple #[.agg #[.int .i64 ps, .int .i64 po, .int .i64 pl, .int .i64 pn], .int .i64 0]) ∧ Below W.heap.size W w') := fun W hW =>
    (Get_yes R ra 0 W hrs fr.2 hW).mono fun e w' ⟨s1, o1, n1, k1, h1, h2, h3⟩ => by
      rw [hp.out] at h1
      cases h1
      exact ⟨h2, h3⟩
  have HJ := hid (fun W (hW : At W L la) => joinLast_any L la ⟨ps, po, pl, pn⟩ W hW fl wl.out (by simp only; omega) (by simp only; omega) ⟨by simp only; omega, by simp only; omega⟩)
  simp only [Pc.v] at HJ
  have HU := hid (fun W (h1 : At W L la) (h2 : At W R ra) => Join_glue L R la ra 0 0 0 0 W (by decide) (hid (by rw [show L.list ++ R.list = (Tr.gluT L R).list from (Tr.gluT_list L R).symm, Tr.gluT_list]; exact (gl.out.append gr.out).fine (by rw [txt_append, List.length_append]; exact hz.out))) wl wr h1 h2)
  have HSp := hid (fun W (hW : At W R ra) => Split_yes R ra 1 W (show 1 ≤ R.size from hrs) fr wr hW)
  have HJn := hid (fun T qs qo ql qn b x y W (hjr : JoinR L ⟨ps, po, pl, pn⟩ T ⟨qs, qo, ql, qn⟩ b) (h1 : At W T x) (h2 : At W (Tr.splitT R 1).2 y) => by
    obtain ⟨e1, e2⟩ := txt_first (O := O) (A := A) hp.out
    have hz' := hz.out
    rw [e2, List.length_append] at hz'
    obtain ⟨j1, j2, j3, j4, j5⟩ := hjr.ok wl.out gl.out (gr.out.at hp.out) (by omega)
    have hf : fitB ql qn = true := by simpa [fitB, Pc.fit] using j3.fit
    have g3 : Gds O A (Tr.splitT R 1).2.list := fun x hx => gr.out x (by rw [e1]; simp [hx])
    refine Join_fit T (Tr.splitT R 1).2 x y qs qo ql qn W hf (hid ((j2.append (Gds.cons j3 g3)).fine ?_)) j1 (Tr.splitT_whole R 1 wr.out.1).2 h1 h2
    rw [txt_append, txt_cons, ← List.append_assoc, j4, List.length_append, List.length_append]
    omega)
  go_enter Try.func107, Try.ntmps107
  go_wp2_with (first
    | (go_at_call 24; refine (HG.out _ (hR.out.keep HM.out.below)).mono ?_; rintro e w9 ⟨rfl, hb9⟩; have M9 := hid ((HM.out.call hb9).call (bAlloc (Below.refl _ _) (.cells #[.int .i64 ps, .int .i64 po, .int .i64 pl, .int .i64 pn] 32))); clear c0 c1 f1 c2 f2 hb9 hW0; obtain ⟨c0, ⟨c1, f1⟩, ⟨c2, f2⟩⟩ := M9.out.cells)
    | (go_at_call 105; refine (HJ.out _ (hL.out.keep M9.out.below)).mono ?_; rintro e w8 ⟨T, ⟨qs, qo, ql, qn⟩, b, hjr, x8, rfl, hx8, hb8⟩; simp only [Pc.v]; have z8 := sh_lt (M9.out.call hb8).b2; have M8 := hid ((M9.out.call hb8).call (bAA w8 (.cells #[.pointer x8] 26) (.cells #[.int .i64 qs, .int .i64 qo, .int .i64 ql, .int .i64 qn] 32))); have X8 := hid (hx8.keep (bAA w8 (.cells #[.pointer x8] 26) (.cells #[.int .i64 qs, .int .i64 qo, .int .i64 ql, .int .i64 qn] 32))); have E1 := hid ((Below.heap_alloc (w8.alloc (.cells #[.pointer x8] 26)) (.cells #[.int .i64 qs, .int .i64 qo, .int .i64 ql, .int .i64 qn] 32) w8.heap.size (by simp)).trans (World.alloc_heap_new w8 _)); have E2 := hid (alloc2_here w8 (.cells #[.pointer x8] 26) (.cells #[.int .i64 qs, .int .i64 qo, .int .i64 ql, .int .i64 qn] 32)); have JR := hid hjr; clear c0 c1 f1 c2 f2 hb8 hx8 hjr; obtain ⟨c0, ⟨c1, f1⟩, ⟨c2, f2⟩⟩ := M8.out.cells)
    | (go_at_call 13; refine (HU.out _ (hL.out.keep M8.out.below) (hR.out.keep M8.out.below)).mono ?_; rintro e w7 ⟨x7, rfl, hx7, hb7⟩; have M7 := hid (M8.out.call hb7); have X7 := hid hx7; clear c0 c1 f1 c2 f2 hb7 hx7; obtain ⟨c0, ⟨c1, f1⟩, ⟨c2, f2⟩⟩ := M7.out.cells))
  · rename_i hb
    obtain ⟨F1, F2⟩ := M7.out.fin X7.out
    exact bodyPost_ret (v := .agg #[.pointer x7]) (by simp [results, Try.results107, go_sem, c2]) rfl ⟨_, .inr ⟨_, T, _, b, hp.out, JR.out, .inl ⟨by simpa using hb, rfl⟩⟩, x7, rfl, F1, F2⟩
  · have HB : Hid (b = true) := hid (by
      cases b with
      | true => rfl
      | false => first | contradiction | simp_all)
    clear c0 c1 f1 c2 f2
    have lt8 := sh_lt E1.out
    have lt9 := sh_lt E2.out
    have n1 : ¬ (w8.heap.size = w.heap.size + 1) := by omega
    have n2 : ¬ (w.heap.size + 1 = w8.heap.size) := by omega
    have n3 : ¬ (w8.heap.size + 1 = w.heap.size + 1) := by omega
    have n4 : ¬ (w.heap.size + 1 = w8.heap.size + 1) := by omega
    have n5 : ¬ (w8.heap.size = w.heap.size) := by omega
    have n6 : ¬ (w.heap.size = w8.heap.size) := by omega
    generalize (w8.alloc (.cells #[.pointer x8] 26)).alloc (.cells #[.int .i64 qs, .int .i64 qo, .int .i64 ql, .int .i64 qn] 32) = W8 at *
    obtain ⟨c0, ⟨c1, f1⟩, ⟨c2, f2⟩⟩ := M8.out.cells
    obtain ⟨d0, d1⟩ := box_cell E1.out
    obtain ⟨e0, e1, e2, e3⟩ := four_cells E2.out
    go_wp2_with (first
      | (go_at_call 15; refine (HSp.out _ (hR.out.keep M8.out.below)).mono ?_; rintro e w6 ⟨x6, y6, rfl, hx6, hy6, hb6⟩; have M6 := hid (M8.out.call hb6); have Y6 := hid hy6; have X6 := hid (X8.out.keep hb6); have G1 := hid ((hb6.block _ lt8).trans E1.out); have G2 := hid ((hb6.block _ lt9).trans E2.out); clear c0 c1 f1 c2 f2 d0 d1 e0 e1 e2 e3 hb6 hx6 hy6; obtain ⟨c0, ⟨c1, f1⟩, ⟨c2, f2⟩⟩ := M6.out.cells; obtain ⟨d0, d1⟩ := box_cell G1.out; obtain ⟨e0, e1, e2, e3⟩ := four_cells G2.out)
      | (go_at_call 13; refine (HJn.out T qs qo ql qn b x8 y6 _ JR.out ((M6.out.set1 y6).2.at X6.out) ((M6.out.set1 y6).2.at Y6.out)).mono ?_; rintro e w5 ⟨x5, rfl, hx5, hb5⟩; have M5 := hid ((M6.out.set1 y6).1.call hb5); have X5 := hid hx5; clear c0 c1 f1 c2 f2 d0 d1 e0 e1 e2 e3 hb5 hx5; obtain ⟨c0, ⟨c1, f1⟩, ⟨c2, f2⟩⟩ := M5.out.cells))
    obtain ⟨F1, F2⟩ := M5.out.fin X5.out
    exact bodyPost_ret (v := .agg #[.pointer x5]) (by simp [results, Try.results107, go_sem, c2]) rfl ⟨_, .inr ⟨_, T, _, b, hp.out, JR.out, .inr ⟨HB.out, rfl⟩⟩, x5, rfl, F1, F2⟩

theorem meet_any (O A : List UInt8) (L R : Tr) (la ra : Option Addr) (w : World) (hL : At w L la) (hR : At w R ra) (wl : L.whole) (wr : R.whole) (gl : Gds O A L.list) (gr : Gds O A R.list) (hz : (txt O A L.list).length + (txt O A R.list).length ≤ 1048576) :
    Calls Try.prog 107 #[.agg #[.pointer la], .agg #[.pointer ra]] w fun e w' => ∃ t, MeetR L R t ∧ MeetGave w t e w' := by
  rcases Nat.eq_zero_or_pos R.size with h0 | h0
  · refine (meet_nil L R la ra w (hid hL) (hid hR) (hid h0) (hid wl) (hid wr) (hid ((Tr.fine_list L).2 (gl.fine (by omega)))) (hid ((gl.append gr).fine (by rw [txt_append, List.length_append]; exact hz)))).mono fun e w' k => ⟨_, .inl ⟨h0, rfl⟩, k⟩
  · have hlt : 0 < R.list.length := by rw [R.size_list]; exact h0
    obtain ⟨⟨ps, po, pl, pn⟩, hp⟩ : ∃ r, R.list[0]? = some r := ⟨_, List.getElem?_eq_getElem hlt⟩
    exact meet_some O A L R la ra ps po pl pn w (hid hL) (hid hR) (hid hp) (hid wl) (hid wr) (hid gl) (hid gr) (hid hz)

end Go.Proofs.Ytpifjghhlcjedaa
