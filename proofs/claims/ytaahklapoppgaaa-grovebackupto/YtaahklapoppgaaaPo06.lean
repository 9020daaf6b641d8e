/- GroveBack, walked. -/
import Derived.Test.YtaahklapoppgaaaPo04
import Derived.Test.YtaahklapoppgaaaPo05
import Derived.Test.YtaahklapoppgaaaPm31
import Derived.Test.YtaahklapoppgaaaPm14
namespace Go.Proofs.Ytaahklapoppgaaa
open Go.RowKit

set_option maxRecDepth 8000
theorem edg_of {G : List Nr} (h : ∀ d ∈ G.map Nr.d, nsum d.ed + osum d.ed + d.ed.length ≤ 1048576) : EdG 1048576 (G.map Nr.d) := fun i hi => by
  have := h (at' (G.map Nr.d) i) (List.mem_of_getElem? (at'_some hi))
  omega
theorem chk0 (ao : Option Addr) (n c : Nat) (now : Int) (G : List Nr) (w : World) (HG : Hid (Grz w ao G)) (hn : G.length = n) (hc : n ≤ c) (hr : Right (G.map Nr.d) now) : Calls Try.prog 17 #[.agg #[.slice ao n c, .int .i64 now]] w fun e w' => e = .returned (.int .i64 0) ∧ Below w.heap.size w w' := by
  have := check_any ao n c now G w HG hn hc
  rwa [ti_t hr] at this
set_option maxHeartbeats 32000000 in
set_option linter.unusedSimpArgs false in
theorem groveBack_walk' (Z : List Int) (hZ : Z.length = 27) (HZ50 : Hid (∀ w, (zeroValue 50).run Try.prog w = .ok (.agg (cxa (.slice none 0 0) 0 Z)) w)) (ao : Option Addr) (n c : Nat) (now : Int) (G : List Nr) (m : List Int) (w : World) (HG : Hid (Grz w ao G)) (hn : G.length = n) (hc : n ≤ c) (hm : Mw m) (hbig : ∀ d ∈ G.map Nr.d, nsum d.ed + osum d.ed + d.ed.length ≤ 1048576) (hn9 : n ≤ 1048576) :
    Calls Try.prog 6 #[.agg #[.slice ao n c, .int .i64 now], .agg (mk m)] w fun e w' => e = .returned (.bool true) ∧ Below w.heap.size w w' := by
  have hml := hm.len
  have HQ := Hid.mk' (edg_of hbig)
  have HN := Hid.mk' hn
  have HNc := Hid.mk' hc
  have HMw := Hid.mk' hm
  have HN9 := Hid.mk' hn9
  have HE9 : Hid (∀ r ∈ G, r.E.length ≤ 1048576) := fun r hr => by
    have := hbig r.d (List.mem_map.2 ⟨r, hr, rfl⟩)
    have e : r.d.ed.length = r.E.length := by show (r.E.map Er.d).length = _; rw [List.length_map]
    omega
  clear hbig hn hc hm hn9
  obtain ⟨W1, hW1⟩ : ∃ x, (w.alloc (.cells #[.slice ao n c, .int .i64 now] 24)).alloc (.cells (mk m) 41) = x := ⟨_, rfl⟩
  obtain ⟨b, hb⟩ : ∃ b, w.heap.size = b := ⟨_, rfl⟩
  have L1 : Hid (Below w.heap.size w W1) := by unfold Hid; rw [← hW1]; exact bAlloc (bAlloc (Below.refl _ _) _) _
  have K1 : Hid (Blk W1 b 24 #[.slice ao n c, .int .i64 now]) := by unfold Hid; rw [← hW1, ← hb]; exact (Blk.new w 24 _).keep (bAlloc (Below.refl _ _) _)
  have M1 : Hid (Blk W1 (b + 1) 41 (mk m)) := by
    unfold Hid
    rw [← hW1, ← hb]
    have := Blk.new (w.alloc (.cells #[.slice ao n c, .int .i64 now] 24)) 41 (mk m)
    rwa [World.size_alloc] at this
  go_enter Try.func6, Try.ntmps6
  go_wp2_with fail
  clear hW1 hb
  refine (awake_any _).mono ?_
  rintro e w2 ⟨rfl, hb2⟩
  have L2 := Hid.mk' (bT L1.out hb2)
  have K2 := Hid.mk' (K1.out.keep hb2)
  have M2 := Hid.mk' (M1.out.keep hb2)
  clear hb2 L1 K1 M1
  dsimp only
  go_wp2_with (first | refine wl_ld41 (B := b + 1) (o := 0) (.tmp 3) rfl rfl rfl hml (range_blk M2.out) ?_ | fail)
  refine (mfine_any m hml w2).mono ?_
  rintro e w3 ⟨rfl, hb3⟩
  have L3 := Hid.mk' (bT L2.out hb3)
  have K3 := Hid.mk' (K2.out.keep hb3)
  have M3 := Hid.mk' (M2.out.keep hb3)
  clear hb3 L2 K2 M2
  dsimp only
  by_cases hf : Fin m
  · rw [tb_t hf]
    have HF := Hid.mk' hf
    clear hf
    have a3 : w3.cell? ⟨b, 0, none⟩ = some (.slice ao n c) := K3.out.cell rfl
    have b3 : w3.cell? ⟨b, 1, none⟩ = some (.int .i64 now) := K3.out.cell rfl
    have CU := undo_q ao n c now G m w3 (HG.out.keep L3.out) HN.out HNc.out HMw.out
    obtain ⟨z1, hz1⟩ : ∃ z, undE (G.map Nr.d) now m = z := ⟨_, rfl⟩
    rw [hz1] at CU
    obtain ⟨S1, hS1⟩ : ∃ S, crW z1 ((Wk.new (G.map Nr.d) now m).up now.toNat) = S := ⟨_, rfl⟩
    rw [hS1] at CU
    have HZ1 := Hid.mk' hz1
    have HS1 := Hid.mk' hS1
    have HCU := Hid.mk' CU
    clear CU hz1 hS1
    go_wp2_with (first | refine wl_ld41 (B := b + 1) (o := 0) (.tmp 3) rfl rfl rfl hml (range_blk M3.out) ?_ | fail)
    refine HCU.out.mono ?_
    rintro e w4 ⟨ao1, n1, k1, H1, va1, vn1, vc1, F1, rfl, g1, l1, hk1, d1, z1e, f1, fc1, e1, mw1, st1, hb1⟩
    have GG1 : Hid (Grz w4 ao1 H1) := g1
    have FF1 : Hid (Edz w4 va1 F1) := z1e
    have LL1 : Hid (H1.length = n1 ∧ n1 ≤ k1 ∧ H1.map Nr.d = S1.G ∧ F1.length = vn1 ∧ vn1 ≤ vc1 ∧ F1.map Er.d = S1.E ∧ Mw S1.m) := ⟨l1, hk1, d1, f1, fc1, e1, mw1⟩
    have ST1 := Hid.mk' st1
    have hl1 : S1.m.length = 27 := mw1.len
    obtain ⟨nw1, hnw1⟩ : ∃ x, S1.now = x := ⟨_, rfl⟩
    obtain ⟨cu1, hcu1⟩ : ∃ x, S1.cur = x := ⟨_, rfl⟩
    obtain ⟨mm1, hmm1⟩ : ∃ x, S1.m = x := ⟨_, rfl⟩
    rw [hnw1, hcu1, hmm1]
    rw [hmm1] at hl1
    have FN1 : Hid (S1.now = nw1 ∧ S1.cur = cu1 ∧ S1.m = mm1) := ⟨hnw1, hcu1, hmm1⟩
    clear g1 l1 hk1 d1 z1e f1 fc1 e1 mw1 st1 hnw1 hcu1 hmm1
    dsimp only
    have L4 := Hid.mk' (bT L3.out hb1)
    have K4 := Hid.mk' (K3.out.keep hb1)
    have M4 := Hid.mk' (M3.out.keep hb1)
    clear hb1 L3 K3 M3 a3 b3 HCU
    obtain ⟨X1, hX1⟩ : ∃ x, w4.alloc (.cells #[.slice none 0 0, .int .i64 0] 24) = x := ⟨_, rfl⟩
    obtain ⟨q5, hq5⟩ : ∃ x, w4.heap.size = x := ⟨_, rfl⟩
    obtain ⟨X2, hX2⟩ : ∃ x, X1.alloc (.cells (cxa (.slice none 0 0) 0 Z) 50) = x := ⟨_, rfl⟩
    obtain ⟨q6, hq6⟩ : ∃ x, X1.heap.size = x := ⟨_, rfl⟩
    obtain ⟨y1, y2, y3, y4, y5, y6, y7, y8⟩ := two_boxes (ao := ao1) (va := va1) (n := n1) (k := k1) (vn := vn1) (vc := vc1) (now := nw1) (cu := cu1) (m := mm1) hZ hl1 hX1 hX2 hq5 hq6
    have T50 := Hid.mk' y4
    have Y5 := Hid.mk' y5
    have Y6 := Hid.mk' y6
    have Y7 : Hid (q5 ≠ q6) := y7
    have Y8 := Hid.mk' y8
    have hz50 := HZ50.out
    clear y4 y5 y6 y7 y8
    go_upto_region 6 with (first | refine wl_st50 (B := q6) (o := 0) (.tmp 6) (.tmp 24) rfl rfl rfl rfl hl1 T50.out ?_ | fail)
    have QBX : Hid (b < q5 ∧ b + 1 < q5 ∧ w.heap.size ≤ q5 ∧ b < q6 ∧ b + 1 < q6 ∧ w.heap.size ≤ q6) := by
      have i1 := K4.out.lt
      have i2 := M4.out.lt
      have i3 := L4.out.size
      have i4 : X1.heap.size = w4.heap.size + 1 := by rw [← hX1, World.size_alloc]
      unfold Hid; omega
    clear y1 y2 y3 hX1 hX2 hq5 hq6 hz50 T50
    generalize ((X2.setCell ⟨q5, 0, none⟩ (.slice ao1 n1 k1)).setCell ⟨q5, 1, none⟩ (.int .i64 nw1)).setCells q6 0 (cx (.slice va1 vn1 vc1) cu1 mm1) = w5 at *
    have L5 := Hid.mk' (bT L4.out Y8.out)
    have K5 := Hid.mk' (K4.out.keep Y8.out)
    have M5 := Hid.mk' (M4.out.keep Y8.out)
    have G5 := Hid.mk' (GG1.out.keep Y8.out)
    have E5 := Hid.mk' (FF1.out.keep Y8.out)
    have B5 := Hid.mk' Y5.out
    have C5 := Hid.mk' (Cb.of Y6.out)
    have Q56 := Hid.mk' Y7.out
    have QB : Hid (b < q5 ∧ b + 1 < q5 ∧ w.heap.size ≤ q5 ∧ b < q6 ∧ b + 1 < q6 ∧ w.heap.size ≤ q6) := QBX.out
    clear Y5 Y6 Y7 Y8 GG1 FF1 L4 K4 M4 QBX
    by_cases hz : z1 = 0
    · skip
      subst hz
      have hS1 := HS1.out
      rw [crW_yes] at hS1
      obtain ⟨i, hnow, hiD, hR1, hE1, hnext⟩ := bk1 HZ1.out HF.out hml HQ.out S1 hS1.symm
      subst hnow
      have HIN : Hid (i < n) := by unfold Hid; rw [List.length_map, HN.out] at hiD; exact hiD
      have HR1 := Hid.mk' hR1
      have HE1 := Hid.mk' hE1
      have HNX := Hid.mk' hnext
      clear hS1 hR1 hE1 hnext hiD
      have c5 : w5.cell? ⟨q5, 0, none⟩ = some (.slice ao1 n1 k1) := B5.out.cell rfl
      have d5 : w5.cell? ⟨q5, 1, none⟩ = some (.int .i64 nw1) := B5.out.cell rfl
      have CR := redo_q ao1 n1 k1 nw1 H1 mm1 w5 G5.out LL1.out.1 LL1.out.2.1 (by rw [← FN1.out.2.2]; exact LL1.out.2.2.2.2.2.2)
      rw [LL1.out.2.2.1, ← FN1.out.1, ← FN1.out.2.2, HE1.out, crW_yes, FN1.out.1, FN1.out.2.2] at CR
      obtain ⟨S2, hS2⟩ : ∃ S, (Wk.new S1.G nw1 mm1).down (at' S1.G nw1.toNat).nxt.toNat = S := ⟨_, rfl⟩
      rw [hS2] at CR
      obtain ⟨j1, j2, j3, j4, j5, j6⟩ := HNX.out S2 (by rw [← hS2, FN1.out.1, FN1.out.2.2])
      have J1 : Hid (S2.m = m ∧ S2.E = (at' (G.map Nr.d) i).ed ∧ S2.now = (i : Int) ∧ Right S2.G S2.now ∧ Alk S2.G (G.map Nr.d) i ∧ inv S2.E = S1.E) := ⟨j1, j2, j3, j4, j5, j6⟩
      have HCR := Hid.mk' CR
      clear CR hS2 j1 j2 j3 j4 j5 j6 HNX
      go_upto_region 7 with fail
      go_wp2_with (first | refine wl_ld41 (B := q6) (o := 2) (.tmp 30) rfl rfl rfl hl1 C5.out.mr ?_ | fail)
      refine HCR.out.mono ?_
      rintro e w6 ⟨ao2, n2, k2, H2, va2, vn2, vc2, F2, rfl, g2, l2, hk2, d2, z2e, f2, fc2, e2, mw2, st2, hb2⟩
      have GG2 : Hid (Grz w6 ao2 H2) := g2
      have FF2 : Hid (Edz w6 va2 F2) := z2e
      have LL2 : Hid (H2.length = n2 ∧ n2 ≤ k2 ∧ H2.map Nr.d = S2.G ∧ F2.length = vn2 ∧ vn2 ≤ vc2 ∧ F2.map Er.d = S2.E ∧ Mw S2.m) := ⟨l2, hk2, d2, f2, fc2, e2, mw2⟩
      have ST2 := Hid.mk' st2
      have hl2 : S2.m.length = 27 := mw2.len
      obtain ⟨nw2, hnw2⟩ : ∃ x, S2.now = x := ⟨_, rfl⟩
      obtain ⟨cu2, hcu2⟩ : ∃ x, S2.cur = x := ⟨_, rfl⟩
      obtain ⟨mm2, hmm2⟩ : ∃ x, S2.m = x := ⟨_, rfl⟩
      rw [hnw2, hcu2, hmm2]
      rw [hmm2] at hl2
      have FN2 : Hid (S2.now = nw2 ∧ S2.cur = cu2 ∧ S2.m = mm2) := ⟨hnw2, hcu2, hmm2⟩
      clear g2 l2 hk2 d2 z2e f2 fc2 e2 mw2 st2 hnw2 hcu2 hmm2
      dsimp only
      have L6 := Hid.mk' (bT L5.out hb2)
      have K6 := Hid.mk' (K5.out.keep hb2)
      have M6 := Hid.mk' (M5.out.keep hb2)
      have G6 := Hid.mk' (G5.out.keep hb2)
      have E6 := Hid.mk' (E5.out.keep hb2)
      have B6 := Hid.mk' (B5.out.keep hb2)
      have C6 := Hid.mk' (C5.out.keep hb2)
      clear hb2 L5 K5 M5 G5 E5 B5 C5 c5 d5 HCR
      obtain ⟨X1, hX1⟩ : ∃ x, w6.alloc (.cells #[.slice none 0 0, .int .i64 0] 24) = x := ⟨_, rfl⟩
      obtain ⟨q8, hq8⟩ : ∃ x, w6.heap.size = x := ⟨_, rfl⟩
      obtain ⟨X2, hX2⟩ : ∃ x, X1.alloc (.cells (cxa (.slice none 0 0) 0 Z) 50) = x := ⟨_, rfl⟩
      obtain ⟨q9, hq9⟩ : ∃ x, X1.heap.size = x := ⟨_, rfl⟩
      obtain ⟨y1, y2, y3, y4, y5, y6, y7, y8⟩ := two_boxes (ao := ao2) (va := va2) (n := n2) (k := k2) (vn := vn2) (vc := vc2) (now := nw2) (cu := cu2) (m := mm2) hZ hl2 hX1 hX2 hq8 hq9
      have T50 := Hid.mk' y4
      have Y5 := Hid.mk' y5
      have Y6 := Hid.mk' y6
      have Y7 : Hid (q8 ≠ q9) := y7
      have Y8 := Hid.mk' y8
      have hz50 := HZ50.out
      clear y4 y5 y6 y7 y8
      go_upto_region 8 with (first | refine wl_st50 (B := q9) (o := 0) (.tmp 9) (.tmp 34) rfl rfl rfl rfl hl2 T50.out ?_ | fail)
      clear y1 y2 y3 hX1 hX2 hq8 hq9 hz50 T50
      generalize ((X2.setCell ⟨q8, 0, none⟩ (.slice ao2 n2 k2)).setCell ⟨q8, 1, none⟩ (.int .i64 nw2)).setCells q9 0 (cx (.slice va2 vn2 vc2) cu2 mm2) = w7 at *
      have L7 := Hid.mk' (bT L6.out Y8.out)
      have K7 := Hid.mk' (K6.out.keep Y8.out)
      have M7 := Hid.mk' (M6.out.keep Y8.out)
      have G7 := Hid.mk' (G6.out.keep Y8.out)
      have E7 := Hid.mk' (E6.out.keep Y8.out)
      have B7 := Hid.mk' (B6.out.keep Y8.out)
      have C7 := Hid.mk' (C6.out.keep Y8.out)
      have H7 := Hid.mk' (GG2.out.keep Y8.out)
      have P7 := Hid.mk' (FF2.out.keep Y8.out)
      have B8 := Hid.mk' Y5.out
      have C8 := Hid.mk' (Cb.of Y6.out)
      clear Y5 Y6 Y7 Y8 GG2 FF2 L6 K6 M6 G6 E6 B6 C6
      obtain ⟨rfl⟩ : mm2 = m := FN2.out.2.2.symm.trans J1.out.1
      obtain ⟨rfl⟩ : nw2 = (i : Int) := FN2.out.1.symm.trans J1.out.2.2.1
      obtain ⟨rfl⟩ : n2 = n := by
        have h1 := J1.out.2.2.2.2.1.len
        rw [← LL2.out.2.2.1, List.length_map, List.length_map, LL2.out.1, HN.out] at h1
        exact h1
      obtain ⟨r, hr⟩ : ∃ r, G[i]? = some r := ⟨_, List.getElem?_eq_getElem (by rw [HN.out]; exact HIN.out)⟩
      obtain ⟨g, o, rfl, hnc⟩ := HG.out.at hr
      have hzr := HG.out.nds i r hr
      have er : at' (G.map Nr.d) i = r.d := map_at hr
      have HRm : Hid (r ∈ G) := List.mem_of_getElem? hr
      have HC2 : Hid (w7.cell? ⟨g, o + i * 58 + 2, none⟩ = some (.slice r.ea r.en r.ec)) := cell_keep hnc.c2 L7.out
      have HZr : Hid (Edz w7 r.ea r.E ∧ r.E.length = r.en) := ⟨(hzr.keep L7.out).ez, hzr.len⟩
      have HEd : Hid (F2.map Er.d = r.E.map Er.d) := by unfold Hid; rw [LL2.out.2.2.2.2.2.1, J1.out.2.1, er]; rfl
      have HEn : Hid (vn2 ≤ 1048576) := by
        have h1 := congrArg List.length HEd.out
        rw [List.length_map, List.length_map, LL2.out.2.2.2.1] at h1
        unfold Hid
        rw [h1]
        exact HE9.out r HRm.out
      obtain ⟨ea, hea⟩ : ∃ x, r.ea = x := ⟨_, rfl⟩
      obtain ⟨en, hen⟩ : ∃ x, r.en = x := ⟨_, rfl⟩
      obtain ⟨ec, hec⟩ : ∃ x, r.ec = x := ⟨_, rfl⟩
      rw [hea, hen, hec] at HC2
      rw [hea, hen] at HZr
      have hi0 : (0 : Int) ≤ (i : Int) := by omega
      have hi1 : (i : Int) < (n : Int) := by have := HIN.out; omega
      clear hr hnc hzr er hea hen hec
      have D0 : Hid (Below w7.heap.size w7 w7.drew) := (Below.refl _ _).drew
      have DV : Hid (Below w7.drew.heap.size w7.drew w7.drew) := Below.refl _ _
      have K8 := Hid.mk' (K7.out.keep D0.out)
      have M8 := Hid.mk' (M7.out.keep D0.out)
      have b8 := Hid.mk' (B7.out.keep D0.out)
      have x8 := Hid.mk' (C7.out.keep D0.out)
      have y8 := Hid.mk' (B8.out.keep D0.out)
      have z8 := Hid.mk' (C8.out.keep D0.out)
      have HC3 := Hid.mk' (cell_keep HC2.out D0.out)
      refine wp_region_held (S := fun w' => Below w7.drew.heap.size w7.drew w') (by kernel_rfl) ?_
      change wpAnyH _ _ _ _ _ _ _ _ (World.drew _)
      generalize w7.drew = V3 at *
      refine wpAnyH_take (i := 0) (v := .int .i64 0) rfl (by kernel_rfl) (by kernel_rfl) (by kernel_rfl) (fun _ _ _ h => h) (Yields.yieldsIf (Or.inl ⟨by rfl, fun w => by go_simp⟩)) DV.out ?_
      try simp only [Act.put, List.getElem_toArray, List.getElem_cons_zero, List.getElem_cons_succ, List.setIfInBounds_toArray, List.set_cons_zero, List.set_cons_succ]
      refine wpAnyH_take (i := 1) (v := .bool false) rfl (by kernel_rfl) (by kernel_rfl) (by kernel_rfl) (fun _ _ _ h => h) (Yields.yieldsIf (Or.inl ⟨by rfl, fun w => by go_simp⟩)) DV.out ?_
      try simp only [Act.put, List.getElem_toArray, List.getElem_cons_zero, List.getElem_cons_succ, List.setIfInBounds_toArray, List.set_cons_zero, List.set_cons_succ]
      refine wpAnyH_take (i := 2) (v := .bool false) rfl (by kernel_rfl) (by kernel_rfl) (by kernel_rfl) (fun _ _ _ h => h) (Yields.yieldsIf (Or.inl ⟨by rfl, fun w => by go_simp⟩)) DV.out ?_
      try simp only [Act.put, List.getElem_toArray, List.getElem_cons_zero, List.getElem_cons_succ, List.setIfInBounds_toArray, List.set_cons_zero, List.set_cons_succ]
      refine wpAnyH_take (i := 3) (v := .pointer (some ⟨q9, 2, none⟩)) rfl (by kernel_rfl) (by kernel_rfl) (by kernel_rfl) (fun _ _ _ h => h) (Yields.yieldsIf (Or.inl ⟨by rfl, fun w => by go_simp⟩)) DV.out ?_
      try simp only [Act.put, List.getElem_toArray, List.getElem_cons_zero, List.getElem_cons_succ, List.setIfInBounds_toArray, List.set_cons_zero, List.set_cons_succ]
      refine wpAnyH_take (i := 4) (v := .agg (mk m)) rfl (by kernel_rfl) (by kernel_rfl) (by kernel_rfl) (fun _ _ _ h => h) (yi_ld ty41 rfl (.tmp 39) rfl rfl (ml m) (by rw [ml_len, hml]) (fun _ h => (z8.out.keep h).mr)) DV.out ?_
      try simp only [Act.put, List.getElem_toArray, List.getElem_cons_zero, List.getElem_cons_succ, List.setIfInBounds_toArray, List.set_cons_zero, List.set_cons_succ]
      refine wpAnyH_take (i := 5) (v := .agg (mk m)) rfl (by kernel_rfl) (by kernel_rfl) (by kernel_rfl) (fun _ _ _ h => h) (yi_ld ty41 rfl (.tmp 3) rfl rfl (ml m) (by rw [ml_len, hml]) (fun _ h => range_blk (M8.out.keep h))) DV.out ?_
      try simp only [Act.put, List.getElem_toArray, List.getElem_cons_zero, List.getElem_cons_succ, List.setIfInBounds_toArray, List.set_cons_zero, List.set_cons_succ]
      refine wpAnyH_take (i := 6) (v := .bool false) rfl (by kernel_rfl) (by kernel_rfl) (by kernel_rfl) (fun _ _ _ h => h) (yi_bin rfl .neq 41 41 (.tmp 40) (.tmp 41) rfl rfl rfl Try.eqGuardType41 (fun w => by rw [neq41 w m m hml hml]; simp)) DV.out ?_
      try simp only [Act.put, List.getElem_toArray, List.getElem_cons_zero, List.getElem_cons_succ, List.setIfInBounds_toArray, List.set_cons_zero, List.set_cons_succ]
      refine wpAnyH_take (i := 7) (v := .bool false) rfl (by kernel_rfl) (by kernel_rfl) (by kernel_rfl) (fun _ _ _ h => h) (Yields.yieldsIf (Or.inl ⟨by rfl, fun w => by go_simp⟩)) DV.out ?_
      try simp only [Act.put, List.getElem_toArray, List.getElem_cons_zero, List.getElem_cons_succ, List.setIfInBounds_toArray, List.set_cons_zero, List.set_cons_succ]
      refine wpAnyH_take (i := 8) (v := .bool false) rfl (by kernel_rfl) (by kernel_rfl) (by kernel_rfl) (fun _ _ _ h => h) (Yields.yieldsIf (Or.inl ⟨by rfl, fun w => by go_simp⟩)) DV.out ?_
      try simp only [Act.put, List.getElem_toArray, List.getElem_cons_zero, List.getElem_cons_succ, List.setIfInBounds_toArray, List.set_cons_zero, List.set_cons_succ]
      refine wpAnyH_take (i := 9) (v := .agg #[.slice ao2 n k2, .int .i64 (i : Int)]) rfl (by kernel_rfl) (by kernel_rfl) (by kernel_rfl) (fun _ _ _ h => h) (Or.inl ⟨by rfl, fun w9 h9 => by have h1 : w9.cell? ⟨b, 0, none⟩ = some (.slice (some ⟨g, o, none⟩) n c) := (K8.out.keep h9).cell rfl; have h2 : w9.cell? ⟨b, 1, none⟩ = some (.int .i64 (i : Int)) := (K8.out.keep h9).cell rfl; have h3 : w9.cell? ⟨q5, 0, none⟩ = some (.slice ao1 n1 k1) := (b8.out.keep h9).cell rfl; have h4 : w9.cell? ⟨q5, 1, none⟩ = some (.int .i64 nw1) := (b8.out.keep h9).cell rfl; have h5 : w9.cell? ⟨q8, 0, none⟩ = some (.slice ao2 n k2) := (y8.out.keep h9).cell rfl; have h6 : w9.cell? ⟨q8, 1, none⟩ = some (.int .i64 (i : Int)) := (y8.out.keep h9).cell rfl; have h7 := (x8.out.keep h9).c0; have h8 := (z8.out.keep h9).c0; have h10 := cell_keep HC3.out h9; go_simp⟩) DV.out ?_
      try simp only [Act.put, List.getElem_toArray, List.getElem_cons_zero, List.getElem_cons_succ, List.setIfInBounds_toArray, List.set_cons_zero, List.set_cons_succ]
      refine wpAnyH_take (i := 10) (v := .agg #[.slice (some ⟨g, o, none⟩) n c, .int .i64 (i : Int)]) rfl (by kernel_rfl) (by kernel_rfl) (by kernel_rfl) (fun _ _ _ h => h) (Or.inl ⟨by rfl, fun w9 h9 => by have h1 : w9.cell? ⟨b, 0, none⟩ = some (.slice (some ⟨g, o, none⟩) n c) := (K8.out.keep h9).cell rfl; have h2 : w9.cell? ⟨b, 1, none⟩ = some (.int .i64 (i : Int)) := (K8.out.keep h9).cell rfl; have h3 : w9.cell? ⟨q5, 0, none⟩ = some (.slice ao1 n1 k1) := (b8.out.keep h9).cell rfl; have h4 : w9.cell? ⟨q5, 1, none⟩ = some (.int .i64 nw1) := (b8.out.keep h9).cell rfl; have h5 : w9.cell? ⟨q8, 0, none⟩ = some (.slice ao2 n k2) := (y8.out.keep h9).cell rfl; have h6 : w9.cell? ⟨q8, 1, none⟩ = some (.int .i64 (i : Int)) := (y8.out.keep h9).cell rfl; have h7 := (x8.out.keep h9).c0; have h8 := (z8.out.keep h9).c0; have h10 := cell_keep HC3.out h9; go_simp⟩) DV.out ?_
      try simp only [Act.put, List.getElem_toArray, List.getElem_cons_zero, List.getElem_cons_succ, List.setIfInBounds_toArray, List.set_cons_zero, List.set_cons_succ]
      refine wpAnyH_take (i := 11) (v := .pointer (some ⟨b, 1, none⟩)) rfl (by kernel_rfl) (by kernel_rfl) (by kernel_rfl) (fun _ _ _ h => h) (Yields.yieldsIf (Or.inl ⟨by rfl, fun w => by go_simp⟩)) DV.out ?_
      try simp only [Act.put, List.getElem_toArray, List.getElem_cons_zero, List.getElem_cons_succ, List.setIfInBounds_toArray, List.set_cons_zero, List.set_cons_succ]
      refine wpAnyH_take (i := 12) (v := .int .i64 (i : Int)) rfl (by kernel_rfl) (by kernel_rfl) (by kernel_rfl) (fun _ _ _ h => h) (Or.inl ⟨by rfl, fun w9 h9 => by have h1 : w9.cell? ⟨b, 0, none⟩ = some (.slice (some ⟨g, o, none⟩) n c) := (K8.out.keep h9).cell rfl; have h2 : w9.cell? ⟨b, 1, none⟩ = some (.int .i64 (i : Int)) := (K8.out.keep h9).cell rfl; have h3 : w9.cell? ⟨q5, 0, none⟩ = some (.slice ao1 n1 k1) := (b8.out.keep h9).cell rfl; have h4 : w9.cell? ⟨q5, 1, none⟩ = some (.int .i64 nw1) := (b8.out.keep h9).cell rfl; have h5 : w9.cell? ⟨q8, 0, none⟩ = some (.slice ao2 n k2) := (y8.out.keep h9).cell rfl; have h6 : w9.cell? ⟨q8, 1, none⟩ = some (.int .i64 (i : Int)) := (y8.out.keep h9).cell rfl; have h7 := (x8.out.keep h9).c0; have h8 := (z8.out.keep h9).c0; have h10 := cell_keep HC3.out h9; go_simp⟩) DV.out ?_
      try simp only [Act.put, List.getElem_toArray, List.getElem_cons_zero, List.getElem_cons_succ, List.setIfInBounds_toArray, List.set_cons_zero, List.set_cons_succ]
      refine wpAnyH_all (rs := [13]) (by kernel_rfl) (by simp) (AllH.cons rfl (fun K hK => ?_) AllH.nil)
      go_simp
      refine (alike_yes ao2 n k2 (i : Int) H2 (some ⟨g, o, none⟩) c G i V3 (H7.out.keep D0.out) (HG.out.keep (bT L7.out D0.out)) LL2.out.1 HN.out (by have := J1.out.2.2.2.2.1; rw [← LL2.out.2.2.1] at this; exact this) (by have := HN9.out; omega)).mono ?_
      rintro e u1 ⟨rfl, hbb⟩
      have R1 : Hid (Below w7.heap.size w7 u1) := bT D0.out hbb
      have S1 : Hid (Below V3.heap.size V3 u1) := bT (DV.out) hbb
      clear hbb
      dsimp only
      refine hK _ _ ⟨S1.out, ?_⟩
      clear hK K
      try simp only [Act.put, List.getElem_toArray, List.getElem_cons_zero, List.getElem_cons_succ, List.setIfInBounds_toArray, List.set_cons_zero, List.set_cons_succ]
      refine wpAnyH_take (i := 14) (v := .bool false) rfl (by kernel_rfl) (by kernel_rfl) (by kernel_rfl) (fun _ _ _ h => h) (Yields.yieldsIf (Or.inl ⟨by rfl, fun w => by go_simp⟩)) S1.out ?_
      try simp only [Act.put, List.getElem_toArray, List.getElem_cons_zero, List.getElem_cons_succ, List.setIfInBounds_toArray, List.set_cons_zero, List.set_cons_succ]
      refine wpAnyH_take (i := 15) (v := .bool false) rfl (by kernel_rfl) (by kernel_rfl) (by kernel_rfl) (fun _ _ _ h => h) (Yields.yieldsIf (Or.inl ⟨by rfl, fun w => by go_simp⟩)) S1.out ?_
      try simp only [Act.put, List.getElem_toArray, List.getElem_cons_zero, List.getElem_cons_succ, List.setIfInBounds_toArray, List.set_cons_zero, List.set_cons_succ]
      refine wpAnyH_take (i := 16) (v := .bool false) rfl (by kernel_rfl) (by kernel_rfl) (by kernel_rfl) (fun _ _ _ h => h) (Yields.yieldsIf (Or.inl ⟨by rfl, fun w => by go_simp⟩)) S1.out ?_
      try simp only [Act.put, List.getElem_toArray, List.getElem_cons_zero, List.getElem_cons_succ, List.setIfInBounds_toArray, List.set_cons_zero, List.set_cons_succ]
      refine wpAnyH_take (i := 17) (v := .agg #[.slice ao1 n1 k1, .int .i64 nw1]) rfl (by kernel_rfl) (by kernel_rfl) (by kernel_rfl) (fun _ _ _ h => h) (Or.inl ⟨by rfl, fun w9 h9 => by have h1 : w9.cell? ⟨b, 0, none⟩ = some (.slice (some ⟨g, o, none⟩) n c) := (K8.out.keep h9).cell rfl; have h2 : w9.cell? ⟨b, 1, none⟩ = some (.int .i64 (i : Int)) := (K8.out.keep h9).cell rfl; have h3 : w9.cell? ⟨q5, 0, none⟩ = some (.slice ao1 n1 k1) := (b8.out.keep h9).cell rfl; have h4 : w9.cell? ⟨q5, 1, none⟩ = some (.int .i64 nw1) := (b8.out.keep h9).cell rfl; have h5 : w9.cell? ⟨q8, 0, none⟩ = some (.slice ao2 n k2) := (y8.out.keep h9).cell rfl; have h6 : w9.cell? ⟨q8, 1, none⟩ = some (.int .i64 (i : Int)) := (y8.out.keep h9).cell rfl; have h7 := (x8.out.keep h9).c0; have h8 := (z8.out.keep h9).c0; have h10 := cell_keep HC3.out h9; go_simp⟩) S1.out ?_
      try simp only [Act.put, List.getElem_toArray, List.getElem_cons_zero, List.getElem_cons_succ, List.setIfInBounds_toArray, List.set_cons_zero, List.set_cons_succ]
      refine wpAnyH_all (rs := [18]) (by kernel_rfl) (by simp) (AllH.cons rfl (fun K hK => ?_) AllH.nil)
      go_simp
      refine (chk0 ao1 n1 k1 nw1 H1 u1 (G7.out.keep R1.out) LL1.out.1 LL1.out.2.1 (by rw [LL1.out.2.2.1, ← FN1.out.1]; exact HR1.out)).mono ?_
      rintro e u2 ⟨rfl, hbb⟩
      have R2 : Hid (Below w7.heap.size w7 u2) := bT R1.out hbb
      have S2 : Hid (Below V3.heap.size V3 u2) := bT (S1.out) hbb
      clear hbb
      dsimp only
      refine hK _ _ ⟨S2.out, ?_⟩
      clear hK K
      try simp only [Act.put, List.getElem_toArray, List.getElem_cons_zero, List.getElem_cons_succ, List.setIfInBounds_toArray, List.set_cons_zero, List.set_cons_succ]
      refine wpAnyH_take (i := 19) (v := .bool false) rfl (by kernel_rfl) (by kernel_rfl) (by kernel_rfl) (fun _ _ _ h => h) (Yields.yieldsIf (Or.inl ⟨by rfl, fun w => by go_simp⟩)) S2.out ?_
      try simp only [Act.put, List.getElem_toArray, List.getElem_cons_zero, List.getElem_cons_succ, List.setIfInBounds_toArray, List.set_cons_zero, List.set_cons_succ]
      refine wpAnyH_take (i := 20) (v := .bool false) rfl (by kernel_rfl) (by kernel_rfl) (by kernel_rfl) (fun _ _ _ h => h) (Yields.yieldsIf (Or.inl ⟨by rfl, fun w => by go_simp⟩)) S2.out ?_
      try simp only [Act.put, List.getElem_toArray, List.getElem_cons_zero, List.getElem_cons_succ, List.setIfInBounds_toArray, List.set_cons_zero, List.set_cons_succ]
      refine wpAnyH_take (i := 21) (v := .bool false) rfl (by kernel_rfl) (by kernel_rfl) (by kernel_rfl) (fun _ _ _ h => h) (Yields.yieldsIf (Or.inl ⟨by rfl, fun w => by go_simp⟩)) S2.out ?_
      try simp only [Act.put, List.getElem_toArray, List.getElem_cons_zero, List.getElem_cons_succ, List.setIfInBounds_toArray, List.set_cons_zero, List.set_cons_succ]
      refine wpAnyH_take (i := 22) (v := .agg #[.slice ao2 n k2, .int .i64 (i : Int)]) rfl (by kernel_rfl) (by kernel_rfl) (by kernel_rfl) (fun _ _ _ h => h) (Or.inl ⟨by rfl, fun w9 h9 => by have h1 : w9.cell? ⟨b, 0, none⟩ = some (.slice (some ⟨g, o, none⟩) n c) := (K8.out.keep h9).cell rfl; have h2 : w9.cell? ⟨b, 1, none⟩ = some (.int .i64 (i : Int)) := (K8.out.keep h9).cell rfl; have h3 : w9.cell? ⟨q5, 0, none⟩ = some (.slice ao1 n1 k1) := (b8.out.keep h9).cell rfl; have h4 : w9.cell? ⟨q5, 1, none⟩ = some (.int .i64 nw1) := (b8.out.keep h9).cell rfl; have h5 : w9.cell? ⟨q8, 0, none⟩ = some (.slice ao2 n k2) := (y8.out.keep h9).cell rfl; have h6 : w9.cell? ⟨q8, 1, none⟩ = some (.int .i64 (i : Int)) := (y8.out.keep h9).cell rfl; have h7 := (x8.out.keep h9).c0; have h8 := (z8.out.keep h9).c0; have h10 := cell_keep HC3.out h9; go_simp⟩) S2.out ?_
      try simp only [Act.put, List.getElem_toArray, List.getElem_cons_zero, List.getElem_cons_succ, List.setIfInBounds_toArray, List.set_cons_zero, List.set_cons_succ]
      refine wpAnyH_all (rs := [23]) (by kernel_rfl) (by simp) (AllH.cons rfl (fun K hK => ?_) AllH.nil)
      go_simp
      refine (chk0 ao2 n k2 (i : Int) H2 u2 (H7.out.keep R2.out) LL2.out.1 LL2.out.2.1 (by rw [LL2.out.2.2.1, ← FN2.out.1]; exact J1.out.2.2.2.1)).mono ?_
      rintro e u3 ⟨rfl, hbb⟩
      have R3 : Hid (Below w7.heap.size w7 u3) := bT R2.out hbb
      have S3 : Hid (Below V3.heap.size V3 u3) := bT (S2.out) hbb
      clear hbb
      dsimp only
      refine hK _ _ ⟨S3.out, ?_⟩
      clear hK K
      try simp only [Act.put, List.getElem_toArray, List.getElem_cons_zero, List.getElem_cons_succ, List.setIfInBounds_toArray, List.set_cons_zero, List.set_cons_succ]
      refine wpAnyH_take (i := 24) (v := .bool false) rfl (by kernel_rfl) (by kernel_rfl) (by kernel_rfl) (fun _ _ _ h => h) (Yields.yieldsIf (Or.inl ⟨by rfl, fun w => by go_simp⟩)) S3.out ?_
      try simp only [Act.put, List.getElem_toArray, List.getElem_cons_zero, List.getElem_cons_succ, List.setIfInBounds_toArray, List.set_cons_zero, List.set_cons_succ]
      refine wpAnyH_take (i := 25) (v := .bool false) rfl (by kernel_rfl) (by kernel_rfl) (by kernel_rfl) (fun _ _ _ h => h) (Yields.yieldsIf (Or.inl ⟨by rfl, fun w => by go_simp⟩)) S3.out ?_
      try simp only [Act.put, List.getElem_toArray, List.getElem_cons_zero, List.getElem_cons_succ, List.setIfInBounds_toArray, List.set_cons_zero, List.set_cons_succ]
      refine wpAnyH_take (i := 26) (v := .bool false) rfl (by kernel_rfl) (by kernel_rfl) (by kernel_rfl) (fun _ _ _ h => h) (Yields.yieldsIf (Or.inl ⟨by rfl, fun w => by go_simp⟩)) S3.out ?_
      try simp only [Act.put, List.getElem_toArray, List.getElem_cons_zero, List.getElem_cons_succ, List.setIfInBounds_toArray, List.set_cons_zero, List.set_cons_succ]
      refine wpAnyH_take (i := 27) (v := .pointer (some ⟨q9, 0, none⟩)) rfl (by kernel_rfl) (by kernel_rfl) (by kernel_rfl) (fun _ _ _ h => h) (Yields.yieldsIf (Or.inl ⟨by rfl, fun w => by go_simp⟩)) S3.out ?_
      try simp only [Act.put, List.getElem_toArray, List.getElem_cons_zero, List.getElem_cons_succ, List.setIfInBounds_toArray, List.set_cons_zero, List.set_cons_succ]
      refine wpAnyH_take (i := 28) (v := .slice va2 vn2 vc2) rfl (by kernel_rfl) (by kernel_rfl) (by kernel_rfl) (fun _ _ _ h => h) (Or.inl ⟨by rfl, fun w9 h9 => by have h1 : w9.cell? ⟨b, 0, none⟩ = some (.slice (some ⟨g, o, none⟩) n c) := (K8.out.keep h9).cell rfl; have h2 : w9.cell? ⟨b, 1, none⟩ = some (.int .i64 (i : Int)) := (K8.out.keep h9).cell rfl; have h3 : w9.cell? ⟨q5, 0, none⟩ = some (.slice ao1 n1 k1) := (b8.out.keep h9).cell rfl; have h4 : w9.cell? ⟨q5, 1, none⟩ = some (.int .i64 nw1) := (b8.out.keep h9).cell rfl; have h5 : w9.cell? ⟨q8, 0, none⟩ = some (.slice ao2 n k2) := (y8.out.keep h9).cell rfl; have h6 : w9.cell? ⟨q8, 1, none⟩ = some (.int .i64 (i : Int)) := (y8.out.keep h9).cell rfl; have h7 := (x8.out.keep h9).c0; have h8 := (z8.out.keep h9).c0; have h10 := cell_keep HC3.out h9; go_simp⟩) S3.out ?_
      try simp only [Act.put, List.getElem_toArray, List.getElem_cons_zero, List.getElem_cons_succ, List.setIfInBounds_toArray, List.set_cons_zero, List.set_cons_succ]
      refine wpAnyH_take (i := 29) (v := .pointer (some ⟨b, 0, none⟩)) rfl (by kernel_rfl) (by kernel_rfl) (by kernel_rfl) (fun _ _ _ h => h) (Yields.yieldsIf (Or.inl ⟨by rfl, fun w => by go_simp⟩)) S3.out ?_
      try simp only [Act.put, List.getElem_toArray, List.getElem_cons_zero, List.getElem_cons_succ, List.setIfInBounds_toArray, List.set_cons_zero, List.set_cons_succ]
      refine wpAnyH_take (i := 30) (v := .slice (some ⟨g, o, none⟩) n c) rfl (by kernel_rfl) (by kernel_rfl) (by kernel_rfl) (fun _ _ _ h => h) (Or.inl ⟨by rfl, fun w9 h9 => by have h1 : w9.cell? ⟨b, 0, none⟩ = some (.slice (some ⟨g, o, none⟩) n c) := (K8.out.keep h9).cell rfl; have h2 : w9.cell? ⟨b, 1, none⟩ = some (.int .i64 (i : Int)) := (K8.out.keep h9).cell rfl; have h3 : w9.cell? ⟨q5, 0, none⟩ = some (.slice ao1 n1 k1) := (b8.out.keep h9).cell rfl; have h4 : w9.cell? ⟨q5, 1, none⟩ = some (.int .i64 nw1) := (b8.out.keep h9).cell rfl; have h5 : w9.cell? ⟨q8, 0, none⟩ = some (.slice ao2 n k2) := (y8.out.keep h9).cell rfl; have h6 : w9.cell? ⟨q8, 1, none⟩ = some (.int .i64 (i : Int)) := (y8.out.keep h9).cell rfl; have h7 := (x8.out.keep h9).c0; have h8 := (z8.out.keep h9).c0; have h10 := cell_keep HC3.out h9; go_simp⟩) S3.out ?_
      try simp only [Act.put, List.getElem_toArray, List.getElem_cons_zero, List.getElem_cons_succ, List.setIfInBounds_toArray, List.set_cons_zero, List.set_cons_succ]
      refine wpAnyH_take (i := 31) (v := .pointer (some ⟨b, 1, none⟩)) rfl (by kernel_rfl) (by kernel_rfl) (by kernel_rfl) (fun _ _ _ h => h) (Yields.yieldsIf (Or.inl ⟨by rfl, fun w => by go_simp⟩)) S3.out ?_
      try simp only [Act.put, List.getElem_toArray, List.getElem_cons_zero, List.getElem_cons_succ, List.setIfInBounds_toArray, List.set_cons_zero, List.set_cons_succ]
      refine wpAnyH_take (i := 32) (v := .int .i64 (i : Int)) rfl (by kernel_rfl) (by kernel_rfl) (by kernel_rfl) (fun _ _ _ h => h) (Or.inl ⟨by rfl, fun w9 h9 => by have h1 : w9.cell? ⟨b, 0, none⟩ = some (.slice (some ⟨g, o, none⟩) n c) := (K8.out.keep h9).cell rfl; have h2 : w9.cell? ⟨b, 1, none⟩ = some (.int .i64 (i : Int)) := (K8.out.keep h9).cell rfl; have h3 : w9.cell? ⟨q5, 0, none⟩ = some (.slice ao1 n1 k1) := (b8.out.keep h9).cell rfl; have h4 : w9.cell? ⟨q5, 1, none⟩ = some (.int .i64 nw1) := (b8.out.keep h9).cell rfl; have h5 : w9.cell? ⟨q8, 0, none⟩ = some (.slice ao2 n k2) := (y8.out.keep h9).cell rfl; have h6 : w9.cell? ⟨q8, 1, none⟩ = some (.int .i64 (i : Int)) := (y8.out.keep h9).cell rfl; have h7 := (x8.out.keep h9).c0; have h8 := (z8.out.keep h9).c0; have h10 := cell_keep HC3.out h9; go_simp⟩) S3.out ?_
      try simp only [Act.put, List.getElem_toArray, List.getElem_cons_zero, List.getElem_cons_succ, List.setIfInBounds_toArray, List.set_cons_zero, List.set_cons_succ]
      refine wpAnyH_take (i := 33) (v := .pointer (some ⟨g, o + i * 58, none⟩)) rfl (by kernel_rfl) (by kernel_rfl) (by kernel_rfl) (fun _ _ _ h => h) (Yields.yieldsIf (Or.inl ⟨by rfl, fun w => by go_simp⟩)) S3.out ?_
      try simp only [Act.put, List.getElem_toArray, List.getElem_cons_zero, List.getElem_cons_succ, List.setIfInBounds_toArray, List.set_cons_zero, List.set_cons_succ]
      refine wpAnyH_take (i := 34) (v := .pointer (some ⟨g, o + i * 58 + 2, none⟩)) rfl (by kernel_rfl) (by kernel_rfl) (by kernel_rfl) (fun _ _ _ h => h) (Yields.yieldsIf (Or.inl ⟨by rfl, fun w => by go_simp⟩)) S3.out ?_
      try simp only [Act.put, List.getElem_toArray, List.getElem_cons_zero, List.getElem_cons_succ, List.setIfInBounds_toArray, List.set_cons_zero, List.set_cons_succ]
      refine wpAnyH_take (i := 35) (v := .slice ea en ec) rfl (by kernel_rfl) (by kernel_rfl) (by kernel_rfl) (fun _ _ _ h => h) (Or.inl ⟨by rfl, fun w9 h9 => by have h1 : w9.cell? ⟨b, 0, none⟩ = some (.slice (some ⟨g, o, none⟩) n c) := (K8.out.keep h9).cell rfl; have h2 : w9.cell? ⟨b, 1, none⟩ = some (.int .i64 (i : Int)) := (K8.out.keep h9).cell rfl; have h3 : w9.cell? ⟨q5, 0, none⟩ = some (.slice ao1 n1 k1) := (b8.out.keep h9).cell rfl; have h4 : w9.cell? ⟨q5, 1, none⟩ = some (.int .i64 nw1) := (b8.out.keep h9).cell rfl; have h5 : w9.cell? ⟨q8, 0, none⟩ = some (.slice ao2 n k2) := (y8.out.keep h9).cell rfl; have h6 : w9.cell? ⟨q8, 1, none⟩ = some (.int .i64 (i : Int)) := (y8.out.keep h9).cell rfl; have h7 := (x8.out.keep h9).c0; have h8 := (z8.out.keep h9).c0; have h10 := cell_keep HC3.out h9; go_simp⟩) S3.out ?_
      try simp only [Act.put, List.getElem_toArray, List.getElem_cons_zero, List.getElem_cons_succ, List.setIfInBounds_toArray, List.set_cons_zero, List.set_cons_succ]
      refine wpAnyH_all (rs := [36]) (by kernel_rfl) (by simp) (AllH.cons rfl (fun K hK => ?_) AllH.nil)
      go_simp
      refine (same_yes va2 vn2 vc2 F2 ea en ec r.E u3 (P7.out.keep R3.out) (HZr.out.1.keep R3.out) LL2.out.2.2.2.1 HZr.out.2 HEd.out (by have := HEn.out; omega)).mono ?_
      rintro e u4 ⟨rfl, hbb⟩
      have R4 : Hid (Below w7.heap.size w7 u4) := bT R3.out hbb
      have S4 : Hid (Below V3.heap.size V3 u4) := bT (S3.out) hbb
      clear hbb
      dsimp only
      refine hK _ _ ⟨S4.out, ?_⟩
      clear hK K
      try simp only [Act.put, List.getElem_toArray, List.getElem_cons_zero, List.getElem_cons_succ, List.setIfInBounds_toArray, List.set_cons_zero, List.set_cons_succ]
      refine wpAnyH_take (i := 37) (v := .bool false) rfl (by kernel_rfl) (by kernel_rfl) (by kernel_rfl) (fun _ _ _ h => h) (Yields.yieldsIf (Or.inl ⟨by rfl, fun w => by go_simp⟩)) S4.out ?_
      try simp only [Act.put, List.getElem_toArray, List.getElem_cons_zero, List.getElem_cons_succ, List.setIfInBounds_toArray, List.set_cons_zero, List.set_cons_succ]
      refine wpAnyH_take (i := 38) (v := .bool false) rfl (by kernel_rfl) (by kernel_rfl) (by kernel_rfl) (fun _ _ _ h => h) (Yields.yieldsIf (Or.inl ⟨by rfl, fun w => by go_simp⟩)) S4.out ?_
      try simp only [Act.put, List.getElem_toArray, List.getElem_cons_zero, List.getElem_cons_succ, List.setIfInBounds_toArray, List.set_cons_zero, List.set_cons_succ]
      refine wpAnyH_take (i := 39) (v := .bool false) rfl (by kernel_rfl) (by kernel_rfl) (by kernel_rfl) (fun _ _ _ h => h) (Yields.yieldsIf (Or.inl ⟨by rfl, fun w => by go_simp⟩)) S4.out ?_
      try simp only [Act.put, List.getElem_toArray, List.getElem_cons_zero, List.getElem_cons_succ, List.setIfInBounds_toArray, List.set_cons_zero, List.set_cons_succ]
      refine wpAnyH_take (i := 40) (v := .pointer (some ⟨q9, 0, none⟩)) rfl (by kernel_rfl) (by kernel_rfl) (by kernel_rfl) (fun _ _ _ h => h) (Yields.yieldsIf (Or.inl ⟨by rfl, fun w => by go_simp⟩)) S4.out ?_
      try simp only [Act.put, List.getElem_toArray, List.getElem_cons_zero, List.getElem_cons_succ, List.setIfInBounds_toArray, List.set_cons_zero, List.set_cons_succ]
      refine wpAnyH_take (i := 41) (v := .slice va2 vn2 vc2) rfl (by kernel_rfl) (by kernel_rfl) (by kernel_rfl) (fun _ _ _ h => h) (Or.inl ⟨by rfl, fun w9 h9 => by have h1 : w9.cell? ⟨b, 0, none⟩ = some (.slice (some ⟨g, o, none⟩) n c) := (K8.out.keep h9).cell rfl; have h2 : w9.cell? ⟨b, 1, none⟩ = some (.int .i64 (i : Int)) := (K8.out.keep h9).cell rfl; have h3 : w9.cell? ⟨q5, 0, none⟩ = some (.slice ao1 n1 k1) := (b8.out.keep h9).cell rfl; have h4 : w9.cell? ⟨q5, 1, none⟩ = some (.int .i64 nw1) := (b8.out.keep h9).cell rfl; have h5 : w9.cell? ⟨q8, 0, none⟩ = some (.slice ao2 n k2) := (y8.out.keep h9).cell rfl; have h6 : w9.cell? ⟨q8, 1, none⟩ = some (.int .i64 (i : Int)) := (y8.out.keep h9).cell rfl; have h7 := (x8.out.keep h9).c0; have h8 := (z8.out.keep h9).c0; have h10 := cell_keep HC3.out h9; go_simp⟩) S4.out ?_
      try simp only [Act.put, List.getElem_toArray, List.getElem_cons_zero, List.getElem_cons_succ, List.setIfInBounds_toArray, List.set_cons_zero, List.set_cons_succ]
      refine wpAnyH_take (i := 43) (v := .pointer (some ⟨q6, 0, none⟩)) rfl (by kernel_rfl) (by kernel_rfl) (by kernel_rfl) (fun _ _ _ h => h) (Yields.yieldsIf (Or.inl ⟨by rfl, fun w => by go_simp⟩)) S4.out ?_
      try simp only [Act.put, List.getElem_toArray, List.getElem_cons_zero, List.getElem_cons_succ, List.setIfInBounds_toArray, List.set_cons_zero, List.set_cons_succ]
      refine wpAnyH_take (i := 44) (v := .slice va1 vn1 vc1) rfl (by kernel_rfl) (by kernel_rfl) (by kernel_rfl) (fun _ _ _ h => h) (Or.inl ⟨by rfl, fun w9 h9 => by have h1 : w9.cell? ⟨b, 0, none⟩ = some (.slice (some ⟨g, o, none⟩) n c) := (K8.out.keep h9).cell rfl; have h2 : w9.cell? ⟨b, 1, none⟩ = some (.int .i64 (i : Int)) := (K8.out.keep h9).cell rfl; have h3 : w9.cell? ⟨q5, 0, none⟩ = some (.slice ao1 n1 k1) := (b8.out.keep h9).cell rfl; have h4 : w9.cell? ⟨q5, 1, none⟩ = some (.int .i64 nw1) := (b8.out.keep h9).cell rfl; have h5 : w9.cell? ⟨q8, 0, none⟩ = some (.slice ao2 n k2) := (y8.out.keep h9).cell rfl; have h6 : w9.cell? ⟨q8, 1, none⟩ = some (.int .i64 (i : Int)) := (y8.out.keep h9).cell rfl; have h7 := (x8.out.keep h9).c0; have h8 := (z8.out.keep h9).c0; have h10 := cell_keep HC3.out h9; go_simp⟩) S4.out ?_
      try simp only [Act.put, List.getElem_toArray, List.getElem_cons_zero, List.getElem_cons_succ, List.setIfInBounds_toArray, List.set_cons_zero, List.set_cons_succ]
      refine wpAnyH_all (rs := [42]) (by kernel_rfl) (by simp) (AllH.cons rfl (fun K hK => ?_) AllH.nil)
      go_simp
      refine (invert_any va2 vn2 vc2 F2 u4 (P7.out.keep R4.out) LL2.out.2.2.2.1 (by have := HEn.out; omega)).mono ?_
      rintro e u5 ⟨v5, Fi, rfl, hFi, hLi⟩
      obtain ⟨vi, ci, rfl, zi, -⟩ := hLi.edz
      obtain ⟨ni, hni⟩ : ∃ x, Fi.length = x := ⟨_, rfl⟩
      rw [hni]
      have R5 : Hid (Below w7.heap.size w7 u5) := bT R4.out hLi.bel
      have S5 : Hid (Below V3.heap.size V3 u5) := bT (S4.out) hLi.bel
      have ZI := Hid.mk' zi
      have HNI := Hid.mk' hni
      have HFI := Hid.mk' hFi
      clear zi hLi hni hFi
      dsimp only
      refine hK _ _ ⟨S5.out, ?_⟩
      clear hK K
      try simp only [Act.put, List.getElem_toArray, List.getElem_cons_zero, List.getElem_cons_succ, List.setIfInBounds_toArray, List.set_cons_zero, List.set_cons_succ]
      refine wpAnyH_all (rs := [45]) (by kernel_rfl) (by simp) (AllH.cons rfl (fun K hK => ?_) AllH.nil)
      go_simp
      refine (same_yes vi ni ci Fi va1 vn1 vc1 F1 u5 ZI.out (E7.out.keep R5.out) HNI.out LL1.out.2.2.2.1 (by rw [HFI.out, LL2.out.2.2.2.2.2.1, LL1.out.2.2.2.2.2.1]; exact J1.out.2.2.2.2.2) (by have h1 := congrArg List.length HFI.out; rw [List.length_map, HNI.out, inv_length, List.length_map, LL2.out.2.2.2.1] at h1; have := HEn.out; omega)).mono ?_
      rintro e u6 ⟨rfl, hbb⟩
      have R6 : Hid (Below w7.heap.size w7 u6) := bT R5.out hbb
      have S6 : Hid (Below V3.heap.size V3 u6) := bT (S5.out) hbb
      clear hbb
      dsimp only
      refine hK _ _ ⟨S6.out, ?_⟩
      clear hK K
      try simp only [Act.put, List.getElem_toArray, List.getElem_cons_zero, List.getElem_cons_succ, List.setIfInBounds_toArray, List.set_cons_zero, List.set_cons_succ]
      refine wpAnyH_take (i := 46) (v := .bool false) rfl (by kernel_rfl) (by kernel_rfl) (by kernel_rfl) (fun _ _ _ h => h) (Yields.yieldsIf (Or.inl ⟨by rfl, fun w => by go_simp⟩)) S6.out ?_
      try simp only [Act.put, List.getElem_toArray, List.getElem_cons_zero, List.getElem_cons_succ, List.setIfInBounds_toArray, List.set_cons_zero, List.set_cons_succ]
      refine wpAnyH_take (i := 47) (v := .bool false) rfl (by kernel_rfl) (by kernel_rfl) (by kernel_rfl) (fun _ _ _ h => h) (Yields.yieldsIf (Or.inl ⟨by rfl, fun w => by go_simp⟩)) S6.out ?_
      try simp only [Act.put, List.getElem_toArray, List.getElem_cons_zero, List.getElem_cons_succ, List.setIfInBounds_toArray, List.set_cons_zero, List.set_cons_succ]
      refine wpAnyH_done (by kernel_rfl) ?_ _
      have L9 := Hid.mk' (bT L7.out R6.out)
      have K9 := Hid.mk' (K7.out.keep R6.out)
      have M9 := Hid.mk' (M7.out.keep R6.out)
      have B9 := Hid.mk' (B7.out.keep R6.out)
      have C9 := Hid.mk' (C7.out.keep R6.out)
      generalize u6 = wz at *
      have a9 : wz.cell? ⟨b, 0, none⟩ = some (.slice (some ⟨g, o, none⟩) n c) := K9.out.cell rfl
      have b9 : wz.cell? ⟨b, 1, none⟩ = some (.int .i64 (i : Int)) := K9.out.cell rfl
      have CR3 := redo_q (some ⟨g, o, none⟩) n c (i : Int) G m wz (HG.out.keep L9.out) HN.out HNc.out HMw.out
      obtain ⟨z3, hz3⟩ : ∃ z, redE (G.map Nr.d) (i : Int) m = z := ⟨_, rfl⟩
      rw [hz3] at CR3
      obtain ⟨S3, hS3⟩ : ∃ S, crW z3 ((Wk.new (G.map Nr.d) (i : Int) m).down (at' (G.map Nr.d) ((i : Int)).toNat).nxt.toNat) = S := ⟨_, rfl⟩
      rw [hS3] at CR3
      have HZ3 := Hid.mk' hz3
      have HS3 := Hid.mk' hS3
      have HCR3 := Hid.mk' CR3
      clear CR3 hz3 hS3
      go_upto_region 10 with fail
      go_wp2_with (first | refine wl_ld41 (B := b + 1) (o := 0) (.tmp 3) rfl rfl rfl hml (range_blk M9.out) ?_ | fail)
      refine HCR3.out.mono ?_
      rintro e w10 ⟨ao3, n3, k3, H3, va3, vn3, vc3, F3, rfl, g3, l3, hk3, d3, z3e, f3, fc3, e3, mw3, st3, hb3⟩
      have GG3 : Hid (Grz w10 ao3 H3) := g3
      have FF3 : Hid (Edz w10 va3 F3) := z3e
      have LL3 : Hid (H3.length = n3 ∧ n3 ≤ k3 ∧ H3.map Nr.d = S3.G ∧ F3.length = vn3 ∧ vn3 ≤ vc3 ∧ F3.map Er.d = S3.E ∧ Mw S3.m) := ⟨l3, hk3, d3, f3, fc3, e3, mw3⟩
      have ST3 := Hid.mk' st3
      have hl3 : S3.m.length = 27 := mw3.len
      obtain ⟨nw3, hnw3⟩ : ∃ x, S3.now = x := ⟨_, rfl⟩
      obtain ⟨cu3, hcu3⟩ : ∃ x, S3.cur = x := ⟨_, rfl⟩
      obtain ⟨mm3, hmm3⟩ : ∃ x, S3.m = x := ⟨_, rfl⟩
      rw [hnw3, hcu3, hmm3]
      rw [hmm3] at hl3
      have FN3 : Hid (S3.now = nw3 ∧ S3.cur = cu3 ∧ S3.m = mm3) := ⟨hnw3, hcu3, hmm3⟩
      clear g3 l3 hk3 d3 z3e f3 fc3 e3 mw3 st3 hnw3 hcu3 hmm3
      dsimp only
      have L10 := Hid.mk' (bT L9.out hb3)
      have K10 := Hid.mk' (K9.out.keep hb3)
      have M10 := Hid.mk' (M9.out.keep hb3)
      have B10 := Hid.mk' (B9.out.keep hb3)
      have C10 := Hid.mk' (C9.out.keep hb3)
      have QS : Hid (q5 < wz.heap.size ∧ q6 < wz.heap.size) := ⟨B9.out.lt, C9.out.b.lt⟩
      clear hb3 L9 K9 M9 B9 C9 a9 b9 HCR3
      have e0 : w10.cell? ⟨q5, 0, none⟩ = some (.slice ao1 n1 k1) := B10.out.cell rfl
      have e1 : w10.cell? ⟨q5, 1, none⟩ = some (.int .i64 nw1) := B10.out.cell rfl
      have f0 : w10.frozen? ⟨q5, 0, none⟩ = false := B10.out.frozen _
      have f1 : w10.frozen? ⟨q5, 1, none⟩ = false := B10.out.frozen _
      obtain ⟨X3, hX3⟩ : ∃ x, (w10.setCell ⟨q5, 0, none⟩ (.slice ao3 n3 k3)).setCell ⟨q5, 1, none⟩ (.int .i64 nw3) = x := ⟨_, rfl⟩
      have R24 : Hid (Blk X3 q5 24 #[.slice ao3 n3 k3, .int .i64 nw3]) := by unfold Hid; rw [← hX3]; exact set24 B10.out
      have R50 : Hid (Blk X3 q6 50 (cxa (.slice va1 vn1 vc1) cu1 mm1)) := by unfold Hid; rw [← hX3]; exact (C10.out.b.off Q56.out.symm _).off Q56.out.symm _
      have T50 := Hid.mk' ((Cb.of R50.out).t hl1)
      have KP : Hid (Kept 0 wz.heap.size w10 (X3.setCells q6 0 (cx (.slice va3 vn3 vc3) cu3 mm3))) := by
        unfold Hid
        rw [← hX3]
        have h1 := QS.out
        exact (((Kept.one (grown_set _ _ _ _)).wide (Nat.zero_le _) (by omega)).trans ((Kept.one (grown_set _ _ _ _)).wide (Nat.zero_le _) (by omega))).trans ((Kept.one (grown_setCells _ _ _)).wide (Nat.zero_le _) (by omega))
      have L11 : Hid (Below w.heap.size w (X3.setCells q6 0 (cx (.slice va3 vn3 vc3) cu3 mm3))) := by
        unfold Hid
        rw [← hX3]
        have h1 := QB.out
        exact below_setCells (by omega) _ _ ((L10.out.setCell (by show w.heap.size ≤ q5; omega) _).setCell (by show w.heap.size ≤ q5; omega) _)
      have K11 : Hid (Blk (X3.setCells q6 0 (cx (.slice va3 vn3 vc3) cu3 mm3)) b 24 #[.slice (some ⟨g, o, none⟩) n c, .int .i64 (i : Int)]) := by
        unfold Hid
        rw [← hX3]
        have h1 := QB.out
        exact blk_setCells_off (by omega) _ _ ((K10.out.off (by omega) _).off (by omega) _)
      have M11 : Hid (Blk (X3.setCells q6 0 (cx (.slice va3 vn3 vc3) cu3 mm3)) (b + 1) 41 (mk m)) := by
        unfold Hid
        rw [← hX3]
        have h1 := QB.out
        exact blk_setCells_off (by omega) _ _ ((M10.out.off (by omega) _).off (by omega) _)
      have B11 : Hid (Blk (X3.setCells q6 0 (cx (.slice va3 vn3 vc3) cu3 mm3)) q5 24 #[.slice ao3 n3 k3, .int .i64 nw3]) := blk_setCells_off Q56.out _ _ R24.out
      have C11 : Hid (Cb (X3.setCells q6 0 (cx (.slice va3 vn3 vc3) cu3 mm3)) q6 va3 vn3 vc3 cu3 mm3) := Cb.of (put_blk (old := cx (.slice va1 vn1 vc1) cu1 mm1) (by rw [cx_len hl1, cx_len hl3]) R50.out)
      go_upto_region 11 with (first | refine wl_st50 (B := q6) (o := 0) (.tmp 6) (.tmp 89) rfl rfl rfl rfl hl3 T50.out ?_ | fail)
      clear e0 e1 f0 f1 hX3 R24 R50 T50 L10 K10 M10 B10 C10
      generalize X3.setCells q6 0 (cx (.slice va3 vn3 vc3) cu3 mm3) = w11 at *
      have KG := Hid.mk' (ST3.out 0 wz.heap.size w11 KP.out (Nat.le_refl _))
      clear KP ST3 GG3 FF3
      by_cases hz3 : z3 = 0
      · subst hz3
        have hS3 := HS3.out
        rw [crW_yes] at hS3
        obtain ⟨kk, y1, y2, y3, y4, y5⟩ := bk2 HZ3.out HF.out hml HQ.out S3 hS3.symm
        obtain ⟨rfl⟩ : nw3 = (kk : Int) := FN3.out.1.symm.trans y1
        have HKN : Hid (kk < n) := by unfold Hid; rw [List.length_map, HN.out] at y2; exact y2
        have HR3 := Hid.mk' y3
        have HE3 := Hid.mk' y4
        have HN3 := Hid.mk' y5
        clear hS3 y1 y2 y3 y4 y5
        have c5 : w11.cell? ⟨q5, 0, none⟩ = some (.slice ao3 n3 k3) := B11.out.cell rfl
        have d5 : w11.cell? ⟨q5, 1, none⟩ = some (.int .i64 (kk : Int)) := B11.out.cell rfl
        have CR := undo_q ao3 n3 k3 (kk : Int) H3 mm3 w11 KG.out.1 LL3.out.1 LL3.out.2.1 (by rw [← FN3.out.2.2]; exact LL3.out.2.2.2.2.2.2)
        rw [LL3.out.2.2.1, ← FN3.out.1, ← FN3.out.2.2, HE3.out, crW_yes, FN3.out.1, FN3.out.2.2] at CR
        obtain ⟨S4, hS4⟩ : ∃ S, (Wk.new S3.G (kk : Int) mm3).up ((kk : Int)).toNat = S := ⟨_, rfl⟩
        rw [hS4] at CR
        obtain ⟨j1, j2, j3, j4, j5⟩ := HN3.out S4 (by rw [← hS4, FN3.out.1, FN3.out.2.2])
        have J4 : Hid (S4.m = m ∧ S4.cur = (at' (G.map Nr.d) kk).cur ∧ S4.now = (i : Int) ∧ Right S4.G S4.now ∧ Alk S4.G (G.map Nr.d) kk) := ⟨j1, j2, j3, j4, j5⟩
        have HCR := Hid.mk' CR
        clear CR hS4 j1 j2 j3 j4 j5 HN3
        go_upto_region 13 with fail
        go_wp2_with (first | refine wl_ld41 (B := q6) (o := 2) (.tmp 101) rfl rfl rfl hl3 C11.out.mr ?_ | fail)
        refine HCR.out.mono ?_
        rintro e w12 ⟨ao4, n4, k4, H4, va4, vn4, vc4, F4, rfl, g4, l4, hk4, d4, z4e, f4, fc4, e4, mw4, st4, hb4⟩
        have GG4 : Hid (Grz w12 ao4 H4) := g4
        have FF4 : Hid (Edz w12 va4 F4) := z4e
        have LL4 : Hid (H4.length = n4 ∧ n4 ≤ k4 ∧ H4.map Nr.d = S4.G ∧ F4.length = vn4 ∧ vn4 ≤ vc4 ∧ F4.map Er.d = S4.E ∧ Mw S4.m) := ⟨l4, hk4, d4, f4, fc4, e4, mw4⟩
        have ST4 := Hid.mk' st4
        have hl4 : S4.m.length = 27 := mw4.len
        obtain ⟨nw4, hnw4⟩ : ∃ x, S4.now = x := ⟨_, rfl⟩
        obtain ⟨cu4, hcu4⟩ : ∃ x, S4.cur = x := ⟨_, rfl⟩
        obtain ⟨mm4, hmm4⟩ : ∃ x, S4.m = x := ⟨_, rfl⟩
        rw [hnw4, hcu4, hmm4]
        rw [hmm4] at hl4
        have FN4 : Hid (S4.now = nw4 ∧ S4.cur = cu4 ∧ S4.m = mm4) := ⟨hnw4, hcu4, hmm4⟩
        clear g4 l4 hk4 d4 z4e f4 fc4 e4 mw4 st4 hnw4 hcu4 hmm4
        dsimp only
        have L12 := Hid.mk' (bT L11.out hb4)
        have K12 := Hid.mk' (K11.out.keep hb4)
        have M12 := Hid.mk' (M11.out.keep hb4)
        have B12 := Hid.mk' (B11.out.keep hb4)
        have G12 := Hid.mk' (KG.out.1.keep hb4)
        clear hb4 L11 K11 M11 B11 C11 KG c5 d5 HCR
        obtain ⟨X1, hX1⟩ : ∃ x, w12.alloc (.cells #[.slice none 0 0, .int .i64 0] 24) = x := ⟨_, rfl⟩
        obtain ⟨q11, hq11⟩ : ∃ x, w12.heap.size = x := ⟨_, rfl⟩
        obtain ⟨X2, hX2⟩ : ∃ x, X1.alloc (.cells (cxa (.slice none 0 0) 0 Z) 50) = x := ⟨_, rfl⟩
        obtain ⟨q12, hq12⟩ : ∃ x, X1.heap.size = x := ⟨_, rfl⟩
        obtain ⟨y1, y2, y3, y4, y5, y6, y7, y8⟩ := two_boxes (ao := ao4) (va := va4) (n := n4) (k := k4) (vn := vn4) (vc := vc4) (now := nw4) (cu := cu4) (m := mm4) hZ hl4 hX1 hX2 hq11 hq12
        have T50 := Hid.mk' y4
        have Y5 := Hid.mk' y5
        have Y6 := Hid.mk' y6
        have Y7 : Hid (q11 ≠ q12) := y7
        have Y8 := Hid.mk' y8
        have hz50 := HZ50.out
        clear y4 y5 y6 y7 y8
        go_upto_region 14 with (first | refine wl_st50 (B := q12) (o := 0) (.tmp 12) (.tmp 105) rfl rfl rfl rfl hl4 T50.out ?_ | fail)
        clear y1 y2 y3 hX1 hX2 hq11 hq12 hz50 T50
        generalize ((X2.setCell ⟨q11, 0, none⟩ (.slice ao4 n4 k4)).setCell ⟨q11, 1, none⟩ (.int .i64 nw4)).setCells q12 0 (cx (.slice va4 vn4 vc4) cu4 mm4) = w13 at *
        have L13 := Hid.mk' (bT L12.out Y8.out)
        have K13 := Hid.mk' (K12.out.keep Y8.out)
        have M13 := Hid.mk' (M12.out.keep Y8.out)
        have B13 := Hid.mk' (B12.out.keep Y8.out)
        have G13 := Hid.mk' (G12.out.keep Y8.out)
        have H13 := Hid.mk' (GG4.out.keep Y8.out)
        have B14 := Hid.mk' Y5.out
        have C14 := Hid.mk' (Cb.of Y6.out)
        clear Y5 Y6 Y7 Y8 GG4 FF4 L12 K12 M12 B12 G12
        obtain ⟨rfl⟩ : mm4 = m := FN4.out.2.2.symm.trans J4.out.1
        obtain ⟨rfl⟩ : nw4 = (i : Int) := FN4.out.1.symm.trans J4.out.2.2.1
        obtain ⟨rfl⟩ : n4 = n := by
          have h1 := J4.out.2.2.2.2.len
          rw [← LL4.out.2.2.1, List.length_map, List.length_map, LL4.out.1, HN.out] at h1
          exact h1
        obtain ⟨r3, hr3⟩ : ∃ r, G[kk]? = some r := ⟨_, List.getElem?_eq_getElem (by rw [HN.out]; exact HKN.out)⟩
        obtain ⟨g2, o2, hao, hnc⟩ := HG.out.at hr3
        obtain ⟨g2e, o2e⟩ : g2 = g ∧ o2 = o := by simp at hao; exact ⟨hao.1.symm, hao.2.symm⟩
        rw [g2e, o2e] at hnc
        clear g2e o2e hao
        have er : at' (G.map Nr.d) kk = r3.d := map_at hr3
        obtain ⟨rc, hrc⟩ : ∃ x, r3.cur = x := ⟨_, rfl⟩
        have HC2 : Hid (w13.cell? ⟨g, o + kk * 58 + 3, none⟩ = some (.int .i64 rc)) := by unfold Hid; rw [← hrc]; exact cell_keep hnc.c3 L13.out
        obtain ⟨rfl⟩ : cu4 = rc := by
          rw [← FN4.out.2.1, J4.out.2.1, er, ← hrc]; rfl
        have hi0 : (0 : Int) ≤ (kk : Int) := by omega
        have hi1 : (kk : Int) < (n : Int) := by have := HKN.out; omega
        clear hr3 hnc er hrc
        have D0 : Hid (Below w13.heap.size w13 w13.drew) := (Below.refl _ _).drew
        have DV : Hid (Below w13.drew.heap.size w13.drew w13.drew) := Below.refl _ _
        have K8 := Hid.mk' (K13.out.keep D0.out)
        have M8 := Hid.mk' (M13.out.keep D0.out)
        have b8 := Hid.mk' (B13.out.keep D0.out)
        have y8 := Hid.mk' (B14.out.keep D0.out)
        have z8 := Hid.mk' (C14.out.keep D0.out)
        have HC3 := Hid.mk' (cell_keep HC2.out D0.out)
        refine wp_region_held (S := fun w' => Below w13.drew.heap.size w13.drew w') (by kernel_rfl) ?_
        change wpAnyH _ _ _ _ _ _ _ _ (World.drew _)
        generalize w13.drew = V3 at *
        refine wpAnyH_take (i := 0) (v := .int .i64 0) rfl (by kernel_rfl) (by kernel_rfl) (by kernel_rfl) (fun _ _ _ h => h) (Yields.yieldsIf (Or.inl ⟨by rfl, fun w => by go_simp⟩)) DV.out ?_
        try simp only [Act.put, List.getElem_toArray, List.getElem_cons_zero, List.getElem_cons_succ, List.setIfInBounds_toArray, List.set_cons_zero, List.set_cons_succ]
        refine wpAnyH_take (i := 1) (v := .bool true) rfl (by kernel_rfl) (by kernel_rfl) (by kernel_rfl) (fun _ _ _ h => h) (Yields.yieldsIf (Or.inl ⟨by rfl, fun w => by go_simp⟩)) DV.out ?_
        try simp only [Act.put, List.getElem_toArray, List.getElem_cons_zero, List.getElem_cons_succ, List.setIfInBounds_toArray, List.set_cons_zero, List.set_cons_succ]
        refine wpAnyH_take (i := 2) (v := .bool true) rfl (by kernel_rfl) (by kernel_rfl) (by kernel_rfl) (fun _ _ _ h => h) (Yields.yieldsIf (Or.inl ⟨by rfl, fun w => by go_simp⟩)) DV.out ?_
        try simp only [Act.put, List.getElem_toArray, List.getElem_cons_zero, List.getElem_cons_succ, List.setIfInBounds_toArray, List.set_cons_zero, List.set_cons_succ]
        refine wpAnyH_take (i := 3) (v := .pointer (some ⟨q12, 2, none⟩)) rfl (by kernel_rfl) (by kernel_rfl) (by kernel_rfl) (fun _ _ _ h => h) (Yields.yieldsIf (Or.inl ⟨by rfl, fun w => by go_simp⟩)) DV.out ?_
        try simp only [Act.put, List.getElem_toArray, List.getElem_cons_zero, List.getElem_cons_succ, List.setIfInBounds_toArray, List.set_cons_zero, List.set_cons_succ]
        refine wpAnyH_take (i := 4) (v := .agg (mk m)) rfl (by kernel_rfl) (by kernel_rfl) (by kernel_rfl) (fun _ _ _ h => h) (yi_ld ty41 rfl (.tmp 110) rfl rfl (ml m) (by rw [ml_len, hml]) (fun _ h => (z8.out.keep h).mr)) DV.out ?_
        try simp only [Act.put, List.getElem_toArray, List.getElem_cons_zero, List.getElem_cons_succ, List.setIfInBounds_toArray, List.set_cons_zero, List.set_cons_succ]
        refine wpAnyH_take (i := 5) (v := .agg (mk m)) rfl (by kernel_rfl) (by kernel_rfl) (by kernel_rfl) (fun _ _ _ h => h) (yi_ld ty41 rfl (.tmp 3) rfl rfl (ml m) (by rw [ml_len, hml]) (fun _ h => range_blk (M8.out.keep h))) DV.out ?_
        try simp only [Act.put, List.getElem_toArray, List.getElem_cons_zero, List.getElem_cons_succ, List.setIfInBounds_toArray, List.set_cons_zero, List.set_cons_succ]
        refine wpAnyH_take (i := 6) (v := .bool true) rfl (by kernel_rfl) (by kernel_rfl) (by kernel_rfl) (fun _ _ _ h => h) (yi_bin rfl .eql 41 41 (.tmp 111) (.tmp 112) rfl rfl rfl Try.eqGuardType41 (fun w => by rw [eql41 w m m hml hml]; simp)) DV.out ?_
        try simp only [Act.put, List.getElem_toArray, List.getElem_cons_zero, List.getElem_cons_succ, List.setIfInBounds_toArray, List.set_cons_zero, List.set_cons_succ]
        refine wpAnyH_take (i := 7) (v := .bool true) rfl (by kernel_rfl) (by kernel_rfl) (by kernel_rfl) (fun _ _ _ h => h) (Yields.yieldsIf (Or.inl ⟨by rfl, fun w => by go_simp⟩)) DV.out ?_
        try simp only [Act.put, List.getElem_toArray, List.getElem_cons_zero, List.getElem_cons_succ, List.setIfInBounds_toArray, List.set_cons_zero, List.set_cons_succ]
        refine wpAnyH_take (i := 8) (v := .bool true) rfl (by kernel_rfl) (by kernel_rfl) (by kernel_rfl) (fun _ _ _ h => h) (Yields.yieldsIf (Or.inl ⟨by rfl, fun w => by go_simp⟩)) DV.out ?_
        try simp only [Act.put, List.getElem_toArray, List.getElem_cons_zero, List.getElem_cons_succ, List.setIfInBounds_toArray, List.set_cons_zero, List.set_cons_succ]
        refine wpAnyH_take (i := 9) (v := .agg #[.slice ao4 n k4, .int .i64 (i : Int)]) rfl (by kernel_rfl) (by kernel_rfl) (by kernel_rfl) (fun _ _ _ h => h) (Or.inl ⟨by rfl, fun w9 h9 => by have h1 : w9.cell? ⟨b, 0, none⟩ = some (.slice (some ⟨g, o, none⟩) n c) := (K8.out.keep h9).cell rfl; have h2 : w9.cell? ⟨b, 1, none⟩ = some (.int .i64 (i : Int)) := (K8.out.keep h9).cell rfl; have h3 : w9.cell? ⟨q5, 0, none⟩ = some (.slice ao3 n3 k3) := (b8.out.keep h9).cell rfl; have h4 : w9.cell? ⟨q5, 1, none⟩ = some (.int .i64 (kk : Int)) := (b8.out.keep h9).cell rfl; have h5 : w9.cell? ⟨q11, 0, none⟩ = some (.slice ao4 n k4) := (y8.out.keep h9).cell rfl; have h6 : w9.cell? ⟨q11, 1, none⟩ = some (.int .i64 (i : Int)) := (y8.out.keep h9).cell rfl; have h7 := (z8.out.keep h9).c1; have h10 := cell_keep HC3.out h9; go_simp⟩) DV.out ?_
        try simp only [Act.put, List.getElem_toArray, List.getElem_cons_zero, List.getElem_cons_succ, List.setIfInBounds_toArray, List.set_cons_zero, List.set_cons_succ]
        refine wpAnyH_take (i := 10) (v := .agg #[.slice (some ⟨g, o, none⟩) n c, .int .i64 (i : Int)]) rfl (by kernel_rfl) (by kernel_rfl) (by kernel_rfl) (fun _ _ _ h => h) (Or.inl ⟨by rfl, fun w9 h9 => by have h1 : w9.cell? ⟨b, 0, none⟩ = some (.slice (some ⟨g, o, none⟩) n c) := (K8.out.keep h9).cell rfl; have h2 : w9.cell? ⟨b, 1, none⟩ = some (.int .i64 (i : Int)) := (K8.out.keep h9).cell rfl; have h3 : w9.cell? ⟨q5, 0, none⟩ = some (.slice ao3 n3 k3) := (b8.out.keep h9).cell rfl; have h4 : w9.cell? ⟨q5, 1, none⟩ = some (.int .i64 (kk : Int)) := (b8.out.keep h9).cell rfl; have h5 : w9.cell? ⟨q11, 0, none⟩ = some (.slice ao4 n k4) := (y8.out.keep h9).cell rfl; have h6 : w9.cell? ⟨q11, 1, none⟩ = some (.int .i64 (i : Int)) := (y8.out.keep h9).cell rfl; have h7 := (z8.out.keep h9).c1; have h10 := cell_keep HC3.out h9; go_simp⟩) DV.out ?_
        try simp only [Act.put, List.getElem_toArray, List.getElem_cons_zero, List.getElem_cons_succ, List.setIfInBounds_toArray, List.set_cons_zero, List.set_cons_succ]
        refine wpAnyH_take (i := 11) (v := .pointer (some ⟨q5, 1, none⟩)) rfl (by kernel_rfl) (by kernel_rfl) (by kernel_rfl) (fun _ _ _ h => h) (Yields.yieldsIf (Or.inl ⟨by rfl, fun w => by go_simp⟩)) DV.out ?_
        try simp only [Act.put, List.getElem_toArray, List.getElem_cons_zero, List.getElem_cons_succ, List.setIfInBounds_toArray, List.set_cons_zero, List.set_cons_succ]
        refine wpAnyH_take (i := 12) (v := .int .i64 (kk : Int)) rfl (by kernel_rfl) (by kernel_rfl) (by kernel_rfl) (fun _ _ _ h => h) (Or.inl ⟨by rfl, fun w9 h9 => by have h1 : w9.cell? ⟨b, 0, none⟩ = some (.slice (some ⟨g, o, none⟩) n c) := (K8.out.keep h9).cell rfl; have h2 : w9.cell? ⟨b, 1, none⟩ = some (.int .i64 (i : Int)) := (K8.out.keep h9).cell rfl; have h3 : w9.cell? ⟨q5, 0, none⟩ = some (.slice ao3 n3 k3) := (b8.out.keep h9).cell rfl; have h4 : w9.cell? ⟨q5, 1, none⟩ = some (.int .i64 (kk : Int)) := (b8.out.keep h9).cell rfl; have h5 : w9.cell? ⟨q11, 0, none⟩ = some (.slice ao4 n k4) := (y8.out.keep h9).cell rfl; have h6 : w9.cell? ⟨q11, 1, none⟩ = some (.int .i64 (i : Int)) := (y8.out.keep h9).cell rfl; have h7 := (z8.out.keep h9).c1; have h10 := cell_keep HC3.out h9; go_simp⟩) DV.out ?_
        try simp only [Act.put, List.getElem_toArray, List.getElem_cons_zero, List.getElem_cons_succ, List.setIfInBounds_toArray, List.set_cons_zero, List.set_cons_succ]
        refine wpAnyH_all (rs := [13]) (by kernel_rfl) (by simp) (AllH.cons rfl (fun K hK => ?_) AllH.nil)
        go_simp
        refine (alike_yes ao4 n k4 (i : Int) H4 (some ⟨g, o, none⟩) c G kk V3 (H13.out.keep D0.out) (HG.out.keep (bT L13.out D0.out)) LL4.out.1 HN.out (by have := J4.out.2.2.2.2; rw [← LL4.out.2.2.1] at this; exact this) (by have := HN9.out; omega)).mono ?_
        rintro e u1 ⟨rfl, hbb⟩
        have R1 : Hid (Below w13.heap.size w13 u1) := bT D0.out hbb
        have S1 : Hid (Below V3.heap.size V3 u1) := bT (DV.out) hbb
        clear hbb
        dsimp only
        refine hK _ _ ⟨S1.out, ?_⟩
        clear hK K
        try simp only [Act.put, List.getElem_toArray, List.getElem_cons_zero, List.getElem_cons_succ, List.setIfInBounds_toArray, List.set_cons_zero, List.set_cons_succ]
        refine wpAnyH_take (i := 14) (v := .bool true) rfl (by kernel_rfl) (by kernel_rfl) (by kernel_rfl) (fun _ _ _ h => h) (Yields.yieldsIf (Or.inl ⟨by rfl, fun w => by go_simp⟩)) S1.out ?_
        try simp only [Act.put, List.getElem_toArray, List.getElem_cons_zero, List.getElem_cons_succ, List.setIfInBounds_toArray, List.set_cons_zero, List.set_cons_succ]
        refine wpAnyH_take (i := 15) (v := .bool true) rfl (by kernel_rfl) (by kernel_rfl) (by kernel_rfl) (fun _ _ _ h => h) (Yields.yieldsIf (Or.inl ⟨by rfl, fun w => by go_simp⟩)) S1.out ?_
        try simp only [Act.put, List.getElem_toArray, List.getElem_cons_zero, List.getElem_cons_succ, List.setIfInBounds_toArray, List.set_cons_zero, List.set_cons_succ]
        refine wpAnyH_take (i := 16) (v := .agg #[.slice ao3 n3 k3, .int .i64 (kk : Int)]) rfl (by kernel_rfl) (by kernel_rfl) (by kernel_rfl) (fun _ _ _ h => h) (Or.inl ⟨by rfl, fun w9 h9 => by have h1 : w9.cell? ⟨b, 0, none⟩ = some (.slice (some ⟨g, o, none⟩) n c) := (K8.out.keep h9).cell rfl; have h2 : w9.cell? ⟨b, 1, none⟩ = some (.int .i64 (i : Int)) := (K8.out.keep h9).cell rfl; have h3 : w9.cell? ⟨q5, 0, none⟩ = some (.slice ao3 n3 k3) := (b8.out.keep h9).cell rfl; have h4 : w9.cell? ⟨q5, 1, none⟩ = some (.int .i64 (kk : Int)) := (b8.out.keep h9).cell rfl; have h5 : w9.cell? ⟨q11, 0, none⟩ = some (.slice ao4 n k4) := (y8.out.keep h9).cell rfl; have h6 : w9.cell? ⟨q11, 1, none⟩ = some (.int .i64 (i : Int)) := (y8.out.keep h9).cell rfl; have h7 := (z8.out.keep h9).c1; have h10 := cell_keep HC3.out h9; go_simp⟩) S1.out ?_
        try simp only [Act.put, List.getElem_toArray, List.getElem_cons_zero, List.getElem_cons_succ, List.setIfInBounds_toArray, List.set_cons_zero, List.set_cons_succ]
        refine wpAnyH_all (rs := [17]) (by kernel_rfl) (by simp) (AllH.cons rfl (fun K hK => ?_) AllH.nil)
        go_simp
        refine (chk0 ao3 n3 k3 (kk : Int) H3 u1 (G13.out.keep R1.out) LL3.out.1 LL3.out.2.1 (by rw [LL3.out.2.2.1, ← FN3.out.1]; exact HR3.out)).mono ?_
        rintro e u2 ⟨rfl, hbb⟩
        have R2 : Hid (Below w13.heap.size w13 u2) := bT R1.out hbb
        have S2 : Hid (Below V3.heap.size V3 u2) := bT (S1.out) hbb
        clear hbb
        dsimp only
        refine hK _ _ ⟨S2.out, ?_⟩
        clear hK K
        try simp only [Act.put, List.getElem_toArray, List.getElem_cons_zero, List.getElem_cons_succ, List.setIfInBounds_toArray, List.set_cons_zero, List.set_cons_succ]
        refine wpAnyH_take (i := 18) (v := .bool true) rfl (by kernel_rfl) (by kernel_rfl) (by kernel_rfl) (fun _ _ _ h => h) (Yields.yieldsIf (Or.inl ⟨by rfl, fun w => by go_simp⟩)) S2.out ?_
        try simp only [Act.put, List.getElem_toArray, List.getElem_cons_zero, List.getElem_cons_succ, List.setIfInBounds_toArray, List.set_cons_zero, List.set_cons_succ]
        refine wpAnyH_take (i := 19) (v := .bool true) rfl (by kernel_rfl) (by kernel_rfl) (by kernel_rfl) (fun _ _ _ h => h) (Yields.yieldsIf (Or.inl ⟨by rfl, fun w => by go_simp⟩)) S2.out ?_
        try simp only [Act.put, List.getElem_toArray, List.getElem_cons_zero, List.getElem_cons_succ, List.setIfInBounds_toArray, List.set_cons_zero, List.set_cons_succ]
        refine wpAnyH_take (i := 20) (v := .bool true) rfl (by kernel_rfl) (by kernel_rfl) (by kernel_rfl) (fun _ _ _ h => h) (Yields.yieldsIf (Or.inl ⟨by rfl, fun w => by go_simp⟩)) S2.out ?_
        try simp only [Act.put, List.getElem_toArray, List.getElem_cons_zero, List.getElem_cons_succ, List.setIfInBounds_toArray, List.set_cons_zero, List.set_cons_succ]
        refine wpAnyH_take (i := 21) (v := .agg #[.slice ao4 n k4, .int .i64 (i : Int)]) rfl (by kernel_rfl) (by kernel_rfl) (by kernel_rfl) (fun _ _ _ h => h) (Or.inl ⟨by rfl, fun w9 h9 => by have h1 : w9.cell? ⟨b, 0, none⟩ = some (.slice (some ⟨g, o, none⟩) n c) := (K8.out.keep h9).cell rfl; have h2 : w9.cell? ⟨b, 1, none⟩ = some (.int .i64 (i : Int)) := (K8.out.keep h9).cell rfl; have h3 : w9.cell? ⟨q5, 0, none⟩ = some (.slice ao3 n3 k3) := (b8.out.keep h9).cell rfl; have h4 : w9.cell? ⟨q5, 1, none⟩ = some (.int .i64 (kk : Int)) := (b8.out.keep h9).cell rfl; have h5 : w9.cell? ⟨q11, 0, none⟩ = some (.slice ao4 n k4) := (y8.out.keep h9).cell rfl; have h6 : w9.cell? ⟨q11, 1, none⟩ = some (.int .i64 (i : Int)) := (y8.out.keep h9).cell rfl; have h7 := (z8.out.keep h9).c1; have h10 := cell_keep HC3.out h9; go_simp⟩) S2.out ?_
        try simp only [Act.put, List.getElem_toArray, List.getElem_cons_zero, List.getElem_cons_succ, List.setIfInBounds_toArray, List.set_cons_zero, List.set_cons_succ]
        refine wpAnyH_all (rs := [22]) (by kernel_rfl) (by simp) (AllH.cons rfl (fun K hK => ?_) AllH.nil)
        go_simp
        refine (chk0 ao4 n k4 (i : Int) H4 u2 (H13.out.keep R2.out) LL4.out.1 LL4.out.2.1 (by rw [LL4.out.2.2.1, ← FN4.out.1]; exact J4.out.2.2.2.1)).mono ?_
        rintro e u3 ⟨rfl, hbb⟩
        have R3 : Hid (Below w13.heap.size w13 u3) := bT R2.out hbb
        have S3 : Hid (Below V3.heap.size V3 u3) := bT (S2.out) hbb
        clear hbb
        dsimp only
        refine hK _ _ ⟨S3.out, ?_⟩
        clear hK K
        try simp only [Act.put, List.getElem_toArray, List.getElem_cons_zero, List.getElem_cons_succ, List.setIfInBounds_toArray, List.set_cons_zero, List.set_cons_succ]
        refine wpAnyH_take (i := 23) (v := .bool true) rfl (by kernel_rfl) (by kernel_rfl) (by kernel_rfl) (fun _ _ _ h => h) (Yields.yieldsIf (Or.inl ⟨by rfl, fun w => by go_simp⟩)) S3.out ?_
        try simp only [Act.put, List.getElem_toArray, List.getElem_cons_zero, List.getElem_cons_succ, List.setIfInBounds_toArray, List.set_cons_zero, List.set_cons_succ]
        refine wpAnyH_take (i := 24) (v := .bool true) rfl (by kernel_rfl) (by kernel_rfl) (by kernel_rfl) (fun _ _ _ h => h) (Yields.yieldsIf (Or.inl ⟨by rfl, fun w => by go_simp⟩)) S3.out ?_
        try simp only [Act.put, List.getElem_toArray, List.getElem_cons_zero, List.getElem_cons_succ, List.setIfInBounds_toArray, List.set_cons_zero, List.set_cons_succ]
        refine wpAnyH_take (i := 25) (v := .bool true) rfl (by kernel_rfl) (by kernel_rfl) (by kernel_rfl) (fun _ _ _ h => h) (Yields.yieldsIf (Or.inl ⟨by rfl, fun w => by go_simp⟩)) S3.out ?_
        try simp only [Act.put, List.getElem_toArray, List.getElem_cons_zero, List.getElem_cons_succ, List.setIfInBounds_toArray, List.set_cons_zero, List.set_cons_succ]
        refine wpAnyH_take (i := 26) (v := .pointer (some ⟨q12, 1, none⟩)) rfl (by kernel_rfl) (by kernel_rfl) (by kernel_rfl) (fun _ _ _ h => h) (Yields.yieldsIf (Or.inl ⟨by rfl, fun w => by go_simp⟩)) S3.out ?_
        try simp only [Act.put, List.getElem_toArray, List.getElem_cons_zero, List.getElem_cons_succ, List.setIfInBounds_toArray, List.set_cons_zero, List.set_cons_succ]
        refine wpAnyH_take (i := 27) (v := .int .i64 cu4) rfl (by kernel_rfl) (by kernel_rfl) (by kernel_rfl) (fun _ _ _ h => h) (Or.inl ⟨by rfl, fun w9 h9 => by have h1 : w9.cell? ⟨b, 0, none⟩ = some (.slice (some ⟨g, o, none⟩) n c) := (K8.out.keep h9).cell rfl; have h2 : w9.cell? ⟨b, 1, none⟩ = some (.int .i64 (i : Int)) := (K8.out.keep h9).cell rfl; have h3 : w9.cell? ⟨q5, 0, none⟩ = some (.slice ao3 n3 k3) := (b8.out.keep h9).cell rfl; have h4 : w9.cell? ⟨q5, 1, none⟩ = some (.int .i64 (kk : Int)) := (b8.out.keep h9).cell rfl; have h5 : w9.cell? ⟨q11, 0, none⟩ = some (.slice ao4 n k4) := (y8.out.keep h9).cell rfl; have h6 : w9.cell? ⟨q11, 1, none⟩ = some (.int .i64 (i : Int)) := (y8.out.keep h9).cell rfl; have h7 := (z8.out.keep h9).c1; have h10 := cell_keep HC3.out h9; go_simp⟩) S3.out ?_
        try simp only [Act.put, List.getElem_toArray, List.getElem_cons_zero, List.getElem_cons_succ, List.setIfInBounds_toArray, List.set_cons_zero, List.set_cons_succ]
        refine wpAnyH_take (i := 28) (v := .pointer (some ⟨b, 0, none⟩)) rfl (by kernel_rfl) (by kernel_rfl) (by kernel_rfl) (fun _ _ _ h => h) (Yields.yieldsIf (Or.inl ⟨by rfl, fun w => by go_simp⟩)) S3.out ?_
        try simp only [Act.put, List.getElem_toArray, List.getElem_cons_zero, List.getElem_cons_succ, List.setIfInBounds_toArray, List.set_cons_zero, List.set_cons_succ]
        refine wpAnyH_take (i := 29) (v := .slice (some ⟨g, o, none⟩) n c) rfl (by kernel_rfl) (by kernel_rfl) (by kernel_rfl) (fun _ _ _ h => h) (Or.inl ⟨by rfl, fun w9 h9 => by have h1 : w9.cell? ⟨b, 0, none⟩ = some (.slice (some ⟨g, o, none⟩) n c) := (K8.out.keep h9).cell rfl; have h2 : w9.cell? ⟨b, 1, none⟩ = some (.int .i64 (i : Int)) := (K8.out.keep h9).cell rfl; have h3 : w9.cell? ⟨q5, 0, none⟩ = some (.slice ao3 n3 k3) := (b8.out.keep h9).cell rfl; have h4 : w9.cell? ⟨q5, 1, none⟩ = some (.int .i64 (kk : Int)) := (b8.out.keep h9).cell rfl; have h5 : w9.cell? ⟨q11, 0, none⟩ = some (.slice ao4 n k4) := (y8.out.keep h9).cell rfl; have h6 : w9.cell? ⟨q11, 1, none⟩ = some (.int .i64 (i : Int)) := (y8.out.keep h9).cell rfl; have h7 := (z8.out.keep h9).c1; have h10 := cell_keep HC3.out h9; go_simp⟩) S3.out ?_
        try simp only [Act.put, List.getElem_toArray, List.getElem_cons_zero, List.getElem_cons_succ, List.setIfInBounds_toArray, List.set_cons_zero, List.set_cons_succ]
        refine wpAnyH_take (i := 30) (v := .pointer (some ⟨q5, 1, none⟩)) rfl (by kernel_rfl) (by kernel_rfl) (by kernel_rfl) (fun _ _ _ h => h) (Yields.yieldsIf (Or.inl ⟨by rfl, fun w => by go_simp⟩)) S3.out ?_
        try simp only [Act.put, List.getElem_toArray, List.getElem_cons_zero, List.getElem_cons_succ, List.setIfInBounds_toArray, List.set_cons_zero, List.set_cons_succ]
        refine wpAnyH_take (i := 31) (v := .int .i64 (kk : Int)) rfl (by kernel_rfl) (by kernel_rfl) (by kernel_rfl) (fun _ _ _ h => h) (Or.inl ⟨by rfl, fun w9 h9 => by have h1 : w9.cell? ⟨b, 0, none⟩ = some (.slice (some ⟨g, o, none⟩) n c) := (K8.out.keep h9).cell rfl; have h2 : w9.cell? ⟨b, 1, none⟩ = some (.int .i64 (i : Int)) := (K8.out.keep h9).cell rfl; have h3 : w9.cell? ⟨q5, 0, none⟩ = some (.slice ao3 n3 k3) := (b8.out.keep h9).cell rfl; have h4 : w9.cell? ⟨q5, 1, none⟩ = some (.int .i64 (kk : Int)) := (b8.out.keep h9).cell rfl; have h5 : w9.cell? ⟨q11, 0, none⟩ = some (.slice ao4 n k4) := (y8.out.keep h9).cell rfl; have h6 : w9.cell? ⟨q11, 1, none⟩ = some (.int .i64 (i : Int)) := (y8.out.keep h9).cell rfl; have h7 := (z8.out.keep h9).c1; have h10 := cell_keep HC3.out h9; go_simp⟩) S3.out ?_
        try simp only [Act.put, List.getElem_toArray, List.getElem_cons_zero, List.getElem_cons_succ, List.setIfInBounds_toArray, List.set_cons_zero, List.set_cons_succ]
        refine wpAnyH_take (i := 32) (v := .pointer (some ⟨g, o + kk * 58, none⟩)) rfl (by kernel_rfl) (by kernel_rfl) (by kernel_rfl) (fun _ _ _ h => h) (Yields.yieldsIf (Or.inl ⟨by rfl, fun w => by go_simp⟩)) S3.out ?_
        try simp only [Act.put, List.getElem_toArray, List.getElem_cons_zero, List.getElem_cons_succ, List.setIfInBounds_toArray, List.set_cons_zero, List.set_cons_succ]
        refine wpAnyH_take (i := 33) (v := .pointer (some ⟨g, o + kk * 58 + 3, none⟩)) rfl (by kernel_rfl) (by kernel_rfl) (by kernel_rfl) (fun _ _ _ h => h) (Yields.yieldsIf (Or.inl ⟨by rfl, fun w => by go_simp⟩)) S3.out ?_
        try simp only [Act.put, List.getElem_toArray, List.getElem_cons_zero, List.getElem_cons_succ, List.setIfInBounds_toArray, List.set_cons_zero, List.set_cons_succ]
        refine wpAnyH_take (i := 34) (v := .int .i64 cu4) rfl (by kernel_rfl) (by kernel_rfl) (by kernel_rfl) (fun _ _ _ h => h) (Or.inl ⟨by rfl, fun w9 h9 => by have h1 : w9.cell? ⟨b, 0, none⟩ = some (.slice (some ⟨g, o, none⟩) n c) := (K8.out.keep h9).cell rfl; have h2 : w9.cell? ⟨b, 1, none⟩ = some (.int .i64 (i : Int)) := (K8.out.keep h9).cell rfl; have h3 : w9.cell? ⟨q5, 0, none⟩ = some (.slice ao3 n3 k3) := (b8.out.keep h9).cell rfl; have h4 : w9.cell? ⟨q5, 1, none⟩ = some (.int .i64 (kk : Int)) := (b8.out.keep h9).cell rfl; have h5 : w9.cell? ⟨q11, 0, none⟩ = some (.slice ao4 n k4) := (y8.out.keep h9).cell rfl; have h6 : w9.cell? ⟨q11, 1, none⟩ = some (.int .i64 (i : Int)) := (y8.out.keep h9).cell rfl; have h7 := (z8.out.keep h9).c1; have h10 := cell_keep HC3.out h9; go_simp⟩) S3.out ?_
        try simp only [Act.put, List.getElem_toArray, List.getElem_cons_zero, List.getElem_cons_succ, List.setIfInBounds_toArray, List.set_cons_zero, List.set_cons_succ]
        refine wpAnyH_take (i := 35) (v := .bool true) rfl (by kernel_rfl) (by kernel_rfl) (by kernel_rfl) (fun _ _ _ h => h) (Yields.yieldsIf (Or.inl ⟨by rfl, fun w => by go_simp⟩)) S3.out ?_
        try simp only [Act.put, List.getElem_toArray, List.getElem_cons_zero, List.getElem_cons_succ, List.setIfInBounds_toArray, List.set_cons_zero, List.set_cons_succ]
        refine wpAnyH_take (i := 36) (v := .bool true) rfl (by kernel_rfl) (by kernel_rfl) (by kernel_rfl) (fun _ _ _ h => h) (Yields.yieldsIf (Or.inl ⟨by rfl, fun w => by go_simp⟩)) S3.out ?_
        try simp only [Act.put, List.getElem_toArray, List.getElem_cons_zero, List.getElem_cons_succ, List.setIfInBounds_toArray, List.set_cons_zero, List.set_cons_succ]
        refine wpAnyH_take (i := 37) (v := .bool true) rfl (by kernel_rfl) (by kernel_rfl) (by kernel_rfl) (fun _ _ _ h => h) (Yields.yieldsIf (Or.inl ⟨by rfl, fun w => by go_simp⟩)) S3.out ?_
        try simp only [Act.put, List.getElem_toArray, List.getElem_cons_zero, List.getElem_cons_succ, List.setIfInBounds_toArray, List.set_cons_zero, List.set_cons_succ]
        refine wpAnyH_done (by kernel_rfl) ?_ _
        go_wp2
        go_ret
        exact ⟨rfl, bT L13.out R3.out⟩
      · have h9 := redE_mok (D := G.map Nr.d) (now := (i : Int)) HF.out.mok (by rw [HZ3.out]; exact hz3)
        rw [HZ3.out] at h9
        rcases h9 with rfl | rfl
        · go_wp2
          go_ret
          exact ⟨rfl, L11.out⟩
        · go_wp2
          go_ret
          exact ⟨rfl, L11.out⟩
    · have hz1 : (z1 == 0) = false := by simp; exact hz
      have hz2 : ¬ z1 = 0 := hz
      have L9 := L5
      have K9 := K5
      have M9 := M5
      have B9 := B5
      have C9 := C5
      clear L5 K5 M5 B5 C5 G5 E5
      generalize w5 = wz at *
      have a9 : wz.cell? ⟨b, 0, none⟩ = some (.slice ao n c) := K9.out.cell rfl
      have b9 : wz.cell? ⟨b, 1, none⟩ = some (.int .i64 now) := K9.out.cell rfl
      have CR3 := redo_q ao n c now G m wz (HG.out.keep L9.out) HN.out HNc.out HMw.out
      obtain ⟨z3, hz3⟩ : ∃ z, redE (G.map Nr.d) now m = z := ⟨_, rfl⟩
      rw [hz3] at CR3
      obtain ⟨S3, hS3⟩ : ∃ S, crW z3 ((Wk.new (G.map Nr.d) now m).down (at' (G.map Nr.d) (now).toNat).nxt.toNat) = S := ⟨_, rfl⟩
      rw [hS3] at CR3
      have HZ3 := Hid.mk' hz3
      have HS3 := Hid.mk' hS3
      have HCR3 := Hid.mk' CR3
      clear CR3 hz3 hS3
      go_upto_region 10 with fail
      go_wp2_with (first | refine wl_ld41 (B := b + 1) (o := 0) (.tmp 3) rfl rfl rfl hml (range_blk M9.out) ?_ | fail)
      refine HCR3.out.mono ?_
      rintro e w10 ⟨ao3, n3, k3, H3, va3, vn3, vc3, F3, rfl, g3, l3, hk3, d3, z3e, f3, fc3, e3, mw3, st3, hb3⟩
      have GG3 : Hid (Grz w10 ao3 H3) := g3
      have FF3 : Hid (Edz w10 va3 F3) := z3e
      have LL3 : Hid (H3.length = n3 ∧ n3 ≤ k3 ∧ H3.map Nr.d = S3.G ∧ F3.length = vn3 ∧ vn3 ≤ vc3 ∧ F3.map Er.d = S3.E ∧ Mw S3.m) := ⟨l3, hk3, d3, f3, fc3, e3, mw3⟩
      have ST3 := Hid.mk' st3
      have hl3 : S3.m.length = 27 := mw3.len
      obtain ⟨nw3, hnw3⟩ : ∃ x, S3.now = x := ⟨_, rfl⟩
      obtain ⟨cu3, hcu3⟩ : ∃ x, S3.cur = x := ⟨_, rfl⟩
      obtain ⟨mm3, hmm3⟩ : ∃ x, S3.m = x := ⟨_, rfl⟩
      rw [hnw3, hcu3, hmm3]
      rw [hmm3] at hl3
      have FN3 : Hid (S3.now = nw3 ∧ S3.cur = cu3 ∧ S3.m = mm3) := ⟨hnw3, hcu3, hmm3⟩
      clear g3 l3 hk3 d3 z3e f3 fc3 e3 mw3 st3 hnw3 hcu3 hmm3
      dsimp only
      have L10 := Hid.mk' (bT L9.out hb3)
      have K10 := Hid.mk' (K9.out.keep hb3)
      have M10 := Hid.mk' (M9.out.keep hb3)
      have B10 := Hid.mk' (B9.out.keep hb3)
      have C10 := Hid.mk' (C9.out.keep hb3)
      have QS : Hid (q5 < wz.heap.size ∧ q6 < wz.heap.size) := ⟨B9.out.lt, C9.out.b.lt⟩
      clear hb3 L9 K9 M9 B9 C9 a9 b9 HCR3
      have e0 : w10.cell? ⟨q5, 0, none⟩ = some (.slice ao1 n1 k1) := B10.out.cell rfl
      have e1 : w10.cell? ⟨q5, 1, none⟩ = some (.int .i64 nw1) := B10.out.cell rfl
      have f0 : w10.frozen? ⟨q5, 0, none⟩ = false := B10.out.frozen _
      have f1 : w10.frozen? ⟨q5, 1, none⟩ = false := B10.out.frozen _
      obtain ⟨X3, hX3⟩ : ∃ x, (w10.setCell ⟨q5, 0, none⟩ (.slice ao3 n3 k3)).setCell ⟨q5, 1, none⟩ (.int .i64 nw3) = x := ⟨_, rfl⟩
      have R24 : Hid (Blk X3 q5 24 #[.slice ao3 n3 k3, .int .i64 nw3]) := by unfold Hid; rw [← hX3]; exact set24 B10.out
      have R50 : Hid (Blk X3 q6 50 (cxa (.slice va1 vn1 vc1) cu1 mm1)) := by unfold Hid; rw [← hX3]; exact (C10.out.b.off Q56.out.symm _).off Q56.out.symm _
      have T50 := Hid.mk' ((Cb.of R50.out).t hl1)
      have KP : Hid (Kept 0 wz.heap.size w10 (X3.setCells q6 0 (cx (.slice va3 vn3 vc3) cu3 mm3))) := by
        unfold Hid
        rw [← hX3]
        have h1 := QS.out
        exact (((Kept.one (grown_set _ _ _ _)).wide (Nat.zero_le _) (by omega)).trans ((Kept.one (grown_set _ _ _ _)).wide (Nat.zero_le _) (by omega))).trans ((Kept.one (grown_setCells _ _ _)).wide (Nat.zero_le _) (by omega))
      have L11 : Hid (Below w.heap.size w (X3.setCells q6 0 (cx (.slice va3 vn3 vc3) cu3 mm3))) := by
        unfold Hid
        rw [← hX3]
        have h1 := QB.out
        exact below_setCells (by omega) _ _ ((L10.out.setCell (by show w.heap.size ≤ q5; omega) _).setCell (by show w.heap.size ≤ q5; omega) _)
      have K11 : Hid (Blk (X3.setCells q6 0 (cx (.slice va3 vn3 vc3) cu3 mm3)) b 24 #[.slice ao n c, .int .i64 now]) := by
        unfold Hid
        rw [← hX3]
        have h1 := QB.out
        exact blk_setCells_off (by omega) _ _ ((K10.out.off (by omega) _).off (by omega) _)
      have M11 : Hid (Blk (X3.setCells q6 0 (cx (.slice va3 vn3 vc3) cu3 mm3)) (b + 1) 41 (mk m)) := by
        unfold Hid
        rw [← hX3]
        have h1 := QB.out
        exact blk_setCells_off (by omega) _ _ ((M10.out.off (by omega) _).off (by omega) _)
      have B11 : Hid (Blk (X3.setCells q6 0 (cx (.slice va3 vn3 vc3) cu3 mm3)) q5 24 #[.slice ao3 n3 k3, .int .i64 nw3]) := blk_setCells_off Q56.out _ _ R24.out
      have C11 : Hid (Cb (X3.setCells q6 0 (cx (.slice va3 vn3 vc3) cu3 mm3)) q6 va3 vn3 vc3 cu3 mm3) := Cb.of (put_blk (old := cx (.slice va1 vn1 vc1) cu1 mm1) (by rw [cx_len hl1, cx_len hl3]) R50.out)
      go_upto_region 11 with (first | refine wl_st50 (B := q6) (o := 0) (.tmp 6) (.tmp 89) rfl rfl rfl rfl hl3 T50.out ?_ | fail)
      clear e0 e1 f0 f1 hX3 R24 R50 T50 L10 K10 M10 B10 C10
      generalize X3.setCells q6 0 (cx (.slice va3 vn3 vc3) cu3 mm3) = w11 at *
      have KG := Hid.mk' (ST3.out 0 wz.heap.size w11 KP.out (Nat.le_refl _))
      clear KP ST3 GG3 FF3
      by_cases hz3 : z3 = 0
      · subst hz3
        have hS3 := HS3.out
        rw [crW_yes] at hS3
        obtain ⟨kk, y1, y2, y3, y4, y5⟩ := bk2 HZ3.out HF.out hml HQ.out S3 hS3.symm
        obtain ⟨rfl⟩ : nw3 = (kk : Int) := FN3.out.1.symm.trans y1
        have HKN : Hid (kk < n) := by unfold Hid; rw [List.length_map, HN.out] at y2; exact y2
        have HR3 := Hid.mk' y3
        have HE3 := Hid.mk' y4
        have HN3 := Hid.mk' y5
        clear hS3 y1 y2 y3 y4 y5
        have c5 : w11.cell? ⟨q5, 0, none⟩ = some (.slice ao3 n3 k3) := B11.out.cell rfl
        have d5 : w11.cell? ⟨q5, 1, none⟩ = some (.int .i64 (kk : Int)) := B11.out.cell rfl
        have CR := undo_q ao3 n3 k3 (kk : Int) H3 mm3 w11 KG.out.1 LL3.out.1 LL3.out.2.1 (by rw [← FN3.out.2.2]; exact LL3.out.2.2.2.2.2.2)
        rw [LL3.out.2.2.1, ← FN3.out.1, ← FN3.out.2.2, HE3.out, crW_yes, FN3.out.1, FN3.out.2.2] at CR
        obtain ⟨S4, hS4⟩ : ∃ S, (Wk.new S3.G (kk : Int) mm3).up ((kk : Int)).toNat = S := ⟨_, rfl⟩
        rw [hS4] at CR
        obtain ⟨j1, j2, j3, j4, j5⟩ := HN3.out S4 (by rw [← hS4, FN3.out.1, FN3.out.2.2])
        have J4 : Hid (S4.m = m ∧ S4.cur = (at' (G.map Nr.d) kk).cur ∧ S4.now = now ∧ Right S4.G S4.now ∧ Alk S4.G (G.map Nr.d) kk) := ⟨j1, j2, j3, j4, j5⟩
        have HCR := Hid.mk' CR
        clear CR hS4 j1 j2 j3 j4 j5 HN3
        go_upto_region 13 with fail
        go_wp2_with (first | refine wl_ld41 (B := q6) (o := 2) (.tmp 101) rfl rfl rfl hl3 C11.out.mr ?_ | fail)
        refine HCR.out.mono ?_
        rintro e w12 ⟨ao4, n4, k4, H4, va4, vn4, vc4, F4, rfl, g4, l4, hk4, d4, z4e, f4, fc4, e4, mw4, st4, hb4⟩
        have GG4 : Hid (Grz w12 ao4 H4) := g4
        have FF4 : Hid (Edz w12 va4 F4) := z4e
        have LL4 : Hid (H4.length = n4 ∧ n4 ≤ k4 ∧ H4.map Nr.d = S4.G ∧ F4.length = vn4 ∧ vn4 ≤ vc4 ∧ F4.map Er.d = S4.E ∧ Mw S4.m) := ⟨l4, hk4, d4, f4, fc4, e4, mw4⟩
        have ST4 := Hid.mk' st4
        have hl4 : S4.m.length = 27 := mw4.len
        obtain ⟨nw4, hnw4⟩ : ∃ x, S4.now = x := ⟨_, rfl⟩
        obtain ⟨cu4, hcu4⟩ : ∃ x, S4.cur = x := ⟨_, rfl⟩
        obtain ⟨mm4, hmm4⟩ : ∃ x, S4.m = x := ⟨_, rfl⟩
        rw [hnw4, hcu4, hmm4]
        rw [hmm4] at hl4
        have FN4 : Hid (S4.now = nw4 ∧ S4.cur = cu4 ∧ S4.m = mm4) := ⟨hnw4, hcu4, hmm4⟩
        clear g4 l4 hk4 d4 z4e f4 fc4 e4 mw4 st4 hnw4 hcu4 hmm4
        dsimp only
        have L12 := Hid.mk' (bT L11.out hb4)
        have K12 := Hid.mk' (K11.out.keep hb4)
        have M12 := Hid.mk' (M11.out.keep hb4)
        have B12 := Hid.mk' (B11.out.keep hb4)
        have G12 := Hid.mk' (KG.out.1.keep hb4)
        clear hb4 L11 K11 M11 B11 C11 KG c5 d5 HCR
        obtain ⟨X1, hX1⟩ : ∃ x, w12.alloc (.cells #[.slice none 0 0, .int .i64 0] 24) = x := ⟨_, rfl⟩
        obtain ⟨q11, hq11⟩ : ∃ x, w12.heap.size = x := ⟨_, rfl⟩
        obtain ⟨X2, hX2⟩ : ∃ x, X1.alloc (.cells (cxa (.slice none 0 0) 0 Z) 50) = x := ⟨_, rfl⟩
        obtain ⟨q12, hq12⟩ : ∃ x, X1.heap.size = x := ⟨_, rfl⟩
        obtain ⟨y1, y2, y3, y4, y5, y6, y7, y8⟩ := two_boxes (ao := ao4) (va := va4) (n := n4) (k := k4) (vn := vn4) (vc := vc4) (now := nw4) (cu := cu4) (m := mm4) hZ hl4 hX1 hX2 hq11 hq12
        have T50 := Hid.mk' y4
        have Y5 := Hid.mk' y5
        have Y6 := Hid.mk' y6
        have Y7 : Hid (q11 ≠ q12) := y7
        have Y8 := Hid.mk' y8
        have hz50 := HZ50.out
        clear y4 y5 y6 y7 y8
        go_upto_region 14 with (first | refine wl_st50 (B := q12) (o := 0) (.tmp 12) (.tmp 105) rfl rfl rfl rfl hl4 T50.out ?_ | fail)
        clear y1 y2 y3 hX1 hX2 hq11 hq12 hz50 T50
        generalize ((X2.setCell ⟨q11, 0, none⟩ (.slice ao4 n4 k4)).setCell ⟨q11, 1, none⟩ (.int .i64 nw4)).setCells q12 0 (cx (.slice va4 vn4 vc4) cu4 mm4) = w13 at *
        have L13 := Hid.mk' (bT L12.out Y8.out)
        have K13 := Hid.mk' (K12.out.keep Y8.out)
        have M13 := Hid.mk' (M12.out.keep Y8.out)
        have B13 := Hid.mk' (B12.out.keep Y8.out)
        have G13 := Hid.mk' (G12.out.keep Y8.out)
        have H13 := Hid.mk' (GG4.out.keep Y8.out)
        have B14 := Hid.mk' Y5.out
        have C14 := Hid.mk' (Cb.of Y6.out)
        clear Y5 Y6 Y7 Y8 GG4 FF4 L12 K12 M12 B12 G12
        obtain ⟨rfl⟩ : mm4 = m := FN4.out.2.2.symm.trans J4.out.1
        obtain ⟨rfl⟩ : nw4 = now := FN4.out.1.symm.trans J4.out.2.2.1
        obtain ⟨rfl⟩ : n4 = n := by
          have h1 := J4.out.2.2.2.2.len
          rw [← LL4.out.2.2.1, List.length_map, List.length_map, LL4.out.1, HN.out] at h1
          exact h1
        obtain ⟨r3, hr3⟩ : ∃ r, G[kk]? = some r := ⟨_, List.getElem?_eq_getElem (by rw [HN.out]; exact HKN.out)⟩
        obtain ⟨g, o, rfl, hnc⟩ := HG.out.at hr3
        have er : at' (G.map Nr.d) kk = r3.d := map_at hr3
        obtain ⟨rc, hrc⟩ : ∃ x, r3.cur = x := ⟨_, rfl⟩
        have HC2 : Hid (w13.cell? ⟨g, o + kk * 58 + 3, none⟩ = some (.int .i64 rc)) := by unfold Hid; rw [← hrc]; exact cell_keep hnc.c3 L13.out
        obtain ⟨rfl⟩ : cu4 = rc := by
          rw [← FN4.out.2.1, J4.out.2.1, er, ← hrc]; rfl
        have hi0 : (0 : Int) ≤ (kk : Int) := by omega
        have hi1 : (kk : Int) < (n : Int) := by have := HKN.out; omega
        clear hr3 hnc er hrc
        have D0 : Hid (Below w13.heap.size w13 w13.drew) := (Below.refl _ _).drew
        have DV : Hid (Below w13.drew.heap.size w13.drew w13.drew) := Below.refl _ _
        have K8 := Hid.mk' (K13.out.keep D0.out)
        have M8 := Hid.mk' (M13.out.keep D0.out)
        have b8 := Hid.mk' (B13.out.keep D0.out)
        have y8 := Hid.mk' (B14.out.keep D0.out)
        have z8 := Hid.mk' (C14.out.keep D0.out)
        have HC3 := Hid.mk' (cell_keep HC2.out D0.out)
        refine wp_region_held (S := fun w' => Below w13.drew.heap.size w13.drew w') (by kernel_rfl) ?_
        change wpAnyH _ _ _ _ _ _ _ _ (World.drew _)
        generalize w13.drew = V3 at *
        refine wpAnyH_take (i := 0) (v := .int .i64 0) rfl (by kernel_rfl) (by kernel_rfl) (by kernel_rfl) (fun _ _ _ h => h) (Yields.yieldsIf (Or.inl ⟨by rfl, fun w => by go_simp⟩)) DV.out ?_
        try simp only [Act.put, List.getElem_toArray, List.getElem_cons_zero, List.getElem_cons_succ, List.setIfInBounds_toArray, List.set_cons_zero, List.set_cons_succ]
        refine wpAnyH_take (i := 1) (v := .bool true) rfl (by kernel_rfl) (by kernel_rfl) (by kernel_rfl) (fun _ _ _ h => h) (Yields.yieldsIf (Or.inl ⟨by rfl, fun w => by go_simp⟩)) DV.out ?_
        try simp only [Act.put, List.getElem_toArray, List.getElem_cons_zero, List.getElem_cons_succ, List.setIfInBounds_toArray, List.set_cons_zero, List.set_cons_succ]
        refine wpAnyH_take (i := 2) (v := .bool true) rfl (by kernel_rfl) (by kernel_rfl) (by kernel_rfl) (fun _ _ _ h => h) (Yields.yieldsIf (Or.inl ⟨by rfl, fun w => by go_simp⟩)) DV.out ?_
        try simp only [Act.put, List.getElem_toArray, List.getElem_cons_zero, List.getElem_cons_succ, List.setIfInBounds_toArray, List.set_cons_zero, List.set_cons_succ]
        refine wpAnyH_take (i := 3) (v := .pointer (some ⟨q12, 2, none⟩)) rfl (by kernel_rfl) (by kernel_rfl) (by kernel_rfl) (fun _ _ _ h => h) (Yields.yieldsIf (Or.inl ⟨by rfl, fun w => by go_simp⟩)) DV.out ?_
        try simp only [Act.put, List.getElem_toArray, List.getElem_cons_zero, List.getElem_cons_succ, List.setIfInBounds_toArray, List.set_cons_zero, List.set_cons_succ]
        refine wpAnyH_take (i := 4) (v := .agg (mk m)) rfl (by kernel_rfl) (by kernel_rfl) (by kernel_rfl) (fun _ _ _ h => h) (yi_ld ty41 rfl (.tmp 110) rfl rfl (ml m) (by rw [ml_len, hml]) (fun _ h => (z8.out.keep h).mr)) DV.out ?_
        try simp only [Act.put, List.getElem_toArray, List.getElem_cons_zero, List.getElem_cons_succ, List.setIfInBounds_toArray, List.set_cons_zero, List.set_cons_succ]
        refine wpAnyH_take (i := 5) (v := .agg (mk m)) rfl (by kernel_rfl) (by kernel_rfl) (by kernel_rfl) (fun _ _ _ h => h) (yi_ld ty41 rfl (.tmp 3) rfl rfl (ml m) (by rw [ml_len, hml]) (fun _ h => range_blk (M8.out.keep h))) DV.out ?_
        try simp only [Act.put, List.getElem_toArray, List.getElem_cons_zero, List.getElem_cons_succ, List.setIfInBounds_toArray, List.set_cons_zero, List.set_cons_succ]
        refine wpAnyH_take (i := 6) (v := .bool true) rfl (by kernel_rfl) (by kernel_rfl) (by kernel_rfl) (fun _ _ _ h => h) (yi_bin rfl .eql 41 41 (.tmp 111) (.tmp 112) rfl rfl rfl Try.eqGuardType41 (fun w => by rw [eql41 w m m hml hml]; simp)) DV.out ?_
        try simp only [Act.put, List.getElem_toArray, List.getElem_cons_zero, List.getElem_cons_succ, List.setIfInBounds_toArray, List.set_cons_zero, List.set_cons_succ]
        refine wpAnyH_take (i := 7) (v := .bool true) rfl (by kernel_rfl) (by kernel_rfl) (by kernel_rfl) (fun _ _ _ h => h) (Yields.yieldsIf (Or.inl ⟨by rfl, fun w => by go_simp⟩)) DV.out ?_
        try simp only [Act.put, List.getElem_toArray, List.getElem_cons_zero, List.getElem_cons_succ, List.setIfInBounds_toArray, List.set_cons_zero, List.set_cons_succ]
        refine wpAnyH_take (i := 8) (v := .bool true) rfl (by kernel_rfl) (by kernel_rfl) (by kernel_rfl) (fun _ _ _ h => h) (Yields.yieldsIf (Or.inl ⟨by rfl, fun w => by go_simp⟩)) DV.out ?_
        try simp only [Act.put, List.getElem_toArray, List.getElem_cons_zero, List.getElem_cons_succ, List.setIfInBounds_toArray, List.set_cons_zero, List.set_cons_succ]
        refine wpAnyH_take (i := 9) (v := .agg #[.slice ao4 n k4, .int .i64 now]) rfl (by kernel_rfl) (by kernel_rfl) (by kernel_rfl) (fun _ _ _ h => h) (Or.inl ⟨by rfl, fun w9 h9 => by have h1 : w9.cell? ⟨b, 0, none⟩ = some (.slice (some ⟨g, o, none⟩) n c) := (K8.out.keep h9).cell rfl; have h2 : w9.cell? ⟨b, 1, none⟩ = some (.int .i64 now) := (K8.out.keep h9).cell rfl; have h3 : w9.cell? ⟨q5, 0, none⟩ = some (.slice ao3 n3 k3) := (b8.out.keep h9).cell rfl; have h4 : w9.cell? ⟨q5, 1, none⟩ = some (.int .i64 (kk : Int)) := (b8.out.keep h9).cell rfl; have h5 : w9.cell? ⟨q11, 0, none⟩ = some (.slice ao4 n k4) := (y8.out.keep h9).cell rfl; have h6 : w9.cell? ⟨q11, 1, none⟩ = some (.int .i64 now) := (y8.out.keep h9).cell rfl; have h7 := (z8.out.keep h9).c1; have h10 := cell_keep HC3.out h9; go_simp⟩) DV.out ?_
        try simp only [Act.put, List.getElem_toArray, List.getElem_cons_zero, List.getElem_cons_succ, List.setIfInBounds_toArray, List.set_cons_zero, List.set_cons_succ]
        refine wpAnyH_take (i := 10) (v := .agg #[.slice (some ⟨g, o, none⟩) n c, .int .i64 now]) rfl (by kernel_rfl) (by kernel_rfl) (by kernel_rfl) (fun _ _ _ h => h) (Or.inl ⟨by rfl, fun w9 h9 => by have h1 : w9.cell? ⟨b, 0, none⟩ = some (.slice (some ⟨g, o, none⟩) n c) := (K8.out.keep h9).cell rfl; have h2 : w9.cell? ⟨b, 1, none⟩ = some (.int .i64 now) := (K8.out.keep h9).cell rfl; have h3 : w9.cell? ⟨q5, 0, none⟩ = some (.slice ao3 n3 k3) := (b8.out.keep h9).cell rfl; have h4 : w9.cell? ⟨q5, 1, none⟩ = some (.int .i64 (kk : Int)) := (b8.out.keep h9).cell rfl; have h5 : w9.cell? ⟨q11, 0, none⟩ = some (.slice ao4 n k4) := (y8.out.keep h9).cell rfl; have h6 : w9.cell? ⟨q11, 1, none⟩ = some (.int .i64 now) := (y8.out.keep h9).cell rfl; have h7 := (z8.out.keep h9).c1; have h10 := cell_keep HC3.out h9; go_simp⟩) DV.out ?_
        try simp only [Act.put, List.getElem_toArray, List.getElem_cons_zero, List.getElem_cons_succ, List.setIfInBounds_toArray, List.set_cons_zero, List.set_cons_succ]
        refine wpAnyH_take (i := 11) (v := .pointer (some ⟨q5, 1, none⟩)) rfl (by kernel_rfl) (by kernel_rfl) (by kernel_rfl) (fun _ _ _ h => h) (Yields.yieldsIf (Or.inl ⟨by rfl, fun w => by go_simp⟩)) DV.out ?_
        try simp only [Act.put, List.getElem_toArray, List.getElem_cons_zero, List.getElem_cons_succ, List.setIfInBounds_toArray, List.set_cons_zero, List.set_cons_succ]
        refine wpAnyH_take (i := 12) (v := .int .i64 (kk : Int)) rfl (by kernel_rfl) (by kernel_rfl) (by kernel_rfl) (fun _ _ _ h => h) (Or.inl ⟨by rfl, fun w9 h9 => by have h1 : w9.cell? ⟨b, 0, none⟩ = some (.slice (some ⟨g, o, none⟩) n c) := (K8.out.keep h9).cell rfl; have h2 : w9.cell? ⟨b, 1, none⟩ = some (.int .i64 now) := (K8.out.keep h9).cell rfl; have h3 : w9.cell? ⟨q5, 0, none⟩ = some (.slice ao3 n3 k3) := (b8.out.keep h9).cell rfl; have h4 : w9.cell? ⟨q5, 1, none⟩ = some (.int .i64 (kk : Int)) := (b8.out.keep h9).cell rfl; have h5 : w9.cell? ⟨q11, 0, none⟩ = some (.slice ao4 n k4) := (y8.out.keep h9).cell rfl; have h6 : w9.cell? ⟨q11, 1, none⟩ = some (.int .i64 now) := (y8.out.keep h9).cell rfl; have h7 := (z8.out.keep h9).c1; have h10 := cell_keep HC3.out h9; go_simp⟩) DV.out ?_
        try simp only [Act.put, List.getElem_toArray, List.getElem_cons_zero, List.getElem_cons_succ, List.setIfInBounds_toArray, List.set_cons_zero, List.set_cons_succ]
        refine wpAnyH_all (rs := [13]) (by kernel_rfl) (by simp) (AllH.cons rfl (fun K hK => ?_) AllH.nil)
        go_simp
        refine (alike_yes ao4 n k4 now H4 (some ⟨g, o, none⟩) c G kk V3 (H13.out.keep D0.out) (HG.out.keep (bT L13.out D0.out)) LL4.out.1 HN.out (by have := J4.out.2.2.2.2; rw [← LL4.out.2.2.1] at this; exact this) (by have := HN9.out; omega)).mono ?_
        rintro e u1 ⟨rfl, hbb⟩
        have R1 : Hid (Below w13.heap.size w13 u1) := bT D0.out hbb
        have S1 : Hid (Below V3.heap.size V3 u1) := bT (DV.out) hbb
        clear hbb
        dsimp only
        refine hK _ _ ⟨S1.out, ?_⟩
        clear hK K
        try simp only [Act.put, List.getElem_toArray, List.getElem_cons_zero, List.getElem_cons_succ, List.setIfInBounds_toArray, List.set_cons_zero, List.set_cons_succ]
        refine wpAnyH_take (i := 14) (v := .bool true) rfl (by kernel_rfl) (by kernel_rfl) (by kernel_rfl) (fun _ _ _ h => h) (Yields.yieldsIf (Or.inl ⟨by rfl, fun w => by go_simp⟩)) S1.out ?_
        try simp only [Act.put, List.getElem_toArray, List.getElem_cons_zero, List.getElem_cons_succ, List.setIfInBounds_toArray, List.set_cons_zero, List.set_cons_succ]
        refine wpAnyH_take (i := 15) (v := .bool true) rfl (by kernel_rfl) (by kernel_rfl) (by kernel_rfl) (fun _ _ _ h => h) (Yields.yieldsIf (Or.inl ⟨by rfl, fun w => by go_simp⟩)) S1.out ?_
        try simp only [Act.put, List.getElem_toArray, List.getElem_cons_zero, List.getElem_cons_succ, List.setIfInBounds_toArray, List.set_cons_zero, List.set_cons_succ]
        refine wpAnyH_take (i := 16) (v := .agg #[.slice ao3 n3 k3, .int .i64 (kk : Int)]) rfl (by kernel_rfl) (by kernel_rfl) (by kernel_rfl) (fun _ _ _ h => h) (Or.inl ⟨by rfl, fun w9 h9 => by have h1 : w9.cell? ⟨b, 0, none⟩ = some (.slice (some ⟨g, o, none⟩) n c) := (K8.out.keep h9).cell rfl; have h2 : w9.cell? ⟨b, 1, none⟩ = some (.int .i64 now) := (K8.out.keep h9).cell rfl; have h3 : w9.cell? ⟨q5, 0, none⟩ = some (.slice ao3 n3 k3) := (b8.out.keep h9).cell rfl; have h4 : w9.cell? ⟨q5, 1, none⟩ = some (.int .i64 (kk : Int)) := (b8.out.keep h9).cell rfl; have h5 : w9.cell? ⟨q11, 0, none⟩ = some (.slice ao4 n k4) := (y8.out.keep h9).cell rfl; have h6 : w9.cell? ⟨q11, 1, none⟩ = some (.int .i64 now) := (y8.out.keep h9).cell rfl; have h7 := (z8.out.keep h9).c1; have h10 := cell_keep HC3.out h9; go_simp⟩) S1.out ?_
        try simp only [Act.put, List.getElem_toArray, List.getElem_cons_zero, List.getElem_cons_succ, List.setIfInBounds_toArray, List.set_cons_zero, List.set_cons_succ]
        refine wpAnyH_all (rs := [17]) (by kernel_rfl) (by simp) (AllH.cons rfl (fun K hK => ?_) AllH.nil)
        go_simp
        refine (chk0 ao3 n3 k3 (kk : Int) H3 u1 (G13.out.keep R1.out) LL3.out.1 LL3.out.2.1 (by rw [LL3.out.2.2.1, ← FN3.out.1]; exact HR3.out)).mono ?_
        rintro e u2 ⟨rfl, hbb⟩
        have R2 : Hid (Below w13.heap.size w13 u2) := bT R1.out hbb
        have S2 : Hid (Below V3.heap.size V3 u2) := bT (S1.out) hbb
        clear hbb
        dsimp only
        refine hK _ _ ⟨S2.out, ?_⟩
        clear hK K
        try simp only [Act.put, List.getElem_toArray, List.getElem_cons_zero, List.getElem_cons_succ, List.setIfInBounds_toArray, List.set_cons_zero, List.set_cons_succ]
        refine wpAnyH_take (i := 18) (v := .bool true) rfl (by kernel_rfl) (by kernel_rfl) (by kernel_rfl) (fun _ _ _ h => h) (Yields.yieldsIf (Or.inl ⟨by rfl, fun w => by go_simp⟩)) S2.out ?_
        try simp only [Act.put, List.getElem_toArray, List.getElem_cons_zero, List.getElem_cons_succ, List.setIfInBounds_toArray, List.set_cons_zero, List.set_cons_succ]
        refine wpAnyH_take (i := 19) (v := .bool true) rfl (by kernel_rfl) (by kernel_rfl) (by kernel_rfl) (fun _ _ _ h => h) (Yields.yieldsIf (Or.inl ⟨by rfl, fun w => by go_simp⟩)) S2.out ?_
        try simp only [Act.put, List.getElem_toArray, List.getElem_cons_zero, List.getElem_cons_succ, List.setIfInBounds_toArray, List.set_cons_zero, List.set_cons_succ]
        refine wpAnyH_take (i := 20) (v := .bool true) rfl (by kernel_rfl) (by kernel_rfl) (by kernel_rfl) (fun _ _ _ h => h) (Yields.yieldsIf (Or.inl ⟨by rfl, fun w => by go_simp⟩)) S2.out ?_
        try simp only [Act.put, List.getElem_toArray, List.getElem_cons_zero, List.getElem_cons_succ, List.setIfInBounds_toArray, List.set_cons_zero, List.set_cons_succ]
        refine wpAnyH_take (i := 21) (v := .agg #[.slice ao4 n k4, .int .i64 now]) rfl (by kernel_rfl) (by kernel_rfl) (by kernel_rfl) (fun _ _ _ h => h) (Or.inl ⟨by rfl, fun w9 h9 => by have h1 : w9.cell? ⟨b, 0, none⟩ = some (.slice (some ⟨g, o, none⟩) n c) := (K8.out.keep h9).cell rfl; have h2 : w9.cell? ⟨b, 1, none⟩ = some (.int .i64 now) := (K8.out.keep h9).cell rfl; have h3 : w9.cell? ⟨q5, 0, none⟩ = some (.slice ao3 n3 k3) := (b8.out.keep h9).cell rfl; have h4 : w9.cell? ⟨q5, 1, none⟩ = some (.int .i64 (kk : Int)) := (b8.out.keep h9).cell rfl; have h5 : w9.cell? ⟨q11, 0, none⟩ = some (.slice ao4 n k4) := (y8.out.keep h9).cell rfl; have h6 : w9.cell? ⟨q11, 1, none⟩ = some (.int .i64 now) := (y8.out.keep h9).cell rfl; have h7 := (z8.out.keep h9).c1; have h10 := cell_keep HC3.out h9; go_simp⟩) S2.out ?_
        try simp only [Act.put, List.getElem_toArray, List.getElem_cons_zero, List.getElem_cons_succ, List.setIfInBounds_toArray, List.set_cons_zero, List.set_cons_succ]
        refine wpAnyH_all (rs := [22]) (by kernel_rfl) (by simp) (AllH.cons rfl (fun K hK => ?_) AllH.nil)
        go_simp
        refine (chk0 ao4 n k4 now H4 u2 (H13.out.keep R2.out) LL4.out.1 LL4.out.2.1 (by rw [LL4.out.2.2.1, ← FN4.out.1]; exact J4.out.2.2.2.1)).mono ?_
        rintro e u3 ⟨rfl, hbb⟩
        have R3 : Hid (Below w13.heap.size w13 u3) := bT R2.out hbb
        have S3 : Hid (Below V3.heap.size V3 u3) := bT (S2.out) hbb
        clear hbb
        dsimp only
        refine hK _ _ ⟨S3.out, ?_⟩
        clear hK K
        try simp only [Act.put, List.getElem_toArray, List.getElem_cons_zero, List.getElem_cons_succ, List.setIfInBounds_toArray, List.set_cons_zero, List.set_cons_succ]
        refine wpAnyH_take (i := 23) (v := .bool true) rfl (by kernel_rfl) (by kernel_rfl) (by kernel_rfl) (fun _ _ _ h => h) (Yields.yieldsIf (Or.inl ⟨by rfl, fun w => by go_simp⟩)) S3.out ?_
        try simp only [Act.put, List.getElem_toArray, List.getElem_cons_zero, List.getElem_cons_succ, List.setIfInBounds_toArray, List.set_cons_zero, List.set_cons_succ]
        refine wpAnyH_take (i := 24) (v := .bool true) rfl (by kernel_rfl) (by kernel_rfl) (by kernel_rfl) (fun _ _ _ h => h) (Yields.yieldsIf (Or.inl ⟨by rfl, fun w => by go_simp⟩)) S3.out ?_
        try simp only [Act.put, List.getElem_toArray, List.getElem_cons_zero, List.getElem_cons_succ, List.setIfInBounds_toArray, List.set_cons_zero, List.set_cons_succ]
        refine wpAnyH_take (i := 25) (v := .bool true) rfl (by kernel_rfl) (by kernel_rfl) (by kernel_rfl) (fun _ _ _ h => h) (Yields.yieldsIf (Or.inl ⟨by rfl, fun w => by go_simp⟩)) S3.out ?_
        try simp only [Act.put, List.getElem_toArray, List.getElem_cons_zero, List.getElem_cons_succ, List.setIfInBounds_toArray, List.set_cons_zero, List.set_cons_succ]
        refine wpAnyH_take (i := 26) (v := .pointer (some ⟨q12, 1, none⟩)) rfl (by kernel_rfl) (by kernel_rfl) (by kernel_rfl) (fun _ _ _ h => h) (Yields.yieldsIf (Or.inl ⟨by rfl, fun w => by go_simp⟩)) S3.out ?_
        try simp only [Act.put, List.getElem_toArray, List.getElem_cons_zero, List.getElem_cons_succ, List.setIfInBounds_toArray, List.set_cons_zero, List.set_cons_succ]
        refine wpAnyH_take (i := 27) (v := .int .i64 cu4) rfl (by kernel_rfl) (by kernel_rfl) (by kernel_rfl) (fun _ _ _ h => h) (Or.inl ⟨by rfl, fun w9 h9 => by have h1 : w9.cell? ⟨b, 0, none⟩ = some (.slice (some ⟨g, o, none⟩) n c) := (K8.out.keep h9).cell rfl; have h2 : w9.cell? ⟨b, 1, none⟩ = some (.int .i64 now) := (K8.out.keep h9).cell rfl; have h3 : w9.cell? ⟨q5, 0, none⟩ = some (.slice ao3 n3 k3) := (b8.out.keep h9).cell rfl; have h4 : w9.cell? ⟨q5, 1, none⟩ = some (.int .i64 (kk : Int)) := (b8.out.keep h9).cell rfl; have h5 : w9.cell? ⟨q11, 0, none⟩ = some (.slice ao4 n k4) := (y8.out.keep h9).cell rfl; have h6 : w9.cell? ⟨q11, 1, none⟩ = some (.int .i64 now) := (y8.out.keep h9).cell rfl; have h7 := (z8.out.keep h9).c1; have h10 := cell_keep HC3.out h9; go_simp⟩) S3.out ?_
        try simp only [Act.put, List.getElem_toArray, List.getElem_cons_zero, List.getElem_cons_succ, List.setIfInBounds_toArray, List.set_cons_zero, List.set_cons_succ]
        refine wpAnyH_take (i := 28) (v := .pointer (some ⟨b, 0, none⟩)) rfl (by kernel_rfl) (by kernel_rfl) (by kernel_rfl) (fun _ _ _ h => h) (Yields.yieldsIf (Or.inl ⟨by rfl, fun w => by go_simp⟩)) S3.out ?_
        try simp only [Act.put, List.getElem_toArray, List.getElem_cons_zero, List.getElem_cons_succ, List.setIfInBounds_toArray, List.set_cons_zero, List.set_cons_succ]
        refine wpAnyH_take (i := 29) (v := .slice (some ⟨g, o, none⟩) n c) rfl (by kernel_rfl) (by kernel_rfl) (by kernel_rfl) (fun _ _ _ h => h) (Or.inl ⟨by rfl, fun w9 h9 => by have h1 : w9.cell? ⟨b, 0, none⟩ = some (.slice (some ⟨g, o, none⟩) n c) := (K8.out.keep h9).cell rfl; have h2 : w9.cell? ⟨b, 1, none⟩ = some (.int .i64 now) := (K8.out.keep h9).cell rfl; have h3 : w9.cell? ⟨q5, 0, none⟩ = some (.slice ao3 n3 k3) := (b8.out.keep h9).cell rfl; have h4 : w9.cell? ⟨q5, 1, none⟩ = some (.int .i64 (kk : Int)) := (b8.out.keep h9).cell rfl; have h5 : w9.cell? ⟨q11, 0, none⟩ = some (.slice ao4 n k4) := (y8.out.keep h9).cell rfl; have h6 : w9.cell? ⟨q11, 1, none⟩ = some (.int .i64 now) := (y8.out.keep h9).cell rfl; have h7 := (z8.out.keep h9).c1; have h10 := cell_keep HC3.out h9; go_simp⟩) S3.out ?_
        try simp only [Act.put, List.getElem_toArray, List.getElem_cons_zero, List.getElem_cons_succ, List.setIfInBounds_toArray, List.set_cons_zero, List.set_cons_succ]
        refine wpAnyH_take (i := 30) (v := .pointer (some ⟨q5, 1, none⟩)) rfl (by kernel_rfl) (by kernel_rfl) (by kernel_rfl) (fun _ _ _ h => h) (Yields.yieldsIf (Or.inl ⟨by rfl, fun w => by go_simp⟩)) S3.out ?_
        try simp only [Act.put, List.getElem_toArray, List.getElem_cons_zero, List.getElem_cons_succ, List.setIfInBounds_toArray, List.set_cons_zero, List.set_cons_succ]
        refine wpAnyH_take (i := 31) (v := .int .i64 (kk : Int)) rfl (by kernel_rfl) (by kernel_rfl) (by kernel_rfl) (fun _ _ _ h => h) (Or.inl ⟨by rfl, fun w9 h9 => by have h1 : w9.cell? ⟨b, 0, none⟩ = some (.slice (some ⟨g, o, none⟩) n c) := (K8.out.keep h9).cell rfl; have h2 : w9.cell? ⟨b, 1, none⟩ = some (.int .i64 now) := (K8.out.keep h9).cell rfl; have h3 : w9.cell? ⟨q5, 0, none⟩ = some (.slice ao3 n3 k3) := (b8.out.keep h9).cell rfl; have h4 : w9.cell? ⟨q5, 1, none⟩ = some (.int .i64 (kk : Int)) := (b8.out.keep h9).cell rfl; have h5 : w9.cell? ⟨q11, 0, none⟩ = some (.slice ao4 n k4) := (y8.out.keep h9).cell rfl; have h6 : w9.cell? ⟨q11, 1, none⟩ = some (.int .i64 now) := (y8.out.keep h9).cell rfl; have h7 := (z8.out.keep h9).c1; have h10 := cell_keep HC3.out h9; go_simp⟩) S3.out ?_
        try simp only [Act.put, List.getElem_toArray, List.getElem_cons_zero, List.getElem_cons_succ, List.setIfInBounds_toArray, List.set_cons_zero, List.set_cons_succ]
        refine wpAnyH_take (i := 32) (v := .pointer (some ⟨g, o + kk * 58, none⟩)) rfl (by kernel_rfl) (by kernel_rfl) (by kernel_rfl) (fun _ _ _ h => h) (Yields.yieldsIf (Or.inl ⟨by rfl, fun w => by go_simp⟩)) S3.out ?_
        try simp only [Act.put, List.getElem_toArray, List.getElem_cons_zero, List.getElem_cons_succ, List.setIfInBounds_toArray, List.set_cons_zero, List.set_cons_succ]
        refine wpAnyH_take (i := 33) (v := .pointer (some ⟨g, o + kk * 58 + 3, none⟩)) rfl (by kernel_rfl) (by kernel_rfl) (by kernel_rfl) (fun _ _ _ h => h) (Yields.yieldsIf (Or.inl ⟨by rfl, fun w => by go_simp⟩)) S3.out ?_
        try simp only [Act.put, List.getElem_toArray, List.getElem_cons_zero, List.getElem_cons_succ, List.setIfInBounds_toArray, List.set_cons_zero, List.set_cons_succ]
        refine wpAnyH_take (i := 34) (v := .int .i64 cu4) rfl (by kernel_rfl) (by kernel_rfl) (by kernel_rfl) (fun _ _ _ h => h) (Or.inl ⟨by rfl, fun w9 h9 => by have h1 : w9.cell? ⟨b, 0, none⟩ = some (.slice (some ⟨g, o, none⟩) n c) := (K8.out.keep h9).cell rfl; have h2 : w9.cell? ⟨b, 1, none⟩ = some (.int .i64 now) := (K8.out.keep h9).cell rfl; have h3 : w9.cell? ⟨q5, 0, none⟩ = some (.slice ao3 n3 k3) := (b8.out.keep h9).cell rfl; have h4 : w9.cell? ⟨q5, 1, none⟩ = some (.int .i64 (kk : Int)) := (b8.out.keep h9).cell rfl; have h5 : w9.cell? ⟨q11, 0, none⟩ = some (.slice ao4 n k4) := (y8.out.keep h9).cell rfl; have h6 : w9.cell? ⟨q11, 1, none⟩ = some (.int .i64 now) := (y8.out.keep h9).cell rfl; have h7 := (z8.out.keep h9).c1; have h10 := cell_keep HC3.out h9; go_simp⟩) S3.out ?_
        try simp only [Act.put, List.getElem_toArray, List.getElem_cons_zero, List.getElem_cons_succ, List.setIfInBounds_toArray, List.set_cons_zero, List.set_cons_succ]
        refine wpAnyH_take (i := 35) (v := .bool true) rfl (by kernel_rfl) (by kernel_rfl) (by kernel_rfl) (fun _ _ _ h => h) (Yields.yieldsIf (Or.inl ⟨by rfl, fun w => by go_simp⟩)) S3.out ?_
        try simp only [Act.put, List.getElem_toArray, List.getElem_cons_zero, List.getElem_cons_succ, List.setIfInBounds_toArray, List.set_cons_zero, List.set_cons_succ]
        refine wpAnyH_take (i := 36) (v := .bool true) rfl (by kernel_rfl) (by kernel_rfl) (by kernel_rfl) (fun _ _ _ h => h) (Yields.yieldsIf (Or.inl ⟨by rfl, fun w => by go_simp⟩)) S3.out ?_
        try simp only [Act.put, List.getElem_toArray, List.getElem_cons_zero, List.getElem_cons_succ, List.setIfInBounds_toArray, List.set_cons_zero, List.set_cons_succ]
        refine wpAnyH_take (i := 37) (v := .bool true) rfl (by kernel_rfl) (by kernel_rfl) (by kernel_rfl) (fun _ _ _ h => h) (Yields.yieldsIf (Or.inl ⟨by rfl, fun w => by go_simp⟩)) S3.out ?_
        try simp only [Act.put, List.getElem_toArray, List.getElem_cons_zero, List.getElem_cons_succ, List.setIfInBounds_toArray, List.set_cons_zero, List.set_cons_succ]
        refine wpAnyH_done (by kernel_rfl) ?_ _
        go_wp2
        go_ret
        exact ⟨rfl, bT L13.out R3.out⟩
      · have h9 := redE_mok (D := G.map Nr.d) (now := now) HF.out.mok (by rw [HZ3.out]; exact hz3)
        rw [HZ3.out] at h9
        rcases h9 with rfl | rfl
        · go_wp2
          go_ret
          exact ⟨rfl, L11.out⟩
        · go_wp2
          go_ret
          exact ⟨rfl, L11.out⟩
  · rw [tb_f hf]
    clear hf
    go_wp2
    go_ret
    exact ⟨rfl, L3.out⟩
theorem groveBack_walk (ao : Option Addr) (n c : Nat) (now : Int) (G : List Nr) (m : List Int) (w : World) (HG : Hid (Grz w ao G)) (hn : G.length = n) (hc : n ≤ c) (hm : Mw m) (hbig : ∀ d ∈ G.map Nr.d, nsum d.ed + osum d.ed + d.ed.length ≤ 1048576) (hn9 : n ≤ 1048576) :
    Calls Try.prog 6 #[.agg #[.slice ao n c, .int .i64 now], .agg (mk m)] w fun e w' => e = .returned (.bool true) ∧ Below w.heap.size w w' := groveBack_walk' zm rfl z50 ao n c now G m w HG hn hc hm hbig hn9
end Go.Proofs.Ytaahklapoppgaaa
