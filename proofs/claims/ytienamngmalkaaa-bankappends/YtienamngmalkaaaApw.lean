/- BankAppends, walked. -/
import Derived.Test.YtienamngmalkaaaAps
namespace Go.Proofs.Ytienamngmalkaaa
open Go.RowKit

set_option maxRecDepth 8000
theorem len_sv (x : List UInt8) (W : World) : (Builtin.len_ #[9] 3 #[sv x]).run Try.prog W = .ok (.int .i64 (x.length : Int)) W := by
  unfold sv
  simp [Builtin.len_, run_underlying Try.underlying9, goInt]
  rfl
theorem ext1 (TE : List UInt8) : Value.string ((⟨(10 :: TE).toArray⟩ : ByteArray).extract 1 (TE.length + 1)) = sv TE := by
  have he : (⟨(10 :: TE).toArray⟩ : ByteArray).extract 1 (TE.length + 1) = ⟨TE.toArray⟩ := by
    apply ByteArray.ext
    apply Array.ext'
    simp [ByteArray.data_extract]
  unfold sv
  rw [he]
theorem enl_at10 {o : List UInt8} (h : o ≠ []) (he : enl o = true) : at8 o (o.length - 1) = 10 := by
  unfold enl at he
  unfold at8
  rw [List.getD_eq_getElem?_getD, ← List.getLast?_eq_getElem?]
  rw [List.getLastD_eq_getLast?] at he
  obtain ⟨x, hx⟩ : ∃ x, o.getLast? = some x := ⟨_, List.getLast?_eq_some_getLast h⟩
  rw [hx] at he ⊢
  simpa using he
theorem enl_no {o : List UInt8} (h : o ≠ []) (he : enl o = false) : at8 o (o.length - 1) ≠ 10 := by
  unfold enl at he
  unfold at8
  rw [List.getD_eq_getElem?_getD, ← List.getLast?_eq_getElem?]
  rw [List.getLastD_eq_getLast?] at he
  obtain ⟨x, hx⟩ : ∃ x, o.getLast? = some x := ⟨_, List.getLast?_eq_some_getLast h⟩
  rw [hx] at he ⊢
  simpa using he
theorem enl_last {o : List UInt8} (h : o ≠ []) (he : enl o = true) : o[o.length - 1]? = some 10 := by
  have h1 := enl_at10 h he
  have hl := List.length_pos_iff.2 h
  rw [at8_eq (by omega)] at h1
  rw [List.getElem?_eq_getElem (by omega), h1]
theorem bht_ge (ol l : Bool) (o t : List UInt8) : t.length ≤ (bht ol l o t).length := by
  cases h : (ol || l) with
  | false => rw [bht_plain h]; simp
  | true =>
    rw [bht_lines h]
    have : t.length ≤ (tel t).length := by
      unfold tel
      split
      · rename_i h; simp [h]
      · exact wle_ge t
    simp; omega
theorem bht_ge2 (ol l : Bool) (o t : List UInt8) : o.length ≤ (bht ol l o t).length := by
  cases h : (ol || l) with
  | false => rw [bht_plain h]; simp
  | true => rw [bht_lines h]; simp
set_option linter.unusedSimpArgs false in
set_option maxHeartbeats 16000000 in
theorem bankAppends_walk (L : List Rg) (P : List Ct) (x : Nat) (r : Rg) (cc : Ct) (w : World) (_hx : x < 256) (R0 : Hid (Rdb w L P)) (R1 : Hid (Rd w r cc)) :
    Calls Try.prog 7 #[.agg (bk L), .int .u8 (x : Int), .agg #[.bool r.s, .bool r.l, .slice r.a r.n r.c]] w fun e w' => e = .returned (.bool true) ∧ Below w.heap.size w w' := by
  have hz := z28
  obtain ⟨rs, l, ra, rn, rc⟩ := r
  obtain ⟨cs, cl, t⟩ := cc
  have er1 : rs = cs := R1.out.s
  have er2 : l = cl := R1.out.l
  subst er1 er2
  have HT : Hid (Tx w ra rn rc t) := R1.out.t
  have hP := R0.out.2.1
  have hL := R0.out.1
  dsimp only
  clear R1
  obtain ⟨j, hj⟩ : ∃ j, j = x % 26 := ⟨_, rfl⟩
  have hj26 : j < 26 := by omega
  have HJ := Hid.mk' hj26
  have m1 : (x : Int).tmod 26 = (j : Int) := by rw [hj]; rfl
  clear hj
  have m2 : IntKind.u8.wrap (j : Int) = (j : Int) := by rw [IntKind.wrap_u8]; omega
  have m3 : IntKind.u8.wrap (97 + (j : Int)) = 97 + (j : Int) := by rw [IntKind.wrap_u8]; omega
  have m4 : IntKind.u8.wrap (97 + (j : Int) - 32) = 65 + (j : Int) := by rw [IntKind.wrap_u8]; omega
  generalize hW2 : (w.alloc (.cells (bk L) 28)).alloc (.cells #[.bool rs, .bool l, .slice ra rn rc] 24) = W2
  have B0 : Hid (Blk W2 w.heap.size 28 (bk L)) := by rw [← hW2]; exact (Blk.new w 28 _).keep (bAlloc (Below.refl _ _) _)
  have B1 : Hid (Blk W2 (w.heap.size + 1) 24 #[.bool rs, .bool l, .slice ra rn rc]) := by
    rw [← hW2]
    have := Blk.new (w.alloc (.cells (bk L) 28)) 24 #[.bool rs, .bool l, .slice ra rn rc]
    rwa [World.size_alloc] at this
  have BE : Hid (Below w.heap.size w W2) := by rw [← hW2]; exact bAlloc (bAlloc (Below.refl _ _) _) _
  have CA := Hid.mk' (awake_any W2)
  have GO := Hid.mk' (fun W (h : Rdb W L P) => get_any L P (97 + j) W (by omega) h)
  have PU := Hid.mk' (fun W (h1 : Rdb W L P) (h2 : Tx W ra rn rc t) => put_any L P (65 + j) 1 rs l ra rn rc t W (by omega) h1 h2)
  rw [show ((97 + j : Nat) : Int) = 97 + (j : Int) by omega] at GO
  rw [show ((65 + j : Nat) : Int) = 65 + (j : Int) by omega] at PU
  have HG := Hid.mk' (fun h => put_great (s := rs) (l := l) (t := t) hP hj26 h)
  have HNO := Hid.mk' (fun h => putP_no (P := P) (x := 65 + j) (how := 1) (c := ⟨rs, l, t⟩) h)
  have HSH := Hid.mk' (putP_short hP (rdb_short R0.out) (65 + j) 1 ⟨rs, l, t⟩)
  have hol := getP_le R0.out (97 + j)
  unfold gE at GO
  have hn65 : Hid (rix (65 + j) ≠ none) := by unfold Hid; rw [rix_great hj26]; simp
  generalize putP P (65 + j) 1 ⟨rs, l, t⟩ = PP at PU HG HNO HSH
  generalize getP P (97 + j) = OO at GO HG hol
  obtain ⟨P1, E⟩ := PP
  obtain ⟨⟨os, ol, ot⟩, had⟩ := OO
  dsimp only at PU HG HNO HSH GO hol
  have HOL := Hid.mk' hol
  clear hol
  clear hj26 hP _hx
  have hj0 : (0 : Int) ≤ (j : Int) := by omega
  go_enter Try.func7, Try.ntmps7
  go_wp2_with fail
  clear hW2
  refine CA.out.mono ?_
  rintro e w3 ⟨rfl, hb3⟩
  have K0 := Hid.mk' (B0.out.keep hb3)
  have K1 := Hid.mk' (B1.out.keep hb3)
  have BL := Hid.mk' (bT BE.out hb3)
  clear hb3 CA B0 B1 BE
  go_wp2_with (refine wl_load28 (.tmp 3) rfl rfl rfl hL K0.out ?_)
  refine (GO.out _ (R0.out.keep BL.out)).mono ?_
  rintro e w4 ⟨a4, c4, n4, hn4, rfl, hO4, hb4⟩
  obtain ⟨a9, c9, hv9, hT9⟩ := own_txl hO4 (by have := HOL.out; omega)
  obtain ⟨ea, ec⟩ : a4 = a9 ∧ c4 = c9 := by simpa using hv9
  subst ea ec
  have hba := bAlloc (Below.refl _ w4) (.cells #[.bool os, .bool ol, .slice a4 n4 c4] 24)
  have X4 := Hid.mk' (Blk.new w4 24 #[.bool os, .bool ol, .slice a4 n4 c4])
  have T4 := Hid.mk' (hT9.keep hba)
  have K4 := Hid.mk' ((K0.out.keep hb4).keep hba)
  have J4 := Hid.mk' ((K1.out.keep hb4).keep hba)
  have L4 := Hid.mk' (bT BL.out (bT hb4 hba))
  have HN4 := Hid.mk' hn4
  clear hn4 hO4 hb4 hv9 hT9 hba K0 K1 BL GO
  generalize hw5 : w4.alloc (.cells #[.bool os, .bool ol, .slice a4 n4 c4] 24) = w5 at *
  obtain ⟨p4, hp4⟩ : ∃ p, p = w4.heap.size := ⟨_, rfl⟩
  go_upto_region 5 with fail
  clear hw5
  rw [← hp4] at X4 ⊢
  clear hp4
  have y0 : w5.cell? ⟨w.heap.size + 1, 0, none⟩ = some (.bool rs) := J4.out.cell rfl
  have y1 : w5.cell? ⟨w.heap.size + 1, 1, none⟩ = some (.bool l) := J4.out.cell rfl
  have y2 : w5.cell? ⟨w.heap.size + 1, 2, none⟩ = some (.slice ra rn rc) := J4.out.cell rfl
  go_wp2_with (refine wl_load28 (.tmp 3) rfl rfl rfl hL K4.out ?_)
  refine (PU.out _ (R0.out.keep L4.out) (HT.out.keep L4.out)).mono ?_
  rintro e w6 ⟨N1, rfl, hN1⟩
  have hl1 := hN1.len
  have hBz := Hid.mk' (Blk.new w6 28 (bk zb))
  obtain ⟨hbx, hbb⟩ := boxed (w := w6) hl1
  have hbq := bT hN1.own.bel hbb
  have Q6 := Hid.mk' ((hN1.rdb HSH.out).keep hbb)
  have X6 := Hid.mk' (X4.out.keep hbq)
  have T6 := Hid.mk' (T4.out.keep hbq)
  have J6 := Hid.mk' (J4.out.keep hbq)
  have L6 := Hid.mk' (bT L4.out hbq)
  obtain ⟨p, hp⟩ : ∃ p, p = w6.heap.size := ⟨_, rfl⟩
  have Z6 : Hid (Blk (put28 (w6.alloc (.cells (bk zb) 28)) w6.heap.size N1) p 28 (bk N1)) := by rw [hp]; exact hbx
  clear hbx hbb hbq hN1 PU X4 T4 K4 J4 L4 y0 y1 y2
  go_upto_region 6 with (refine wl_store28 (.tmp 10) (.tmp 34) rfl rfl rfl rfl hl1 rfl hBz.out ?_)
  generalize put28 (w6.alloc (.cells (bk zb) 28)) w6.heap.size N1 = w7 at *
  rw [← hp]
  clear hp hBz HSH
  by_cases hE : E = 0
  · subst hE
    obtain ⟨hlt, hcase⟩ := HG.out rfl
    have HLT := Hid.mk' hlt
    clear HG HNO hlt hn65
    have GN := Hid.mk' (get_any N1 P1 (97 + j) w7 (by have := HJ.out; omega) Q6.out)
    rw [show ((97 + j : Nat) : Int) = 97 + (j : Int) by omega] at GN
    unfold gE at GN
    rcases hcase with ⟨-, he, hg⟩ | ⟨ol', ot', he, hg, hlb⟩
    · obtain ⟨he1, he2⟩ := Prod.mk.inj he
      unfold zc at he1
      obtain ⟨rfl, rfl, rfl⟩ := Ct.mk.inj he1
      subst he2
      rw [hg] at GN
      dsimp only at GN
      have htl : t.length ≤ 150000000000000 := by have := HT.out.big; have := HT.out.len; omega
      go_wp2_with (refine wl_load28 (.tmp 10) rfl rfl rfl hl1 Z6.out ?_)
      refine GN.out.mono ?_
      rintro e w8 ⟨a8, c8, n8, hn8, rfl, hO8, hb8⟩
      obtain ⟨a9, c9, hv9, hT9⟩ := own_txl hO8 (by omega)
      obtain ⟨ea, ec⟩ : a8 = a9 ∧ c8 = c9 := by simpa using hv9
      subst ea ec
      have hba := bAlloc (Below.refl _ w8) (.cells #[.bool true, .bool l, .slice a8 n8 c8] 24)
      have N8 := Hid.mk' (Blk.new w8 24 #[.bool true, .bool l, .slice a8 n8 c8])
      have T8 := Hid.mk' (hT9.keep hba)
      have X8 := Hid.mk' ((X6.out.keep hb8).keep hba)
      have J8 := Hid.mk' ((J6.out.keep hb8).keep hba)
      have L8 := Hid.mk' (bT L6.out (bT hb8 hba))
      have U8 := Hid.mk' (HT.out.keep L8.out)
      clear hn8 hO8 hb8 hv9 hT9 hba GN X6 J6 L6 T6 Q6 Z6
      generalize hw9 : w8.alloc (.cells #[.bool true, .bool l, .slice a8 n8 c8] 24) = w9 at *
      obtain ⟨p8, hp8⟩ : ∃ p, p = w8.heap.size := ⟨_, rfl⟩
      go_upto_region 9 with fail
      clear hw9
      rw [← hp8] at N8 ⊢
      clear hp8
      have y1 : w9.cell? ⟨w.heap.size + 1, 1, none⟩ = some (.bool l) := J8.out.cell rfl
      have y2 : w9.cell? ⟨w.heap.size + 1, 2, none⟩ = some (.slice ra rn rc) := J8.out.cell rfl
      have v1 : w9.cell? ⟨p8, 1, none⟩ = some (.bool l) := N8.out.cell rfl
      have v2 : w9.cell? ⟨p8, 2, none⟩ = some (.slice a8 n8 c8) := N8.out.cell rfl
      have V3 := conv_tx T8.out
      have V4 := conv_tx U8.out
      cases l <;>
      · go_wp2
        go_ret
        exact ⟨rfl, L8.out⟩
    · obtain ⟨he1, he2⟩ := Prod.mk.inj he
      obtain ⟨rfl, rfl, rfl⟩ := Ct.mk.inj he1
      subst he2
      rw [hg] at GN
      dsimp only at GN
      have HNB := Hid.mk' hlb
      have HNE0 : Hid (bht ol l ot t = bht ol l ot t) := rfl
      obtain ⟨N, hN⟩ : ∃ N, N = bht ol l ot t := ⟨_, rfl⟩
      rw [← hN] at GN HNB
      have HNE := Hid.mk' hN
      clear hg hlb hN HNE0 he he1
      go_wp2_with (refine wl_load28 (.tmp 10) rfl rfl rfl hl1 Z6.out ?_)
      refine GN.out.mono ?_
      rintro e w8 ⟨a8, c8, n8, hn8, rfl, hO8, hb8⟩
      obtain ⟨a9, c9, hv9, hT9⟩ := own_txl hO8 (by have := HNB.out; omega)
      obtain ⟨ea, ec⟩ : a8 = a9 ∧ c8 = c9 := by simpa using hv9
      subst ea ec
      have hba := bAlloc (Below.refl _ w8) (.cells #[.bool true, .bool (ol || l), .slice a8 n8 c8] 24)
      have N8 := Hid.mk' (Blk.new w8 24 #[.bool true, .bool (ol || l), .slice a8 n8 c8])
      have T8 := Hid.mk' (hT9.keep hba)
      have X8 := Hid.mk' ((X6.out.keep hb8).keep hba)
      have J8 := Hid.mk' ((J6.out.keep hb8).keep hba)
      have T4b := Hid.mk' ((T6.out.keep hb8).keep hba)
      have L8 := Hid.mk' (bT L6.out (bT hb8 hba))
      have U8 := Hid.mk' (HT.out.keep L8.out)
      have HTB : Hid (t.length ≤ 65536) := by
        have h1 := HNB.out
        rw [HNE.out] at h1
        have h2 : t.length ≤ (bht ol l ot t).length := bht_ge ol l ot t
        unfold Hid; omega
      have HN4B : Hid (n4 ≤ 65536) := by
        have h1 := HNB.out
        rw [HNE.out] at h1
        have h2 := bht_ge2 ol l ot t
        have h3 := HN4.out
        unfold Hid; omega
      clear hn8 hO8 hb8 hv9 hT9 hba GN X6 J6 L6 T6 Q6 Z6
      cases ol <;> cases l
      case false.false =>
        dsimp only [Bool.or] at *
        generalize hw9 : w8.alloc (.cells #[.bool true, .bool false, .slice a8 n8 c8] 24) = w9 at *
        obtain ⟨p8, hp8⟩ : ∃ p, p = w8.heap.size := ⟨_, rfl⟩
        go_upto_region 9 with fail
        clear hw9
        rw [← hp8] at N8 ⊢
        clear hp8
        have yc1 : w9.cell? ⟨w.heap.size + 1, 1, none⟩ = some (.bool false) := J8.out.cell rfl
        have vc1 : w9.cell? ⟨p8, 1, none⟩ = some (.bool false) := N8.out.cell rfl
        have vc2 : w9.cell? ⟨p8, 2, none⟩ = some (.slice a8 n8 c8) := N8.out.cell rfl
        have zc1 : w9.cell? ⟨p4, 1, none⟩ = some (.bool false) := X8.out.cell rfl
        have zc2 : w9.cell? ⟨p4, 2, none⟩ = some (.slice a4 n4 c4) := X8.out.cell rfl
        have HNR : Hid (N = ot ++ t) := by rw [HNE.out]; exact bht_plain rfl ot t
        obtain ⟨R, hR⟩ : ∃ R, R = t := ⟨_, rfl⟩
        rw [← hR] at HNR
        have HRP : Hid (decide (R = t) = true) := by unfold Hid; simp [hR]
        clear hR
        have hlN : N.length = n8 := T8.out.len
        have hnn : n4 ≤ n8 := by rw [← hlN, HNR.out, List.length_append, HN4.out]; omega
        have hnnI : ¬ (n8 : Int) < (n4 : Int) := by omega
        obtain ⟨ah, ch, hsh, hTh⟩ := sl_h T8.out (m := n4) hnn
        obtain ⟨al, cl, hsl, hTl⟩ := sl_l T8.out (lo := n4) (z := (n4 : Int)) hnn rfl
        have hdr : N.drop n4 = R := by rw [HNR.out, HN4.out, List.drop_left]
        have htk : N.take n4 = ot := by rw [HNR.out, HN4.out, List.take_left]
        rw [htk] at hTh
        rw [hdr] at hTl
        go_upto_region 14 with fail
        have ND : Hid (Blk w9.drew p8 24 #[.bool true, .bool false, .slice a8 n8 c8]) := N8.out
        have XD : Hid (Blk w9.drew p4 24 #[.bool true, .bool false, .slice a4 n4 c4]) := X8.out
        have JD : Hid (Blk w9.drew (w.heap.size + 1) 24 #[.bool rs, .bool false, .slice ra rn rc]) := J8.out
        have HD : Hid (Tx w9.drew ah n4 ch ot) := hTh.keep (Below.refl _ _).drew
        have RD : Hid (Tx w9.drew al (n8 - n4) cl R) := hTl.keep (Below.refl _ _).drew
        have OD : Hid (Tx w9.drew a4 n4 c4 ot) := T4b.out.keep (Below.refl _ _).drew
        have UD : Hid (Tx w9.drew ra rn rc t) := U8.out.keep (Below.refl _ _).drew
        have LD : Hid (Below w.heap.size w w9.drew) := L8.out.drew
        clear hTh hTl hdr htk hlN N8 X8 J8 T8 U8 L8 T4b yc1 vc1 vc2 zc1 zc2
        refine wp_region_held (S := fun w' => Blk w' p8 24 #[.bool true, .bool false, .slice a8 n8 c8] ∧ Blk w' p4 24 #[.bool true, .bool false, .slice a4 n4 c4] ∧ Tx w' ah n4 ch ot ∧ Tx w' a4 n4 c4 ot) (by kernel_rfl) ?_
        change wpAnyH _ _ _ _ _ _ _ _ (World.drew _)
        generalize w9.drew = V9 at *
        refine wpAnyH_take (i := 0) (v := .pointer (some ⟨p8, 2, none⟩)) rfl (by kernel_rfl) (by kernel_rfl) (by kernel_rfl) (fun _ _ _ h => h) (Yields.yieldsIf (Or.inl ⟨by rfl, fun w => by go_simp⟩)) ⟨ND.out, XD.out, HD.out, OD.out⟩ ?_
        try simp only [Act.put, List.getElem_toArray, List.getElem_cons_zero, List.getElem_cons_succ, List.setIfInBounds_toArray, List.set_cons_zero, List.set_cons_succ]
        refine wpAnyH_take (i := 1) (v := .slice a8 n8 c8) rfl (by kernel_rfl) (by kernel_rfl) (by kernel_rfl) (fun _ _ _ h => h) (Or.inl ⟨by rfl, fun w9 h9 => by have h5 := h9.1.cell (j := 2) rfl; have h6 := h9.2.1.cell (j := 2) rfl; go_simp⟩) ⟨ND.out, XD.out, HD.out, OD.out⟩ ?_
        try simp only [Act.put, List.getElem_toArray, List.getElem_cons_zero, List.getElem_cons_succ, List.setIfInBounds_toArray, List.set_cons_zero, List.set_cons_succ]
        refine wpAnyH_take (i := 2) (v := .int .i64 (n8 : Int)) rfl (by kernel_rfl) (by kernel_rfl) (by kernel_rfl) (fun _ _ _ h => h) (Yields.yieldsIf (Or.inl ⟨by rfl, fun w => by go_simp⟩)) ⟨ND.out, XD.out, HD.out, OD.out⟩ ?_
        try simp only [Act.put, List.getElem_toArray, List.getElem_cons_zero, List.getElem_cons_succ, List.setIfInBounds_toArray, List.set_cons_zero, List.set_cons_succ]
        refine wpAnyH_take (i := 3) (v := .int .i64 (n4 : Int)) rfl (by kernel_rfl) (by kernel_rfl) (by kernel_rfl) (fun _ _ _ h => h) (Yields.yieldsIf (Or.inl ⟨by rfl, fun w => by go_simp⟩)) ⟨ND.out, XD.out, HD.out, OD.out⟩ ?_
        try simp only [Act.put, List.getElem_toArray, List.getElem_cons_zero, List.getElem_cons_succ, List.setIfInBounds_toArray, List.set_cons_zero, List.set_cons_succ]
        refine wpAnyH_take (i := 4) (v := .bool false) rfl (by kernel_rfl) (by kernel_rfl) (by kernel_rfl) (fun _ _ _ h => h) (Yields.yieldsIf (Or.inl ⟨by rfl, fun w => by go_simp⟩)) ⟨ND.out, XD.out, HD.out, OD.out⟩ ?_
        try simp only [Act.put, List.getElem_toArray, List.getElem_cons_zero, List.getElem_cons_succ, List.setIfInBounds_toArray, List.set_cons_zero, List.set_cons_succ]
        refine wpAnyH_take (i := 5) (v := .bool false) rfl (by kernel_rfl) (by kernel_rfl) (by kernel_rfl) (fun _ _ _ h => h) (Yields.yieldsIf (Or.inl ⟨by rfl, fun w => by go_simp⟩)) ⟨ND.out, XD.out, HD.out, OD.out⟩ ?_
        try simp only [Act.put, List.getElem_toArray, List.getElem_cons_zero, List.getElem_cons_succ, List.setIfInBounds_toArray, List.set_cons_zero, List.set_cons_succ]
        refine wpAnyH_take (i := 6) (v := .pointer (some ⟨p8, 2, none⟩)) rfl (by kernel_rfl) (by kernel_rfl) (by kernel_rfl) (fun _ _ _ h => h) (Yields.yieldsIf (Or.inl ⟨by rfl, fun w => by go_simp⟩)) ⟨ND.out, XD.out, HD.out, OD.out⟩ ?_
        try simp only [Act.put, List.getElem_toArray, List.getElem_cons_zero, List.getElem_cons_succ, List.setIfInBounds_toArray, List.set_cons_zero, List.set_cons_succ]
        refine wpAnyH_take (i := 7) (v := .slice a8 n8 c8) rfl (by kernel_rfl) (by kernel_rfl) (by kernel_rfl) (fun _ _ _ h => h) (Or.inl ⟨by rfl, fun w9 h9 => by have h5 := h9.1.cell (j := 2) rfl; have h6 := h9.2.1.cell (j := 2) rfl; go_simp⟩) ⟨ND.out, XD.out, HD.out, OD.out⟩ ?_
        try simp only [Act.put, List.getElem_toArray, List.getElem_cons_zero, List.getElem_cons_succ, List.setIfInBounds_toArray, List.set_cons_zero, List.set_cons_succ]
        refine wpAnyH_take (i := 8) (v := .int .i64 (n4 : Int)) rfl (by kernel_rfl) (by kernel_rfl) (by kernel_rfl) (fun _ _ _ h => h) (Yields.yieldsIf (Or.inl ⟨by rfl, fun w => by go_simp⟩)) ⟨ND.out, XD.out, HD.out, OD.out⟩ ?_
        try simp only [Act.put, List.getElem_toArray, List.getElem_cons_zero, List.getElem_cons_succ, List.setIfInBounds_toArray, List.set_cons_zero, List.set_cons_succ]
        refine wpAnyH_take (i := 9) (v := .slice ah n4 ch) rfl (by kernel_rfl) (by kernel_rfl) (by kernel_rfl) (fun _ _ _ h => h) (Yields.yieldsIf (Or.inl ⟨by rfl, fun w => by go_simp⟩)) ⟨ND.out, XD.out, HD.out, OD.out⟩ ?_
        try simp only [Act.put, List.getElem_toArray, List.getElem_cons_zero, List.getElem_cons_succ, List.setIfInBounds_toArray, List.set_cons_zero, List.set_cons_succ]
        refine wpAnyH_take (i := 10) (v := sv ot) rfl (by kernel_rfl) (by kernel_rfl) (by kernel_rfl) (fun _ _ _ h => h) (Or.inl ⟨by rfl, fun w9 h9 => by have h8 := conv_sv h9.2.2.1; go_simp⟩) ⟨ND.out, XD.out, HD.out, OD.out⟩ ?_
        try simp only [Act.put, List.getElem_toArray, List.getElem_cons_zero, List.getElem_cons_succ, List.setIfInBounds_toArray, List.set_cons_zero, List.set_cons_succ]
        refine wpAnyH_take (i := 11) (v := .pointer (some ⟨p4, 2, none⟩)) rfl (by kernel_rfl) (by kernel_rfl) (by kernel_rfl) (fun _ _ _ h => h) (Yields.yieldsIf (Or.inl ⟨by rfl, fun w => by go_simp⟩)) ⟨ND.out, XD.out, HD.out, OD.out⟩ ?_
        try simp only [Act.put, List.getElem_toArray, List.getElem_cons_zero, List.getElem_cons_succ, List.setIfInBounds_toArray, List.set_cons_zero, List.set_cons_succ]
        refine wpAnyH_take (i := 12) (v := .slice a4 n4 c4) rfl (by kernel_rfl) (by kernel_rfl) (by kernel_rfl) (fun _ _ _ h => h) (Or.inl ⟨by rfl, fun w9 h9 => by have h5 := h9.1.cell (j := 2) rfl; have h6 := h9.2.1.cell (j := 2) rfl; go_simp⟩) ⟨ND.out, XD.out, HD.out, OD.out⟩ ?_
        try simp only [Act.put, List.getElem_toArray, List.getElem_cons_zero, List.getElem_cons_succ, List.setIfInBounds_toArray, List.set_cons_zero, List.set_cons_succ]
        refine wpAnyH_take (i := 13) (v := sv ot) rfl (by kernel_rfl) (by kernel_rfl) (by kernel_rfl) (fun _ _ _ h => h) (Or.inl ⟨by rfl, fun w9 h9 => by have h8 := conv_sv h9.2.2.2; go_simp⟩) ⟨ND.out, XD.out, HD.out, OD.out⟩ ?_
        try simp only [Act.put, List.getElem_toArray, List.getElem_cons_zero, List.getElem_cons_succ, List.setIfInBounds_toArray, List.set_cons_zero, List.set_cons_succ]
        refine wpAnyH_take (i := 14) (v := .bool false) rfl (by kernel_rfl) (by kernel_rfl) (by kernel_rfl) (fun _ _ _ h => h) (Or.inl ⟨by rfl, fun w9 _ => ex_ne9 (.tmp 89) (.tmp 92) 9 rfl rfl rfl (by simp)⟩) ⟨ND.out, XD.out, HD.out, OD.out⟩ ?_
        try simp only [Act.put, List.getElem_toArray, List.getElem_cons_zero, List.getElem_cons_succ, List.setIfInBounds_toArray, List.set_cons_zero, List.set_cons_succ]
        refine wpAnyH_take (i := 15) (v := .bool false) rfl (by kernel_rfl) (by kernel_rfl) (by kernel_rfl) (fun _ _ _ h => h) (Yields.yieldsIf (Or.inl ⟨by rfl, fun w => by go_simp⟩)) ⟨ND.out, XD.out, HD.out, OD.out⟩ ?_
        try simp only [Act.put, List.getElem_toArray, List.getElem_cons_zero, List.getElem_cons_succ, List.setIfInBounds_toArray, List.set_cons_zero, List.set_cons_succ]
        refine wpAnyH_done (by kernel_rfl) ?_ _
        have VT := conv_sv UD.out
        have VR := conv_sv RD.out
        have yd1 : V9.cell? ⟨w.heap.size + 1, 1, none⟩ = some (.bool false) := JD.out.cell rfl
        have yd2 : V9.cell? ⟨w.heap.size + 1, 2, none⟩ = some (.slice ra rn rc) := JD.out.cell rfl
        have vd1 : V9.cell? ⟨p8, 1, none⟩ = some (.bool false) := ND.out.cell rfl
        have vd2 : V9.cell? ⟨p8, 2, none⟩ = some (.slice a8 n8 c8) := ND.out.cell rfl
        have zd2 : V9.cell? ⟨p4, 2, none⟩ = some (.slice a4 n4 c4) := XD.out.cell rfl
        clear hsh
        go_wp2_with (refine wl_eq9 (.tmp 103) (.tmp 106) 9 rfl rfl rfl rfl HRP.out ?_)
        go_ret
        exact ⟨rfl, LD.out⟩
      case false.true =>
        dsimp only [Bool.or] at *
        generalize hw9 : w8.alloc (.cells #[.bool true, .bool true, .slice a8 n8 c8] 24) = w9 at *
        obtain ⟨p8, hp8⟩ : ∃ p, p = w8.heap.size := ⟨_, rfl⟩
        go_upto_region 9 with fail
        clear hw9
        rw [← hp8] at N8 ⊢
        clear hp8
        have yc1 : w9.cell? ⟨w.heap.size + 1, 1, none⟩ = some (.bool true) := J8.out.cell rfl
        have vc1 : w9.cell? ⟨p8, 1, none⟩ = some (.bool true) := N8.out.cell rfl
        have vc2 : w9.cell? ⟨p8, 2, none⟩ = some (.slice a8 n8 c8) := N8.out.cell rfl
        have zc1 : w9.cell? ⟨p4, 1, none⟩ = some (.bool false) := X8.out.cell rfl
        have zc2 : w9.cell? ⟨p4, 2, none⟩ = some (.slice a4 n4 c4) := X8.out.cell rfl
        have HNN : Hid (N = ot ++ ((if enl ot then [] else [10]) ++ tel t)) := by rw [HNE.out]; exact bht_lines rfl ot t
        obtain ⟨TE, hTE⟩ : ∃ TE, TE = tel t := ⟨_, rfl⟩
        have HTEE := Hid.mk' hTE
        obtain ⟨R, hR⟩ : ∃ R, R = (if enl ot then [] else [10]) ++ TE := ⟨_, rfl⟩
        have HRR := Hid.mk' hR
        have HNR : Hid (N = ot ++ R) := by unfold Hid; rw [hR, hTE]; exact HNN.out
        clear hTE hR HNN
        have hlN : N.length = n8 := T8.out.len
        have hnn : n4 ≤ n8 := by rw [← hlN, HNR.out, List.length_append, HN4.out]; omega
        have hnnI : ¬ (n8 : Int) < (n4 : Int) := by omega
        obtain ⟨ah, ch, hsh, hTh⟩ := sl_h T8.out (m := n4) hnn
        obtain ⟨al, cl, hsl, hTl⟩ := sl_l T8.out (lo := n4) (z := (n4 : Int)) hnn rfl
        have hdr : N.drop n4 = R := by rw [HNR.out, HN4.out, List.drop_left]
        have htk : N.take n4 = ot := by rw [HNR.out, HN4.out, List.take_left]
        rw [htk] at hTh
        rw [hdr] at hTl
        go_upto_region 14 with fail
        have ND : Hid (Blk w9.drew p8 24 #[.bool true, .bool true, .slice a8 n8 c8]) := N8.out
        have XD : Hid (Blk w9.drew p4 24 #[.bool true, .bool false, .slice a4 n4 c4]) := X8.out
        have JD : Hid (Blk w9.drew (w.heap.size + 1) 24 #[.bool rs, .bool true, .slice ra rn rc]) := J8.out
        have HD : Hid (Tx w9.drew ah n4 ch ot) := hTh.keep (Below.refl _ _).drew
        have RD : Hid (Tx w9.drew al (n8 - n4) cl R) := hTl.keep (Below.refl _ _).drew
        have OD : Hid (Tx w9.drew a4 n4 c4 ot) := T4b.out.keep (Below.refl _ _).drew
        have UD : Hid (Tx w9.drew ra rn rc t) := U8.out.keep (Below.refl _ _).drew
        have LD : Hid (Below w.heap.size w w9.drew) := L8.out.drew
        clear hTh hTl hdr htk hlN N8 X8 J8 T8 U8 L8 T4b yc1 vc1 vc2 zc1 zc2
        refine wp_region_held (S := fun w' => Blk w' p8 24 #[.bool true, .bool true, .slice a8 n8 c8] ∧ Blk w' p4 24 #[.bool true, .bool false, .slice a4 n4 c4] ∧ Tx w' ah n4 ch ot ∧ Tx w' a4 n4 c4 ot) (by kernel_rfl) ?_
        change wpAnyH _ _ _ _ _ _ _ _ (World.drew _)
        generalize w9.drew = V9 at *
        refine wpAnyH_take (i := 0) (v := .pointer (some ⟨p8, 2, none⟩)) rfl (by kernel_rfl) (by kernel_rfl) (by kernel_rfl) (fun _ _ _ h => h) (Yields.yieldsIf (Or.inl ⟨by rfl, fun w => by go_simp⟩)) ⟨ND.out, XD.out, HD.out, OD.out⟩ ?_
        try simp only [Act.put, List.getElem_toArray, List.getElem_cons_zero, List.getElem_cons_succ, List.setIfInBounds_toArray, List.set_cons_zero, List.set_cons_succ]
        refine wpAnyH_take (i := 1) (v := .slice a8 n8 c8) rfl (by kernel_rfl) (by kernel_rfl) (by kernel_rfl) (fun _ _ _ h => h) (Or.inl ⟨by rfl, fun w9 h9 => by have h5 := h9.1.cell (j := 2) rfl; have h6 := h9.2.1.cell (j := 2) rfl; go_simp⟩) ⟨ND.out, XD.out, HD.out, OD.out⟩ ?_
        try simp only [Act.put, List.getElem_toArray, List.getElem_cons_zero, List.getElem_cons_succ, List.setIfInBounds_toArray, List.set_cons_zero, List.set_cons_succ]
        refine wpAnyH_take (i := 2) (v := .int .i64 (n8 : Int)) rfl (by kernel_rfl) (by kernel_rfl) (by kernel_rfl) (fun _ _ _ h => h) (Yields.yieldsIf (Or.inl ⟨by rfl, fun w => by go_simp⟩)) ⟨ND.out, XD.out, HD.out, OD.out⟩ ?_
        try simp only [Act.put, List.getElem_toArray, List.getElem_cons_zero, List.getElem_cons_succ, List.setIfInBounds_toArray, List.set_cons_zero, List.set_cons_succ]
        refine wpAnyH_take (i := 3) (v := .int .i64 (n4 : Int)) rfl (by kernel_rfl) (by kernel_rfl) (by kernel_rfl) (fun _ _ _ h => h) (Yields.yieldsIf (Or.inl ⟨by rfl, fun w => by go_simp⟩)) ⟨ND.out, XD.out, HD.out, OD.out⟩ ?_
        try simp only [Act.put, List.getElem_toArray, List.getElem_cons_zero, List.getElem_cons_succ, List.setIfInBounds_toArray, List.set_cons_zero, List.set_cons_succ]
        refine wpAnyH_take (i := 4) (v := .bool false) rfl (by kernel_rfl) (by kernel_rfl) (by kernel_rfl) (fun _ _ _ h => h) (Yields.yieldsIf (Or.inl ⟨by rfl, fun w => by go_simp⟩)) ⟨ND.out, XD.out, HD.out, OD.out⟩ ?_
        try simp only [Act.put, List.getElem_toArray, List.getElem_cons_zero, List.getElem_cons_succ, List.setIfInBounds_toArray, List.set_cons_zero, List.set_cons_succ]
        refine wpAnyH_take (i := 5) (v := .bool false) rfl (by kernel_rfl) (by kernel_rfl) (by kernel_rfl) (fun _ _ _ h => h) (Yields.yieldsIf (Or.inl ⟨by rfl, fun w => by go_simp⟩)) ⟨ND.out, XD.out, HD.out, OD.out⟩ ?_
        try simp only [Act.put, List.getElem_toArray, List.getElem_cons_zero, List.getElem_cons_succ, List.setIfInBounds_toArray, List.set_cons_zero, List.set_cons_succ]
        refine wpAnyH_take (i := 6) (v := .pointer (some ⟨p8, 2, none⟩)) rfl (by kernel_rfl) (by kernel_rfl) (by kernel_rfl) (fun _ _ _ h => h) (Yields.yieldsIf (Or.inl ⟨by rfl, fun w => by go_simp⟩)) ⟨ND.out, XD.out, HD.out, OD.out⟩ ?_
        try simp only [Act.put, List.getElem_toArray, List.getElem_cons_zero, List.getElem_cons_succ, List.setIfInBounds_toArray, List.set_cons_zero, List.set_cons_succ]
        refine wpAnyH_take (i := 7) (v := .slice a8 n8 c8) rfl (by kernel_rfl) (by kernel_rfl) (by kernel_rfl) (fun _ _ _ h => h) (Or.inl ⟨by rfl, fun w9 h9 => by have h5 := h9.1.cell (j := 2) rfl; have h6 := h9.2.1.cell (j := 2) rfl; go_simp⟩) ⟨ND.out, XD.out, HD.out, OD.out⟩ ?_
        try simp only [Act.put, List.getElem_toArray, List.getElem_cons_zero, List.getElem_cons_succ, List.setIfInBounds_toArray, List.set_cons_zero, List.set_cons_succ]
        refine wpAnyH_take (i := 8) (v := .int .i64 (n4 : Int)) rfl (by kernel_rfl) (by kernel_rfl) (by kernel_rfl) (fun _ _ _ h => h) (Yields.yieldsIf (Or.inl ⟨by rfl, fun w => by go_simp⟩)) ⟨ND.out, XD.out, HD.out, OD.out⟩ ?_
        try simp only [Act.put, List.getElem_toArray, List.getElem_cons_zero, List.getElem_cons_succ, List.setIfInBounds_toArray, List.set_cons_zero, List.set_cons_succ]
        refine wpAnyH_take (i := 9) (v := .slice ah n4 ch) rfl (by kernel_rfl) (by kernel_rfl) (by kernel_rfl) (fun _ _ _ h => h) (Yields.yieldsIf (Or.inl ⟨by rfl, fun w => by go_simp⟩)) ⟨ND.out, XD.out, HD.out, OD.out⟩ ?_
        try simp only [Act.put, List.getElem_toArray, List.getElem_cons_zero, List.getElem_cons_succ, List.setIfInBounds_toArray, List.set_cons_zero, List.set_cons_succ]
        refine wpAnyH_take (i := 10) (v := sv ot) rfl (by kernel_rfl) (by kernel_rfl) (by kernel_rfl) (fun _ _ _ h => h) (Or.inl ⟨by rfl, fun w9 h9 => by have h8 := conv_sv h9.2.2.1; go_simp⟩) ⟨ND.out, XD.out, HD.out, OD.out⟩ ?_
        try simp only [Act.put, List.getElem_toArray, List.getElem_cons_zero, List.getElem_cons_succ, List.setIfInBounds_toArray, List.set_cons_zero, List.set_cons_succ]
        refine wpAnyH_take (i := 11) (v := .pointer (some ⟨p4, 2, none⟩)) rfl (by kernel_rfl) (by kernel_rfl) (by kernel_rfl) (fun _ _ _ h => h) (Yields.yieldsIf (Or.inl ⟨by rfl, fun w => by go_simp⟩)) ⟨ND.out, XD.out, HD.out, OD.out⟩ ?_
        try simp only [Act.put, List.getElem_toArray, List.getElem_cons_zero, List.getElem_cons_succ, List.setIfInBounds_toArray, List.set_cons_zero, List.set_cons_succ]
        refine wpAnyH_take (i := 12) (v := .slice a4 n4 c4) rfl (by kernel_rfl) (by kernel_rfl) (by kernel_rfl) (fun _ _ _ h => h) (Or.inl ⟨by rfl, fun w9 h9 => by have h5 := h9.1.cell (j := 2) rfl; have h6 := h9.2.1.cell (j := 2) rfl; go_simp⟩) ⟨ND.out, XD.out, HD.out, OD.out⟩ ?_
        try simp only [Act.put, List.getElem_toArray, List.getElem_cons_zero, List.getElem_cons_succ, List.setIfInBounds_toArray, List.set_cons_zero, List.set_cons_succ]
        refine wpAnyH_take (i := 13) (v := sv ot) rfl (by kernel_rfl) (by kernel_rfl) (by kernel_rfl) (fun _ _ _ h => h) (Or.inl ⟨by rfl, fun w9 h9 => by have h8 := conv_sv h9.2.2.2; go_simp⟩) ⟨ND.out, XD.out, HD.out, OD.out⟩ ?_
        try simp only [Act.put, List.getElem_toArray, List.getElem_cons_zero, List.getElem_cons_succ, List.setIfInBounds_toArray, List.set_cons_zero, List.set_cons_succ]
        refine wpAnyH_take (i := 14) (v := .bool false) rfl (by kernel_rfl) (by kernel_rfl) (by kernel_rfl) (fun _ _ _ h => h) (Or.inl ⟨by rfl, fun w9 _ => ex_ne9 (.tmp 89) (.tmp 92) 9 rfl rfl rfl (by simp)⟩) ⟨ND.out, XD.out, HD.out, OD.out⟩ ?_
        try simp only [Act.put, List.getElem_toArray, List.getElem_cons_zero, List.getElem_cons_succ, List.setIfInBounds_toArray, List.set_cons_zero, List.set_cons_succ]
        refine wpAnyH_take (i := 15) (v := .bool false) rfl (by kernel_rfl) (by kernel_rfl) (by kernel_rfl) (fun _ _ _ h => h) (Yields.yieldsIf (Or.inl ⟨by rfl, fun w => by go_simp⟩)) ⟨ND.out, XD.out, HD.out, OD.out⟩ ?_
        try simp only [Act.put, List.getElem_toArray, List.getElem_cons_zero, List.getElem_cons_succ, List.setIfInBounds_toArray, List.set_cons_zero, List.set_cons_succ]
        refine wpAnyH_done (by kernel_rfl) ?_ _
        have VT := conv_sv UD.out
        have VR := conv_sv RD.out
        have yd1 : V9.cell? ⟨w.heap.size + 1, 1, none⟩ = some (.bool true) := JD.out.cell rfl
        have yd2 : V9.cell? ⟨w.heap.size + 1, 2, none⟩ = some (.slice ra rn rc) := JD.out.cell rfl
        have vd1 : V9.cell? ⟨p8, 1, none⟩ = some (.bool true) := ND.out.cell rfl
        have vd2 : V9.cell? ⟨p8, 2, none⟩ = some (.slice a8 n8 c8) := ND.out.cell rfl
        have zd2 : V9.cell? ⟨p4, 2, none⟩ = some (.slice a4 n4 c4) := XD.out.cell rfl
        clear hsh
        go_upto_region 19 with fail
        clear vd1 vd2 hsl VR
        by_cases ho0 : ot = []
        · have henl : enl ot = false := by rw [ho0]; rfl
          have hn40 : n4 = 0 := by rw [HN4.out, ho0]; rfl
          subst hn40
          have HRC : Hid (R = 10 :: TE) := by unfold Hid; rw [HRR.out, henl]; simp
          clear henl ho0
          go_upto_region 20 with fail
          rw [HRC.out]
          unfold sv
          go_upto_region 23 with fail
          rw [ext1]
          have HTE : Hid (decide (TE = t) = true) := by
            have h1 := HLT.out rfl
            unfold Hid
            rw [HTEE.out]
            unfold tel
            rw [if_neg (by rintro rfl; cases h1)]
            unfold wle
            rw [if_pos h1]
            simp
          go_wp2_with (first | (refine wl_eq9 (.tmp 150) (.tmp 151) 9 rfl rfl rfl rfl HTE.out ?_))
          go_ret
          exact ⟨rfl, LD.out⟩
        · have hlp := List.length_pos_iff.2 ho0
          have hn41 : 0 < n4 := by rw [HN4.out]; exact hlp
          have hk0 : ((n4 : Int) == 0) = false := by simp; omega
          have hk1 : ¬ (n4 : Int) = 0 := by omega
          have hk2 : IntKind.i64.wrap ((n4 : Int) - 1) = ((n4 - 1 : Nat) : Int) := by have := HN4B.out; rw [IntKind.wrap_i64]; omega
          have hk3 : (0 : Int) ≤ ((n4 - 1 : Nat) : Int) := by omega
          have hk4 : ((n4 - 1 : Nat) : Int) < (n4 : Int) := by omega
          obtain ⟨go4, oo4, ea4, hco⟩ := OD.out.at hn41
          subst ea4
          have hcl := hco (n4 - 1) (by omega)
          obtain ⟨m4, hm4⟩ : ∃ m, m = n4 - 1 := ⟨_, rfl⟩
          have HM4 := Hid.mk' hm4
          rw [← hm4] at hcl hk2 hk3 hk4
          clear hm4 hco
          cases henl : enl ot with
          | true =>
            have hb10 : at8 ot m4 = 10 := by rw [HM4.out, HN4.out]; exact enl_at10 ho0 henl
            rw [hb10] at hcl
            have HRT : Hid (R = TE) := by unfold Hid; rw [HRR.out, henl]; simp
            have hcl2 : V9.cell? ⟨go4, oo4 + m4, none⟩ = some (.int .u8 10) := hcl
            clear henl hb10 ho0 hlp hcl
            go_upto_region 23 with fail
            rw [HRT.out]
            have HTE : Hid (decide (TE = t) = true) := by
              have h1 := HLT.out rfl
              unfold Hid
              rw [HTEE.out]
              unfold tel
              rw [if_neg (by rintro rfl; cases h1)]
              unfold wle
              rw [if_pos h1]
              simp
            go_wp2_with (first | (refine wl_eq9 (.tmp 150) (.tmp 151) 9 rfl rfl rfl rfl HTE.out ?_))
            go_ret
            exact ⟨rfl, LD.out⟩
          | false =>
            have hb10 : at8 ot m4 ≠ 10 := by rw [HM4.out, HN4.out]; exact enl_no ho0 henl
            have hbi : (((at8 ot m4).toNat : Int) == 10) = false := by simp; intro h; exact hb10 (UInt8.toNat_inj.1 (by simpa using (by omega : (at8 ot m4).toNat = 10)))
            have hbj : ¬ ((at8 ot m4).toNat : Int) = 10 := by simpa using hbi
            have hbk : (((at8 ot m4).toNat : Int) != 10) = true := by unfold bne; rw [hbi]; rfl
            generalize ((at8 ot m4).toNat : Int) = bz at *
            have HRC : Hid (R = 10 :: TE) := by unfold Hid; rw [HRR.out, henl]; simp
            clear henl hb10 ho0 hlp
            go_upto_region 20 with fail
            rw [HRC.out]
            unfold sv
            go_upto_region 23 with fail
            rw [ext1]
            have HTE : Hid (decide (TE = t) = true) := by
              have h1 := HLT.out rfl
              unfold Hid
              rw [HTEE.out]
              unfold tel
              rw [if_neg (by rintro rfl; cases h1)]
              unfold wle
              rw [if_pos h1]
              simp
            go_wp2_with (first | (refine wl_eq9 (.tmp 150) (.tmp 151) 9 rfl rfl rfl rfl HTE.out ?_))
            go_ret
            exact ⟨rfl, LD.out⟩
      case true.false =>
        dsimp only [Bool.or] at *
        generalize hw9 : w8.alloc (.cells #[.bool true, .bool true, .slice a8 n8 c8] 24) = w9 at *
        obtain ⟨p8, hp8⟩ : ∃ p, p = w8.heap.size := ⟨_, rfl⟩
        go_upto_region 9 with fail
        clear hw9
        rw [← hp8] at N8 ⊢
        clear hp8
        have yc1 : w9.cell? ⟨w.heap.size + 1, 1, none⟩ = some (.bool false) := J8.out.cell rfl
        have vc1 : w9.cell? ⟨p8, 1, none⟩ = some (.bool true) := N8.out.cell rfl
        have vc2 : w9.cell? ⟨p8, 2, none⟩ = some (.slice a8 n8 c8) := N8.out.cell rfl
        have zc1 : w9.cell? ⟨p4, 1, none⟩ = some (.bool true) := X8.out.cell rfl
        have zc2 : w9.cell? ⟨p4, 2, none⟩ = some (.slice a4 n4 c4) := X8.out.cell rfl
        have HNN : Hid (N = ot ++ ((if enl ot then [] else [10]) ++ tel t)) := by rw [HNE.out]; exact bht_lines rfl ot t
        obtain ⟨TE, hTE⟩ : ∃ TE, TE = tel t := ⟨_, rfl⟩
        have HTEE := Hid.mk' hTE
        obtain ⟨R, hR⟩ : ∃ R, R = (if enl ot then [] else [10]) ++ TE := ⟨_, rfl⟩
        have HRR := Hid.mk' hR
        have HNR : Hid (N = ot ++ R) := by unfold Hid; rw [hR, hTE]; exact HNN.out
        clear hTE hR HNN
        have hlN : N.length = n8 := T8.out.len
        have hnn : n4 ≤ n8 := by rw [← hlN, HNR.out, List.length_append, HN4.out]; omega
        have hnnI : ¬ (n8 : Int) < (n4 : Int) := by omega
        obtain ⟨ah, ch, hsh, hTh⟩ := sl_h T8.out (m := n4) hnn
        obtain ⟨al, cl, hsl, hTl⟩ := sl_l T8.out (lo := n4) (z := (n4 : Int)) hnn rfl
        have hdr : N.drop n4 = R := by rw [HNR.out, HN4.out, List.drop_left]
        have htk : N.take n4 = ot := by rw [HNR.out, HN4.out, List.take_left]
        rw [htk] at hTh
        rw [hdr] at hTl
        go_upto_region 14 with fail
        have ND : Hid (Blk w9.drew p8 24 #[.bool true, .bool true, .slice a8 n8 c8]) := N8.out
        have XD : Hid (Blk w9.drew p4 24 #[.bool true, .bool true, .slice a4 n4 c4]) := X8.out
        have JD : Hid (Blk w9.drew (w.heap.size + 1) 24 #[.bool rs, .bool false, .slice ra rn rc]) := J8.out
        have HD : Hid (Tx w9.drew ah n4 ch ot) := hTh.keep (Below.refl _ _).drew
        have RD : Hid (Tx w9.drew al (n8 - n4) cl R) := hTl.keep (Below.refl _ _).drew
        have OD : Hid (Tx w9.drew a4 n4 c4 ot) := T4b.out.keep (Below.refl _ _).drew
        have UD : Hid (Tx w9.drew ra rn rc t) := U8.out.keep (Below.refl _ _).drew
        have LD : Hid (Below w.heap.size w w9.drew) := L8.out.drew
        clear hTh hTl hdr htk hlN N8 X8 J8 T8 U8 L8 T4b yc1 vc1 vc2 zc1 zc2
        refine wp_region_held (S := fun w' => Blk w' p8 24 #[.bool true, .bool true, .slice a8 n8 c8] ∧ Blk w' p4 24 #[.bool true, .bool true, .slice a4 n4 c4] ∧ Tx w' ah n4 ch ot ∧ Tx w' a4 n4 c4 ot) (by kernel_rfl) ?_
        change wpAnyH _ _ _ _ _ _ _ _ (World.drew _)
        generalize w9.drew = V9 at *
        refine wpAnyH_take (i := 0) (v := .pointer (some ⟨p8, 2, none⟩)) rfl (by kernel_rfl) (by kernel_rfl) (by kernel_rfl) (fun _ _ _ h => h) (Yields.yieldsIf (Or.inl ⟨by rfl, fun w => by go_simp⟩)) ⟨ND.out, XD.out, HD.out, OD.out⟩ ?_
        try simp only [Act.put, List.getElem_toArray, List.getElem_cons_zero, List.getElem_cons_succ, List.setIfInBounds_toArray, List.set_cons_zero, List.set_cons_succ]
        refine wpAnyH_take (i := 1) (v := .slice a8 n8 c8) rfl (by kernel_rfl) (by kernel_rfl) (by kernel_rfl) (fun _ _ _ h => h) (Or.inl ⟨by rfl, fun w9 h9 => by have h5 := h9.1.cell (j := 2) rfl; have h6 := h9.2.1.cell (j := 2) rfl; go_simp⟩) ⟨ND.out, XD.out, HD.out, OD.out⟩ ?_
        try simp only [Act.put, List.getElem_toArray, List.getElem_cons_zero, List.getElem_cons_succ, List.setIfInBounds_toArray, List.set_cons_zero, List.set_cons_succ]
        refine wpAnyH_take (i := 2) (v := .int .i64 (n8 : Int)) rfl (by kernel_rfl) (by kernel_rfl) (by kernel_rfl) (fun _ _ _ h => h) (Yields.yieldsIf (Or.inl ⟨by rfl, fun w => by go_simp⟩)) ⟨ND.out, XD.out, HD.out, OD.out⟩ ?_
        try simp only [Act.put, List.getElem_toArray, List.getElem_cons_zero, List.getElem_cons_succ, List.setIfInBounds_toArray, List.set_cons_zero, List.set_cons_succ]
        refine wpAnyH_take (i := 3) (v := .int .i64 (n4 : Int)) rfl (by kernel_rfl) (by kernel_rfl) (by kernel_rfl) (fun _ _ _ h => h) (Yields.yieldsIf (Or.inl ⟨by rfl, fun w => by go_simp⟩)) ⟨ND.out, XD.out, HD.out, OD.out⟩ ?_
        try simp only [Act.put, List.getElem_toArray, List.getElem_cons_zero, List.getElem_cons_succ, List.setIfInBounds_toArray, List.set_cons_zero, List.set_cons_succ]
        refine wpAnyH_take (i := 4) (v := .bool false) rfl (by kernel_rfl) (by kernel_rfl) (by kernel_rfl) (fun _ _ _ h => h) (Yields.yieldsIf (Or.inl ⟨by rfl, fun w => by go_simp⟩)) ⟨ND.out, XD.out, HD.out, OD.out⟩ ?_
        try simp only [Act.put, List.getElem_toArray, List.getElem_cons_zero, List.getElem_cons_succ, List.setIfInBounds_toArray, List.set_cons_zero, List.set_cons_succ]
        refine wpAnyH_take (i := 5) (v := .bool false) rfl (by kernel_rfl) (by kernel_rfl) (by kernel_rfl) (fun _ _ _ h => h) (Yields.yieldsIf (Or.inl ⟨by rfl, fun w => by go_simp⟩)) ⟨ND.out, XD.out, HD.out, OD.out⟩ ?_
        try simp only [Act.put, List.getElem_toArray, List.getElem_cons_zero, List.getElem_cons_succ, List.setIfInBounds_toArray, List.set_cons_zero, List.set_cons_succ]
        refine wpAnyH_take (i := 6) (v := .pointer (some ⟨p8, 2, none⟩)) rfl (by kernel_rfl) (by kernel_rfl) (by kernel_rfl) (fun _ _ _ h => h) (Yields.yieldsIf (Or.inl ⟨by rfl, fun w => by go_simp⟩)) ⟨ND.out, XD.out, HD.out, OD.out⟩ ?_
        try simp only [Act.put, List.getElem_toArray, List.getElem_cons_zero, List.getElem_cons_succ, List.setIfInBounds_toArray, List.set_cons_zero, List.set_cons_succ]
        refine wpAnyH_take (i := 7) (v := .slice a8 n8 c8) rfl (by kernel_rfl) (by kernel_rfl) (by kernel_rfl) (fun _ _ _ h => h) (Or.inl ⟨by rfl, fun w9 h9 => by have h5 := h9.1.cell (j := 2) rfl; have h6 := h9.2.1.cell (j := 2) rfl; go_simp⟩) ⟨ND.out, XD.out, HD.out, OD.out⟩ ?_
        try simp only [Act.put, List.getElem_toArray, List.getElem_cons_zero, List.getElem_cons_succ, List.setIfInBounds_toArray, List.set_cons_zero, List.set_cons_succ]
        refine wpAnyH_take (i := 8) (v := .int .i64 (n4 : Int)) rfl (by kernel_rfl) (by kernel_rfl) (by kernel_rfl) (fun _ _ _ h => h) (Yields.yieldsIf (Or.inl ⟨by rfl, fun w => by go_simp⟩)) ⟨ND.out, XD.out, HD.out, OD.out⟩ ?_
        try simp only [Act.put, List.getElem_toArray, List.getElem_cons_zero, List.getElem_cons_succ, List.setIfInBounds_toArray, List.set_cons_zero, List.set_cons_succ]
        refine wpAnyH_take (i := 9) (v := .slice ah n4 ch) rfl (by kernel_rfl) (by kernel_rfl) (by kernel_rfl) (fun _ _ _ h => h) (Yields.yieldsIf (Or.inl ⟨by rfl, fun w => by go_simp⟩)) ⟨ND.out, XD.out, HD.out, OD.out⟩ ?_
        try simp only [Act.put, List.getElem_toArray, List.getElem_cons_zero, List.getElem_cons_succ, List.setIfInBounds_toArray, List.set_cons_zero, List.set_cons_succ]
        refine wpAnyH_take (i := 10) (v := sv ot) rfl (by kernel_rfl) (by kernel_rfl) (by kernel_rfl) (fun _ _ _ h => h) (Or.inl ⟨by rfl, fun w9 h9 => by have h8 := conv_sv h9.2.2.1; go_simp⟩) ⟨ND.out, XD.out, HD.out, OD.out⟩ ?_
        try simp only [Act.put, List.getElem_toArray, List.getElem_cons_zero, List.getElem_cons_succ, List.setIfInBounds_toArray, List.set_cons_zero, List.set_cons_succ]
        refine wpAnyH_take (i := 11) (v := .pointer (some ⟨p4, 2, none⟩)) rfl (by kernel_rfl) (by kernel_rfl) (by kernel_rfl) (fun _ _ _ h => h) (Yields.yieldsIf (Or.inl ⟨by rfl, fun w => by go_simp⟩)) ⟨ND.out, XD.out, HD.out, OD.out⟩ ?_
        try simp only [Act.put, List.getElem_toArray, List.getElem_cons_zero, List.getElem_cons_succ, List.setIfInBounds_toArray, List.set_cons_zero, List.set_cons_succ]
        refine wpAnyH_take (i := 12) (v := .slice a4 n4 c4) rfl (by kernel_rfl) (by kernel_rfl) (by kernel_rfl) (fun _ _ _ h => h) (Or.inl ⟨by rfl, fun w9 h9 => by have h5 := h9.1.cell (j := 2) rfl; have h6 := h9.2.1.cell (j := 2) rfl; go_simp⟩) ⟨ND.out, XD.out, HD.out, OD.out⟩ ?_
        try simp only [Act.put, List.getElem_toArray, List.getElem_cons_zero, List.getElem_cons_succ, List.setIfInBounds_toArray, List.set_cons_zero, List.set_cons_succ]
        refine wpAnyH_take (i := 13) (v := sv ot) rfl (by kernel_rfl) (by kernel_rfl) (by kernel_rfl) (fun _ _ _ h => h) (Or.inl ⟨by rfl, fun w9 h9 => by have h8 := conv_sv h9.2.2.2; go_simp⟩) ⟨ND.out, XD.out, HD.out, OD.out⟩ ?_
        try simp only [Act.put, List.getElem_toArray, List.getElem_cons_zero, List.getElem_cons_succ, List.setIfInBounds_toArray, List.set_cons_zero, List.set_cons_succ]
        refine wpAnyH_take (i := 14) (v := .bool false) rfl (by kernel_rfl) (by kernel_rfl) (by kernel_rfl) (fun _ _ _ h => h) (Or.inl ⟨by rfl, fun w9 _ => ex_ne9 (.tmp 89) (.tmp 92) 9 rfl rfl rfl (by simp)⟩) ⟨ND.out, XD.out, HD.out, OD.out⟩ ?_
        try simp only [Act.put, List.getElem_toArray, List.getElem_cons_zero, List.getElem_cons_succ, List.setIfInBounds_toArray, List.set_cons_zero, List.set_cons_succ]
        refine wpAnyH_take (i := 15) (v := .bool false) rfl (by kernel_rfl) (by kernel_rfl) (by kernel_rfl) (fun _ _ _ h => h) (Yields.yieldsIf (Or.inl ⟨by rfl, fun w => by go_simp⟩)) ⟨ND.out, XD.out, HD.out, OD.out⟩ ?_
        try simp only [Act.put, List.getElem_toArray, List.getElem_cons_zero, List.getElem_cons_succ, List.setIfInBounds_toArray, List.set_cons_zero, List.set_cons_succ]
        refine wpAnyH_done (by kernel_rfl) ?_ _
        have VT := conv_sv UD.out
        have VR := conv_sv RD.out
        have yd1 : V9.cell? ⟨w.heap.size + 1, 1, none⟩ = some (.bool false) := JD.out.cell rfl
        have yd2 : V9.cell? ⟨w.heap.size + 1, 2, none⟩ = some (.slice ra rn rc) := JD.out.cell rfl
        have vd1 : V9.cell? ⟨p8, 1, none⟩ = some (.bool true) := ND.out.cell rfl
        have vd2 : V9.cell? ⟨p8, 2, none⟩ = some (.slice a8 n8 c8) := ND.out.cell rfl
        have zd2 : V9.cell? ⟨p4, 2, none⟩ = some (.slice a4 n4 c4) := XD.out.cell rfl
        clear hsh
        go_upto_region 19 with fail
        clear vd1 vd2 hsl VR
        by_cases ho0 : ot = []
        · have henl : enl ot = false := by rw [ho0]; rfl
          have hn40 : n4 = 0 := by rw [HN4.out, ho0]; rfl
          subst hn40
          have HRC : Hid (R = 10 :: TE) := by unfold Hid; rw [HRR.out, henl]; simp
          clear henl ho0
          go_upto_region 20 with fail
          rw [HRC.out]
          unfold sv
          go_upto_region 23 with fail
          rw [ext1]
          by_cases ht0 : t = []
          · have HTE : Hid (decide (TE = t) = true) := by unfold Hid; rw [HTEE.out, ht0]; rfl
            have HT0 : Hid (decide (t = []) = true) := by unfold Hid; rw [ht0]; rfl
            clear ht0
            go_wp2_with (first | (refine wl_eq9 (.tmp 134) (.tmp 135) 9 rfl rfl rfl rfl HTE.out ?_) | (refine wl_eq9 (x := t) (y := []) (b := true) (.tmp 138) (.const (.string ⟨#[]⟩)) 9 rfl rfl rfl rfl HT0.out ?_) | (refine wl_eq9 (.tmp 150) (.tmp 151) 9 rfl rfl rfl rfl HTE.out ?_))
            go_ret
            exact ⟨rfl, LD.out⟩
          · cases hte : enl t with
            | true =>
              have HTE : Hid (decide (TE = t) = true) := by
                unfold Hid
                rw [HTEE.out]
                unfold tel wle
                rw [if_neg ht0, if_pos hte]
                simp
              have HT0 : Hid (decide (t = []) = false) := by unfold Hid; simpa using ht0
              have hlp := List.length_pos_iff.2 ht0
              obtain ⟨lt1, hlt1⟩ : ∃ m, m = t.length - 1 := ⟨_, rfl⟩
              have hll : IntKind.i64.wrap ((t.length : Int) - 1) = (lt1 : Int) := by have := HTB.out; rw [IntKind.wrap_i64]; omega
              have HLA : Hid (t[lt1]? = some 10) := by rw [hlt1]; exact enl_last ht0 hte
              have hl9 := fun W => len_sv t W
              clear ht0 hte hlp hlt1
              go_wp2_with (first | (refine wl_eq9 (.tmp 134) (.tmp 135) 9 rfl rfl rfl rfl HTE.out ?_) | (refine wl_eq9 (x := t) (y := []) (b := false) (.tmp 138) (.const (.string ⟨#[]⟩)) 9 rfl rfl rfl rfl HT0.out ?_) | (refine wl_ix9 (x := t) (i := lt1) (v := 10) (z := 10) (.tmp 141) (.tmp 144) rfl rfl rfl rfl HLA.out rfl ?_) | (refine wl_eq9 (.tmp 150) (.tmp 151) 9 rfl rfl rfl rfl HTE.out ?_))
              go_ret
              exact ⟨rfl, LD.out⟩
            | false =>
              have HTE : Hid (decide (TE = t) = false) := by
                unfold Hid
                rw [HTEE.out]
                unfold tel wle
                rw [if_neg ht0, if_neg (by simp [hte])]
                simp
              obtain ⟨TZ, hTZ⟩ : ∃ z, z = t ++ [10] := ⟨_, rfl⟩
              have HTZ : Hid (t ++ [10] = TZ) := hTZ.symm
              have HTP : Hid (decide (TE = TZ) = true) := by
                rw [hTZ]
                unfold Hid
                rw [HTEE.out]
                unfold tel wle
                rw [if_neg ht0, if_neg (by simp [hte])]
                simp
              clear ht0 hte hTZ
              go_wp2_with (first | (refine wl_eq9 (.tmp 134) (.tmp 135) 9 rfl rfl rfl rfl HTE.out ?_) | (refine wl_add9 (x := t) (y := [10]) (z := TZ) (.tmp 154) (.const (.string ⟨#[10]⟩)) 9 rfl rfl rfl rfl (by have := HTB.out; simp; omega) HTZ.out ?_) | (refine wl_eq9 (.tmp 153) (.tmp 155) 9 rfl rfl rfl rfl HTP.out ?_))
              go_ret
              exact ⟨rfl, LD.out⟩
        · have hlp := List.length_pos_iff.2 ho0
          have hn41 : 0 < n4 := by rw [HN4.out]; exact hlp
          have hk0 : ((n4 : Int) == 0) = false := by simp; omega
          have hk1 : ¬ (n4 : Int) = 0 := by omega
          have hk2 : IntKind.i64.wrap ((n4 : Int) - 1) = ((n4 - 1 : Nat) : Int) := by have := HN4B.out; rw [IntKind.wrap_i64]; omega
          have hk3 : (0 : Int) ≤ ((n4 - 1 : Nat) : Int) := by omega
          have hk4 : ((n4 - 1 : Nat) : Int) < (n4 : Int) := by omega
          obtain ⟨go4, oo4, ea4, hco⟩ := OD.out.at hn41
          subst ea4
          have hcl := hco (n4 - 1) (by omega)
          obtain ⟨m4, hm4⟩ : ∃ m, m = n4 - 1 := ⟨_, rfl⟩
          have HM4 := Hid.mk' hm4
          rw [← hm4] at hcl hk2 hk3 hk4
          clear hm4 hco
          cases henl : enl ot with
          | true =>
            have hb10 : at8 ot m4 = 10 := by rw [HM4.out, HN4.out]; exact enl_at10 ho0 henl
            rw [hb10] at hcl
            have HRT : Hid (R = TE) := by unfold Hid; rw [HRR.out, henl]; simp
            have hcl2 : V9.cell? ⟨go4, oo4 + m4, none⟩ = some (.int .u8 10) := hcl
            clear henl hb10 ho0 hlp hcl
            go_upto_region 23 with fail
            rw [HRT.out]
            by_cases ht0 : t = []
            · have HTE : Hid (decide (TE = t) = true) := by unfold Hid; rw [HTEE.out, ht0]; rfl
              have HT0 : Hid (decide (t = []) = true) := by unfold Hid; rw [ht0]; rfl
              clear ht0
              go_wp2_with (first | (refine wl_eq9 (.tmp 134) (.tmp 135) 9 rfl rfl rfl rfl HTE.out ?_) | (refine wl_eq9 (x := t) (y := []) (b := true) (.tmp 138) (.const (.string ⟨#[]⟩)) 9 rfl rfl rfl rfl HT0.out ?_) | (refine wl_eq9 (.tmp 150) (.tmp 151) 9 rfl rfl rfl rfl HTE.out ?_))
              go_ret
              exact ⟨rfl, LD.out⟩
            · cases hte : enl t with
              | true =>
                have HTE : Hid (decide (TE = t) = true) := by
                  unfold Hid
                  rw [HTEE.out]
                  unfold tel wle
                  rw [if_neg ht0, if_pos hte]
                  simp
                have HT0 : Hid (decide (t = []) = false) := by unfold Hid; simpa using ht0
                have hlp := List.length_pos_iff.2 ht0
                obtain ⟨lt1, hlt1⟩ : ∃ m, m = t.length - 1 := ⟨_, rfl⟩
                have hll : IntKind.i64.wrap ((t.length : Int) - 1) = (lt1 : Int) := by have := HTB.out; rw [IntKind.wrap_i64]; omega
                have HLA : Hid (t[lt1]? = some 10) := by rw [hlt1]; exact enl_last ht0 hte
                have hl9 := fun W => len_sv t W
                clear ht0 hte hlp hlt1
                go_wp2_with (first | (refine wl_eq9 (.tmp 134) (.tmp 135) 9 rfl rfl rfl rfl HTE.out ?_) | (refine wl_eq9 (x := t) (y := []) (b := false) (.tmp 138) (.const (.string ⟨#[]⟩)) 9 rfl rfl rfl rfl HT0.out ?_) | (refine wl_ix9 (x := t) (i := lt1) (v := 10) (z := 10) (.tmp 141) (.tmp 144) rfl rfl rfl rfl HLA.out rfl ?_) | (refine wl_eq9 (.tmp 150) (.tmp 151) 9 rfl rfl rfl rfl HTE.out ?_))
                go_ret
                exact ⟨rfl, LD.out⟩
              | false =>
                have HTE : Hid (decide (TE = t) = false) := by
                  unfold Hid
                  rw [HTEE.out]
                  unfold tel wle
                  rw [if_neg ht0, if_neg (by simp [hte])]
                  simp
                obtain ⟨TZ, hTZ⟩ : ∃ z, z = t ++ [10] := ⟨_, rfl⟩
                have HTZ : Hid (t ++ [10] = TZ) := hTZ.symm
                have HTP : Hid (decide (TE = TZ) = true) := by
                  rw [hTZ]
                  unfold Hid
                  rw [HTEE.out]
                  unfold tel wle
                  rw [if_neg ht0, if_neg (by simp [hte])]
                  simp
                clear ht0 hte hTZ
                go_wp2_with (first | (refine wl_eq9 (.tmp 134) (.tmp 135) 9 rfl rfl rfl rfl HTE.out ?_) | (refine wl_add9 (x := t) (y := [10]) (z := TZ) (.tmp 154) (.const (.string ⟨#[10]⟩)) 9 rfl rfl rfl rfl (by have := HTB.out; simp; omega) HTZ.out ?_) | (refine wl_eq9 (.tmp 153) (.tmp 155) 9 rfl rfl rfl rfl HTP.out ?_))
                go_ret
                exact ⟨rfl, LD.out⟩
          | false =>
            have hb10 : at8 ot m4 ≠ 10 := by rw [HM4.out, HN4.out]; exact enl_no ho0 henl
            have hbi : (((at8 ot m4).toNat : Int) == 10) = false := by simp; intro h; exact hb10 (UInt8.toNat_inj.1 (by simpa using (by omega : (at8 ot m4).toNat = 10)))
            have hbj : ¬ ((at8 ot m4).toNat : Int) = 10 := by simpa using hbi
            have hbk : (((at8 ot m4).toNat : Int) != 10) = true := by unfold bne; rw [hbi]; rfl
            generalize ((at8 ot m4).toNat : Int) = bz at *
            have HRC : Hid (R = 10 :: TE) := by unfold Hid; rw [HRR.out, henl]; simp
            clear henl hb10 ho0 hlp
            go_upto_region 20 with fail
            rw [HRC.out]
            unfold sv
            go_upto_region 23 with fail
            rw [ext1]
            by_cases ht0 : t = []
            · have HTE : Hid (decide (TE = t) = true) := by unfold Hid; rw [HTEE.out, ht0]; rfl
              have HT0 : Hid (decide (t = []) = true) := by unfold Hid; rw [ht0]; rfl
              clear ht0
              go_wp2_with (first | (refine wl_eq9 (.tmp 134) (.tmp 135) 9 rfl rfl rfl rfl HTE.out ?_) | (refine wl_eq9 (x := t) (y := []) (b := true) (.tmp 138) (.const (.string ⟨#[]⟩)) 9 rfl rfl rfl rfl HT0.out ?_) | (refine wl_eq9 (.tmp 150) (.tmp 151) 9 rfl rfl rfl rfl HTE.out ?_))
              go_ret
              exact ⟨rfl, LD.out⟩
            · cases hte : enl t with
              | true =>
                have HTE : Hid (decide (TE = t) = true) := by
                  unfold Hid
                  rw [HTEE.out]
                  unfold tel wle
                  rw [if_neg ht0, if_pos hte]
                  simp
                have HT0 : Hid (decide (t = []) = false) := by unfold Hid; simpa using ht0
                have hlp := List.length_pos_iff.2 ht0
                obtain ⟨lt1, hlt1⟩ : ∃ m, m = t.length - 1 := ⟨_, rfl⟩
                have hll : IntKind.i64.wrap ((t.length : Int) - 1) = (lt1 : Int) := by have := HTB.out; rw [IntKind.wrap_i64]; omega
                have HLA : Hid (t[lt1]? = some 10) := by rw [hlt1]; exact enl_last ht0 hte
                have hl9 := fun W => len_sv t W
                clear ht0 hte hlp hlt1
                go_wp2_with (first | (refine wl_eq9 (.tmp 134) (.tmp 135) 9 rfl rfl rfl rfl HTE.out ?_) | (refine wl_eq9 (x := t) (y := []) (b := false) (.tmp 138) (.const (.string ⟨#[]⟩)) 9 rfl rfl rfl rfl HT0.out ?_) | (refine wl_ix9 (x := t) (i := lt1) (v := 10) (z := 10) (.tmp 141) (.tmp 144) rfl rfl rfl rfl HLA.out rfl ?_) | (refine wl_eq9 (.tmp 150) (.tmp 151) 9 rfl rfl rfl rfl HTE.out ?_))
                go_ret
                exact ⟨rfl, LD.out⟩
              | false =>
                have HTE : Hid (decide (TE = t) = false) := by
                  unfold Hid
                  rw [HTEE.out]
                  unfold tel wle
                  rw [if_neg ht0, if_neg (by simp [hte])]
                  simp
                obtain ⟨TZ, hTZ⟩ : ∃ z, z = t ++ [10] := ⟨_, rfl⟩
                have HTZ : Hid (t ++ [10] = TZ) := hTZ.symm
                have HTP : Hid (decide (TE = TZ) = true) := by
                  rw [hTZ]
                  unfold Hid
                  rw [HTEE.out]
                  unfold tel wle
                  rw [if_neg ht0, if_neg (by simp [hte])]
                  simp
                clear ht0 hte hTZ
                go_wp2_with (first | (refine wl_eq9 (.tmp 134) (.tmp 135) 9 rfl rfl rfl rfl HTE.out ?_) | (refine wl_add9 (x := t) (y := [10]) (z := TZ) (.tmp 154) (.const (.string ⟨#[10]⟩)) 9 rfl rfl rfl rfl (by have := HTB.out; simp; omega) HTZ.out ?_) | (refine wl_eq9 (.tmp 153) (.tmp 155) 9 rfl rfl rfl rfl HTP.out ?_))
                go_ret
                exact ⟨rfl, LD.out⟩
      case true.true =>
        dsimp only [Bool.or] at *
        generalize hw9 : w8.alloc (.cells #[.bool true, .bool true, .slice a8 n8 c8] 24) = w9 at *
        obtain ⟨p8, hp8⟩ : ∃ p, p = w8.heap.size := ⟨_, rfl⟩
        go_upto_region 9 with fail
        clear hw9
        rw [← hp8] at N8 ⊢
        clear hp8
        have yc1 : w9.cell? ⟨w.heap.size + 1, 1, none⟩ = some (.bool true) := J8.out.cell rfl
        have vc1 : w9.cell? ⟨p8, 1, none⟩ = some (.bool true) := N8.out.cell rfl
        have vc2 : w9.cell? ⟨p8, 2, none⟩ = some (.slice a8 n8 c8) := N8.out.cell rfl
        have zc1 : w9.cell? ⟨p4, 1, none⟩ = some (.bool true) := X8.out.cell rfl
        have zc2 : w9.cell? ⟨p4, 2, none⟩ = some (.slice a4 n4 c4) := X8.out.cell rfl
        have HNN : Hid (N = ot ++ ((if enl ot then [] else [10]) ++ tel t)) := by rw [HNE.out]; exact bht_lines rfl ot t
        obtain ⟨TE, hTE⟩ : ∃ TE, TE = tel t := ⟨_, rfl⟩
        have HTEE := Hid.mk' hTE
        obtain ⟨R, hR⟩ : ∃ R, R = (if enl ot then [] else [10]) ++ TE := ⟨_, rfl⟩
        have HRR := Hid.mk' hR
        have HNR : Hid (N = ot ++ R) := by unfold Hid; rw [hR, hTE]; exact HNN.out
        clear hTE hR HNN
        have hlN : N.length = n8 := T8.out.len
        have hnn : n4 ≤ n8 := by rw [← hlN, HNR.out, List.length_append, HN4.out]; omega
        have hnnI : ¬ (n8 : Int) < (n4 : Int) := by omega
        obtain ⟨ah, ch, hsh, hTh⟩ := sl_h T8.out (m := n4) hnn
        obtain ⟨al, cl, hsl, hTl⟩ := sl_l T8.out (lo := n4) (z := (n4 : Int)) hnn rfl
        have hdr : N.drop n4 = R := by rw [HNR.out, HN4.out, List.drop_left]
        have htk : N.take n4 = ot := by rw [HNR.out, HN4.out, List.take_left]
        rw [htk] at hTh
        rw [hdr] at hTl
        go_upto_region 14 with fail
        have ND : Hid (Blk w9.drew p8 24 #[.bool true, .bool true, .slice a8 n8 c8]) := N8.out
        have XD : Hid (Blk w9.drew p4 24 #[.bool true, .bool true, .slice a4 n4 c4]) := X8.out
        have JD : Hid (Blk w9.drew (w.heap.size + 1) 24 #[.bool rs, .bool true, .slice ra rn rc]) := J8.out
        have HD : Hid (Tx w9.drew ah n4 ch ot) := hTh.keep (Below.refl _ _).drew
        have RD : Hid (Tx w9.drew al (n8 - n4) cl R) := hTl.keep (Below.refl _ _).drew
        have OD : Hid (Tx w9.drew a4 n4 c4 ot) := T4b.out.keep (Below.refl _ _).drew
        have UD : Hid (Tx w9.drew ra rn rc t) := U8.out.keep (Below.refl _ _).drew
        have LD : Hid (Below w.heap.size w w9.drew) := L8.out.drew
        clear hTh hTl hdr htk hlN N8 X8 J8 T8 U8 L8 T4b yc1 vc1 vc2 zc1 zc2
        refine wp_region_held (S := fun w' => Blk w' p8 24 #[.bool true, .bool true, .slice a8 n8 c8] ∧ Blk w' p4 24 #[.bool true, .bool true, .slice a4 n4 c4] ∧ Tx w' ah n4 ch ot ∧ Tx w' a4 n4 c4 ot) (by kernel_rfl) ?_
        change wpAnyH _ _ _ _ _ _ _ _ (World.drew _)
        generalize w9.drew = V9 at *
        refine wpAnyH_take (i := 0) (v := .pointer (some ⟨p8, 2, none⟩)) rfl (by kernel_rfl) (by kernel_rfl) (by kernel_rfl) (fun _ _ _ h => h) (Yields.yieldsIf (Or.inl ⟨by rfl, fun w => by go_simp⟩)) ⟨ND.out, XD.out, HD.out, OD.out⟩ ?_
        try simp only [Act.put, List.getElem_toArray, List.getElem_cons_zero, List.getElem_cons_succ, List.setIfInBounds_toArray, List.set_cons_zero, List.set_cons_succ]
        refine wpAnyH_take (i := 1) (v := .slice a8 n8 c8) rfl (by kernel_rfl) (by kernel_rfl) (by kernel_rfl) (fun _ _ _ h => h) (Or.inl ⟨by rfl, fun w9 h9 => by have h5 := h9.1.cell (j := 2) rfl; have h6 := h9.2.1.cell (j := 2) rfl; go_simp⟩) ⟨ND.out, XD.out, HD.out, OD.out⟩ ?_
        try simp only [Act.put, List.getElem_toArray, List.getElem_cons_zero, List.getElem_cons_succ, List.setIfInBounds_toArray, List.set_cons_zero, List.set_cons_succ]
        refine wpAnyH_take (i := 2) (v := .int .i64 (n8 : Int)) rfl (by kernel_rfl) (by kernel_rfl) (by kernel_rfl) (fun _ _ _ h => h) (Yields.yieldsIf (Or.inl ⟨by rfl, fun w => by go_simp⟩)) ⟨ND.out, XD.out, HD.out, OD.out⟩ ?_
        try simp only [Act.put, List.getElem_toArray, List.getElem_cons_zero, List.getElem_cons_succ, List.setIfInBounds_toArray, List.set_cons_zero, List.set_cons_succ]
        refine wpAnyH_take (i := 3) (v := .int .i64 (n4 : Int)) rfl (by kernel_rfl) (by kernel_rfl) (by kernel_rfl) (fun _ _ _ h => h) (Yields.yieldsIf (Or.inl ⟨by rfl, fun w => by go_simp⟩)) ⟨ND.out, XD.out, HD.out, OD.out⟩ ?_
        try simp only [Act.put, List.getElem_toArray, List.getElem_cons_zero, List.getElem_cons_succ, List.setIfInBounds_toArray, List.set_cons_zero, List.set_cons_succ]
        refine wpAnyH_take (i := 4) (v := .bool false) rfl (by kernel_rfl) (by kernel_rfl) (by kernel_rfl) (fun _ _ _ h => h) (Yields.yieldsIf (Or.inl ⟨by rfl, fun w => by go_simp⟩)) ⟨ND.out, XD.out, HD.out, OD.out⟩ ?_
        try simp only [Act.put, List.getElem_toArray, List.getElem_cons_zero, List.getElem_cons_succ, List.setIfInBounds_toArray, List.set_cons_zero, List.set_cons_succ]
        refine wpAnyH_take (i := 5) (v := .bool false) rfl (by kernel_rfl) (by kernel_rfl) (by kernel_rfl) (fun _ _ _ h => h) (Yields.yieldsIf (Or.inl ⟨by rfl, fun w => by go_simp⟩)) ⟨ND.out, XD.out, HD.out, OD.out⟩ ?_
        try simp only [Act.put, List.getElem_toArray, List.getElem_cons_zero, List.getElem_cons_succ, List.setIfInBounds_toArray, List.set_cons_zero, List.set_cons_succ]
        refine wpAnyH_take (i := 6) (v := .pointer (some ⟨p8, 2, none⟩)) rfl (by kernel_rfl) (by kernel_rfl) (by kernel_rfl) (fun _ _ _ h => h) (Yields.yieldsIf (Or.inl ⟨by rfl, fun w => by go_simp⟩)) ⟨ND.out, XD.out, HD.out, OD.out⟩ ?_
        try simp only [Act.put, List.getElem_toArray, List.getElem_cons_zero, List.getElem_cons_succ, List.setIfInBounds_toArray, List.set_cons_zero, List.set_cons_succ]
        refine wpAnyH_take (i := 7) (v := .slice a8 n8 c8) rfl (by kernel_rfl) (by kernel_rfl) (by kernel_rfl) (fun _ _ _ h => h) (Or.inl ⟨by rfl, fun w9 h9 => by have h5 := h9.1.cell (j := 2) rfl; have h6 := h9.2.1.cell (j := 2) rfl; go_simp⟩) ⟨ND.out, XD.out, HD.out, OD.out⟩ ?_
        try simp only [Act.put, List.getElem_toArray, List.getElem_cons_zero, List.getElem_cons_succ, List.setIfInBounds_toArray, List.set_cons_zero, List.set_cons_succ]
        refine wpAnyH_take (i := 8) (v := .int .i64 (n4 : Int)) rfl (by kernel_rfl) (by kernel_rfl) (by kernel_rfl) (fun _ _ _ h => h) (Yields.yieldsIf (Or.inl ⟨by rfl, fun w => by go_simp⟩)) ⟨ND.out, XD.out, HD.out, OD.out⟩ ?_
        try simp only [Act.put, List.getElem_toArray, List.getElem_cons_zero, List.getElem_cons_succ, List.setIfInBounds_toArray, List.set_cons_zero, List.set_cons_succ]
        refine wpAnyH_take (i := 9) (v := .slice ah n4 ch) rfl (by kernel_rfl) (by kernel_rfl) (by kernel_rfl) (fun _ _ _ h => h) (Yields.yieldsIf (Or.inl ⟨by rfl, fun w => by go_simp⟩)) ⟨ND.out, XD.out, HD.out, OD.out⟩ ?_
        try simp only [Act.put, List.getElem_toArray, List.getElem_cons_zero, List.getElem_cons_succ, List.setIfInBounds_toArray, List.set_cons_zero, List.set_cons_succ]
        refine wpAnyH_take (i := 10) (v := sv ot) rfl (by kernel_rfl) (by kernel_rfl) (by kernel_rfl) (fun _ _ _ h => h) (Or.inl ⟨by rfl, fun w9 h9 => by have h8 := conv_sv h9.2.2.1; go_simp⟩) ⟨ND.out, XD.out, HD.out, OD.out⟩ ?_
        try simp only [Act.put, List.getElem_toArray, List.getElem_cons_zero, List.getElem_cons_succ, List.setIfInBounds_toArray, List.set_cons_zero, List.set_cons_succ]
        refine wpAnyH_take (i := 11) (v := .pointer (some ⟨p4, 2, none⟩)) rfl (by kernel_rfl) (by kernel_rfl) (by kernel_rfl) (fun _ _ _ h => h) (Yields.yieldsIf (Or.inl ⟨by rfl, fun w => by go_simp⟩)) ⟨ND.out, XD.out, HD.out, OD.out⟩ ?_
        try simp only [Act.put, List.getElem_toArray, List.getElem_cons_zero, List.getElem_cons_succ, List.setIfInBounds_toArray, List.set_cons_zero, List.set_cons_succ]
        refine wpAnyH_take (i := 12) (v := .slice a4 n4 c4) rfl (by kernel_rfl) (by kernel_rfl) (by kernel_rfl) (fun _ _ _ h => h) (Or.inl ⟨by rfl, fun w9 h9 => by have h5 := h9.1.cell (j := 2) rfl; have h6 := h9.2.1.cell (j := 2) rfl; go_simp⟩) ⟨ND.out, XD.out, HD.out, OD.out⟩ ?_
        try simp only [Act.put, List.getElem_toArray, List.getElem_cons_zero, List.getElem_cons_succ, List.setIfInBounds_toArray, List.set_cons_zero, List.set_cons_succ]
        refine wpAnyH_take (i := 13) (v := sv ot) rfl (by kernel_rfl) (by kernel_rfl) (by kernel_rfl) (fun _ _ _ h => h) (Or.inl ⟨by rfl, fun w9 h9 => by have h8 := conv_sv h9.2.2.2; go_simp⟩) ⟨ND.out, XD.out, HD.out, OD.out⟩ ?_
        try simp only [Act.put, List.getElem_toArray, List.getElem_cons_zero, List.getElem_cons_succ, List.setIfInBounds_toArray, List.set_cons_zero, List.set_cons_succ]
        refine wpAnyH_take (i := 14) (v := .bool false) rfl (by kernel_rfl) (by kernel_rfl) (by kernel_rfl) (fun _ _ _ h => h) (Or.inl ⟨by rfl, fun w9 _ => ex_ne9 (.tmp 89) (.tmp 92) 9 rfl rfl rfl (by simp)⟩) ⟨ND.out, XD.out, HD.out, OD.out⟩ ?_
        try simp only [Act.put, List.getElem_toArray, List.getElem_cons_zero, List.getElem_cons_succ, List.setIfInBounds_toArray, List.set_cons_zero, List.set_cons_succ]
        refine wpAnyH_take (i := 15) (v := .bool false) rfl (by kernel_rfl) (by kernel_rfl) (by kernel_rfl) (fun _ _ _ h => h) (Yields.yieldsIf (Or.inl ⟨by rfl, fun w => by go_simp⟩)) ⟨ND.out, XD.out, HD.out, OD.out⟩ ?_
        try simp only [Act.put, List.getElem_toArray, List.getElem_cons_zero, List.getElem_cons_succ, List.setIfInBounds_toArray, List.set_cons_zero, List.set_cons_succ]
        refine wpAnyH_done (by kernel_rfl) ?_ _
        have VT := conv_sv UD.out
        have VR := conv_sv RD.out
        have yd1 : V9.cell? ⟨w.heap.size + 1, 1, none⟩ = some (.bool true) := JD.out.cell rfl
        have yd2 : V9.cell? ⟨w.heap.size + 1, 2, none⟩ = some (.slice ra rn rc) := JD.out.cell rfl
        have vd1 : V9.cell? ⟨p8, 1, none⟩ = some (.bool true) := ND.out.cell rfl
        have vd2 : V9.cell? ⟨p8, 2, none⟩ = some (.slice a8 n8 c8) := ND.out.cell rfl
        have zd2 : V9.cell? ⟨p4, 2, none⟩ = some (.slice a4 n4 c4) := XD.out.cell rfl
        clear hsh
        go_upto_region 19 with fail
        clear vd1 vd2 hsl VR
        by_cases ho0 : ot = []
        · have henl : enl ot = false := by rw [ho0]; rfl
          have hn40 : n4 = 0 := by rw [HN4.out, ho0]; rfl
          subst hn40
          have HRC : Hid (R = 10 :: TE) := by unfold Hid; rw [HRR.out, henl]; simp
          clear henl ho0
          go_upto_region 20 with fail
          rw [HRC.out]
          unfold sv
          go_upto_region 23 with fail
          rw [ext1]
          have HTE : Hid (decide (TE = t) = true) := by
            have h1 := HLT.out rfl
            unfold Hid
            rw [HTEE.out]
            unfold tel
            rw [if_neg (by rintro rfl; cases h1)]
            unfold wle
            rw [if_pos h1]
            simp
          go_wp2_with (first | (refine wl_eq9 (.tmp 150) (.tmp 151) 9 rfl rfl rfl rfl HTE.out ?_))
          go_ret
          exact ⟨rfl, LD.out⟩
        · have hlp := List.length_pos_iff.2 ho0
          have hn41 : 0 < n4 := by rw [HN4.out]; exact hlp
          have hk0 : ((n4 : Int) == 0) = false := by simp; omega
          have hk1 : ¬ (n4 : Int) = 0 := by omega
          have hk2 : IntKind.i64.wrap ((n4 : Int) - 1) = ((n4 - 1 : Nat) : Int) := by have := HN4B.out; rw [IntKind.wrap_i64]; omega
          have hk3 : (0 : Int) ≤ ((n4 - 1 : Nat) : Int) := by omega
          have hk4 : ((n4 - 1 : Nat) : Int) < (n4 : Int) := by omega
          obtain ⟨go4, oo4, ea4, hco⟩ := OD.out.at hn41
          subst ea4
          have hcl := hco (n4 - 1) (by omega)
          obtain ⟨m4, hm4⟩ : ∃ m, m = n4 - 1 := ⟨_, rfl⟩
          have HM4 := Hid.mk' hm4
          rw [← hm4] at hcl hk2 hk3 hk4
          clear hm4 hco
          cases henl : enl ot with
          | true =>
            have hb10 : at8 ot m4 = 10 := by rw [HM4.out, HN4.out]; exact enl_at10 ho0 henl
            rw [hb10] at hcl
            have HRT : Hid (R = TE) := by unfold Hid; rw [HRR.out, henl]; simp
            have hcl2 : V9.cell? ⟨go4, oo4 + m4, none⟩ = some (.int .u8 10) := hcl
            clear henl hb10 ho0 hlp hcl
            go_upto_region 23 with fail
            rw [HRT.out]
            have HTE : Hid (decide (TE = t) = true) := by
              have h1 := HLT.out rfl
              unfold Hid
              rw [HTEE.out]
              unfold tel
              rw [if_neg (by rintro rfl; cases h1)]
              unfold wle
              rw [if_pos h1]
              simp
            go_wp2_with (first | (refine wl_eq9 (.tmp 150) (.tmp 151) 9 rfl rfl rfl rfl HTE.out ?_))
            go_ret
            exact ⟨rfl, LD.out⟩
          | false =>
            have hb10 : at8 ot m4 ≠ 10 := by rw [HM4.out, HN4.out]; exact enl_no ho0 henl
            have hbi : (((at8 ot m4).toNat : Int) == 10) = false := by simp; intro h; exact hb10 (UInt8.toNat_inj.1 (by simpa using (by omega : (at8 ot m4).toNat = 10)))
            have hbj : ¬ ((at8 ot m4).toNat : Int) = 10 := by simpa using hbi
            have hbk : (((at8 ot m4).toNat : Int) != 10) = true := by unfold bne; rw [hbi]; rfl
            generalize ((at8 ot m4).toNat : Int) = bz at *
            have HRC : Hid (R = 10 :: TE) := by unfold Hid; rw [HRR.out, henl]; simp
            clear henl hb10 ho0 hlp
            go_upto_region 20 with fail
            rw [HRC.out]
            unfold sv
            go_upto_region 23 with fail
            rw [ext1]
            have HTE : Hid (decide (TE = t) = true) := by
              have h1 := HLT.out rfl
              unfold Hid
              rw [HTEE.out]
              unfold tel
              rw [if_neg (by rintro rfl; cases h1)]
              unfold wle
              rw [if_pos h1]
              simp
            go_wp2_with (first | (refine wl_eq9 (.tmp 150) (.tmp 151) 9 rfl rfl rfl rfl HTE.out ?_))
            go_ret
            exact ⟨rfl, LD.out⟩
  · have hE2 : E = 1 ∨ E = 2 := by
      obtain ⟨-, ⟨-, h⟩ | h | h⟩ := HNO.out hE
      · exact absurd h hn65.out
      · exact .inl h
      · exact .inr h
    clear HNO HG hn65
    rcases hE2 with rfl | rfl <;>
    · go_wp2
      go_ret
      exact ⟨rfl, L6.out⟩
end Go.Proofs.Ytienamngmalkaaa
