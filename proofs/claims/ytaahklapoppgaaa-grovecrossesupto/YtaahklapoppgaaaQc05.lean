/- The reference's Redo. -/
import Derived.Test.YtaahklapoppgaaaQc03
namespace Go.Proofs.Ytaahklapoppgaaa
open Go.RowKit

set_option maxRecDepth 8000
set_option maxHeartbeats 32000000 in
set_option linter.unusedSimpArgs false in
theorem rredo_walk (Z : List Int) (HZm : Hid (zm = Z)) (hZl : Z.length = 27) (HZ50 : Hid (∀ w, (zeroValue 50).run Try.prog w = .ok (.agg (cxa (.slice none 0 0) 0 Z)) w)) (HB50 : Hid (∀ w, (Instr.build 50 #[]).run Try.prog w = .ok (.agg (cxa (.slice none 0 0) 0 Z)) w)) (ao : Option Addr) (n c : Nat) (now : Int) (G : List Nr) (m : List Int) (w : World) (HG : Hid (Grz w ao G)) (hn : G.length = n) (hm : Mw m)
    (CXD : Hid (∀ (lo p B n k i : Nat) (now : Int) (H : List Nr) (X : List Value) (S : List (Nat × Nat)) (s : Wk) (W : World) (k0 : Nat), Hst lo p W B H X S → H.length = n → StI s H [] now 0 m → i < n → k0 < n → k0 ≠ i → (∀ r, H[i]? = some r → r.par = (k0 : Int)) → Calls Try.prog 56 #[.agg #[.slice (some ⟨B, 0, none⟩) n k, .int .i64 now], .int .i64 (i : Int), .bool false, .agg (cxa (.slice none 0 0) 0 m)] W fun e w' => RxP lo p W B n k X S (s.down i) (.slice none 0 0) e w')) :
    Calls Try.prog 22 #[.agg #[.slice ao n c, .int .i64 now], .agg (mk m)] w fun e w' => CrQ (redE (G.map Nr.d) now m) (crW (redE (G.map Nr.d) now m) ((Wk.new (G.map Nr.d) now m).down (at' (G.map Nr.d) now.toNat).nxt.toNat)) w e w' := by
  have hml := hm.len
  have HN := mkH hn
  have HMw := mkH hm
  have C14 : Hid (∀ W, Below w.heap.size w W → Calls Try.prog 14 #[.agg #[.slice ao n c, .int .i64 now]] W fun e w' => e = .returned (.int .i64 (ti (Right (G.map Nr.d) now) 0 180)) ∧ Below W.heap.size W w') := fun W hW => rcheck_any ao n c now G W (HG.out.keep hW) hn
  have C55 : Hid (∀ W, Calls Try.prog 55 #[.agg (mk m)] W fun e w' => e = .returned (.bool (tb (MOk m))) ∧ Below W.heap.size W w') := fun W => rmarks_any m hml W
  have C36 : Hid (n ≤ 1000000 → ∀ W, Below w.heap.size w W → Calls Try.prog 36 #[.agg #[.slice ao n c, .int .i64 now]] W fun e w' => RcP (G.map Nr.d) now W e w') := fun h9 W hW => rcopy_any ao n c now G W (HG.out.keep hW) hn h9
  obtain ⟨W1, hW1⟩ : ∃ x, (((w.alloc (.cells #[.slice ao n c, .int .i64 now] 24)).alloc (.cells (mk m) 41)).alloc (.cells #[.slice none 0 0, .int .i64 0] 24)).alloc (.cells (cxa (.slice none 0 0) 0 Z) 50) = x := ⟨_, rfl⟩
  have U1 : Hid (U4 w W1 ao n c now m Z) := by unfold Hid; rw [← hW1]; exact u4_new w ao n c now m Z
  have hz50 := HZ50.out
  obtain ⟨z, hz⟩ : ∃ z, redE (G.map Nr.d) now m = z := ⟨_, rfl⟩
  obtain ⟨S1, hS1⟩ : ∃ S, (Wk.new (G.map Nr.d) now m).down (at' (G.map Nr.d) now.toNat).nxt.toNat = S := ⟨_, rfl⟩
  rw [hz, hS1]
  have HZE := mkH hz
  have HS0 := mkH hS1
  clear hn hm hz hS1
  go_enter Try.func22, Try.ntmps22
  go_upto_region 1 with fail
  try rw [hW1]
  clear hW1 hz50
  have a1 : W1.cell? ⟨w.heap.size, 0, none⟩ = some (.slice ao n c) := U1.out.b1.cell rfl
  have b1 : W1.cell? ⟨w.heap.size, 1, none⟩ = some (.int .i64 now) := U1.out.b1.cell rfl
  go_wp2_with fail
  refine (C14.out W1 U1.out.bel).mono ?_
  rintro e w2 ⟨rfl, hb2⟩
  have U2 := mkH (U1.out.keep hb2)
  clear hb2 U1 a1 b1
  dsimp only
  by_cases hr : Right (G.map Nr.d) now
  case neg =>
    rw [ti_f hr]
    have hq : Hid (z = 180) := by unfold Hid; rw [← HZE.out]; unfold redE; rw [ti_f hr]
    clear hr
    go_upto_region 2 with fail
    have e30 : w2.cell? ⟨w.heap.size + 1 + 1, 0, none⟩ = some (.slice none 0 0) := U2.out.b3.cell rfl
    have e31 : w2.cell? ⟨w.heap.size + 1 + 1, 1, none⟩ = some (.int .i64 0) := U2.out.b3.cell rfl
    have f30 := U2.out.b3.frozen
    have N3 : Hid (Blk ((w2.setCell ⟨w.heap.size + 1 + 1, 0, none⟩ (.slice none 0 0)).setCell ⟨w.heap.size + 1 + 1, 1, none⟩ (.int .i64 0)) (w.heap.size + 1 + 1) 24 #[.slice none 0 0, .int .i64 0]) := set24 U2.out.b3
    have N4 : Hid (Blk ((w2.setCell ⟨w.heap.size + 1 + 1, 0, none⟩ (.slice none 0 0)).setCell ⟨w.heap.size + 1 + 1, 1, none⟩ (.int .i64 0)) (w.heap.size + 1 + 1 + 1) 50 (cxa (.slice none 0 0) 0 Z)) := (U2.out.b4.off (by omega) _).off (by omega) _
    have LB : Hid (Below w.heap.size w ((w2.setCell ⟨w.heap.size + 1 + 1, 0, none⟩ (.slice none 0 0)).setCell ⟨w.heap.size + 1 + 1, 1, none⟩ (.int .i64 0))) := (U2.out.bel.setCell (by show w.heap.size ≤ w.heap.size + 1 + 1; omega) _).setCell (by show w.heap.size ≤ w.heap.size + 1 + 1; omega) _
    have HT4 : Hid (((w2.setCell ⟨w.heap.size + 1 + 1, 0, none⟩ (.slice none 0 0)).setCell ⟨w.heap.size + 1 + 1, 1, none⟩ (.int .i64 0)).there (w.heap.size + 1 + 1 + 1) 0 29) := by have h6 := there_blk (cs := cx (.slice none 0 0) 0 Z) N4.out; rwa [cx_len hZl] at h6
    go_wp2_with (first | refine wl_bld rfl 50 _ rfl #[] (by kernel_rfl) (HB50.out _) ?_ | refine wl_st50 (B := w.heap.size + 1 + 1 + 1) (o := 0) (.tmp 5) (.tmp 13) rfl rfl rfl rfl hZl HT4.out ?_ | fail)
    clear e30 e31 f30 HT4
    generalize (w2.setCell ⟨w.heap.size + 1 + 1, 0, none⟩ (.slice none 0 0)).setCell ⟨w.heap.size + 1 + 1, 1, none⟩ (.int .i64 0) = w9 at *
    have N3b := blk_setCells_off (B := w.heap.size + 1 + 1 + 1) (by omega) (cx (.slice none 0 0) 0 Z) 0 N3.out
    have N4b := put_blk (cs := cx (.slice none 0 0) 0 Z) (old := cx (.slice none 0 0) 0 Z) rfl N4.out
    have LBb := below_setCells (B := w.heap.size + 1 + 1 + 1) (by omega) (cx (.slice none 0 0) 0 Z) 0 LB.out
    have l24 := ld24v N3b
    have l50 := ld50v hZl N4b
    refine bodyPost_ret (v := .tuple #[.agg #[.slice none 0 0, .int .i64 0], .agg (cxa (.slice none 0 0) 0 Z), .int .i64 180]) (by simp [results, Try.results22, asAddr, l24, l50]) rfl ?_
    have hZ9 := HZm.out
    subst hZ9
    rw [hq.out]
    exact CrQ.of (CrP.no (by decide) ⟨rfl, LBb⟩)
  rw [ti_t hr]
  go_upto_region 3 with fail
  go_wp2_with (first | refine wl_ld41 (B := w.heap.size + 1) (o := 0) (.tmp 3) rfl rfl rfl hml (range_blk U2.out.b2) ?_ | fail)
  refine (C55.out w2).mono ?_
  rintro e w3 ⟨rfl, hb3⟩
  have U3 := mkH (U2.out.keep hb3)
  clear hb3 U2
  dsimp only
  by_cases ho : MOk m
  case neg =>
    rw [tb_f ho]
    have hq : Hid (z = 2) := by unfold Hid; rw [← HZE.out]; unfold redE; rw [ti_t hr, ti_f ho]
    clear hr ho
    go_upto_region 4 with fail
    have e30 : w3.cell? ⟨w.heap.size + 1 + 1, 0, none⟩ = some (.slice none 0 0) := U3.out.b3.cell rfl
    have e31 : w3.cell? ⟨w.heap.size + 1 + 1, 1, none⟩ = some (.int .i64 0) := U3.out.b3.cell rfl
    have f30 := U3.out.b3.frozen
    have N3 : Hid (Blk ((w3.setCell ⟨w.heap.size + 1 + 1, 0, none⟩ (.slice none 0 0)).setCell ⟨w.heap.size + 1 + 1, 1, none⟩ (.int .i64 0)) (w.heap.size + 1 + 1) 24 #[.slice none 0 0, .int .i64 0]) := set24 U3.out.b3
    have N4 : Hid (Blk ((w3.setCell ⟨w.heap.size + 1 + 1, 0, none⟩ (.slice none 0 0)).setCell ⟨w.heap.size + 1 + 1, 1, none⟩ (.int .i64 0)) (w.heap.size + 1 + 1 + 1) 50 (cxa (.slice none 0 0) 0 Z)) := (U3.out.b4.off (by omega) _).off (by omega) _
    have LB : Hid (Below w.heap.size w ((w3.setCell ⟨w.heap.size + 1 + 1, 0, none⟩ (.slice none 0 0)).setCell ⟨w.heap.size + 1 + 1, 1, none⟩ (.int .i64 0))) := (U3.out.bel.setCell (by show w.heap.size ≤ w.heap.size + 1 + 1; omega) _).setCell (by show w.heap.size ≤ w.heap.size + 1 + 1; omega) _
    have HT4 : Hid (((w3.setCell ⟨w.heap.size + 1 + 1, 0, none⟩ (.slice none 0 0)).setCell ⟨w.heap.size + 1 + 1, 1, none⟩ (.int .i64 0)).there (w.heap.size + 1 + 1 + 1) 0 29) := by have h6 := there_blk (cs := cx (.slice none 0 0) 0 Z) N4.out; rwa [cx_len hZl] at h6
    go_wp2_with (first | refine wl_bld rfl 50 _ rfl #[] (by kernel_rfl) (HB50.out _) ?_ | refine wl_st50 (B := w.heap.size + 1 + 1 + 1) (o := 0) (.tmp 5) (.tmp 18) rfl rfl rfl rfl hZl HT4.out ?_ | fail)
    clear e30 e31 f30 HT4
    generalize (w3.setCell ⟨w.heap.size + 1 + 1, 0, none⟩ (.slice none 0 0)).setCell ⟨w.heap.size + 1 + 1, 1, none⟩ (.int .i64 0) = w9 at *
    have N3b := blk_setCells_off (B := w.heap.size + 1 + 1 + 1) (by omega) (cx (.slice none 0 0) 0 Z) 0 N3.out
    have N4b := put_blk (cs := cx (.slice none 0 0) 0 Z) (old := cx (.slice none 0 0) 0 Z) rfl N4.out
    have LBb := below_setCells (B := w.heap.size + 1 + 1 + 1) (by omega) (cx (.slice none 0 0) 0 Z) 0 LB.out
    have l24 := ld24v N3b
    have l50 := ld50v hZl N4b
    refine bodyPost_ret (v := .tuple #[.agg #[.slice none 0 0, .int .i64 0], .agg (cxa (.slice none 0 0) 0 Z), .int .i64 2]) (by simp [results, Try.results22, asAddr, l24, l50]) rfl ?_
    have hZ9 := HZm.out
    subst hZ9
    rw [hq.out]
    exact CrQ.of (CrP.no (by decide) ⟨rfl, LBb⟩)
  rw [tb_t ho]
  obtain ⟨p0, rfl⟩ : ∃ k : Nat, now = (k : Int) := ⟨now.toNat, by have := hr.sz.2; omega⟩
  have HP0 : Hid (p0 < n) := by have := hr.sz.2; rw [List.length_map, HN.out] at this; unfold Hid; omega
  have HN6 : Hid (n ≤ 1000000) := by have := hr.sz.1; rw [List.length_map, HN.out] at this; unfold Hid; omega
  have HRt := mkH hr
  have HOk := mkH ho
  obtain ⟨r, hr0⟩ : ∃ r, G[p0]? = some r := ⟨_, List.getElem?_eq_getElem (by have := HP0.out; have := HN.out; omega)⟩
  have er : at' (G.map Nr.d) p0 = r.d := map_at hr0
  obtain ⟨g, o, rfl, hnc⟩ := HG.out.at hr0
  have c1 := cell_keep hnc.c1 U3.out.bel
  have HNX0 : Hid (w.cell? ⟨g, o + p0 * 58 + 1, none⟩ = some (.int .i64 r.nxt)) := hnc.c1
  have hq0 : (at' (G.map Nr.d) ((p0 : Int)).toNat).nxt = r.nxt := by rw [Int.toNat_natCast, er]; rfl
  have hp00 : (0 : Int) ≤ (p0 : Int) := by omega
  have hp01 : (p0 : Int) < (n : Int) := by have := HP0.out; omega
  have a1 : w3.cell? ⟨w.heap.size, 0, none⟩ = some (.slice (some ⟨g, o, none⟩) n c) := U3.out.b1.cell rfl
  have b1 : w3.cell? ⟨w.heap.size, 1, none⟩ = some (.int .i64 (p0 : Int)) := U3.out.b1.cell rfl
  obtain ⟨nx, hnx⟩ : ∃ x, r.nxt = x := ⟨_, rfl⟩
  rw [hnx] at c1 HNX0 hq0
  clear hnc
  by_cases h0 : nx = 0
  · subst h0
    have hq : Hid (z = 182) := by unfold Hid; rw [← HZE.out]; unfold redE; rw [ti_t hr, ti_t ho, ti_t hq0]
    clear hr ho hq0 hnx er hr0
    go_upto_region 6 with fail
    clear a1 b1 c1
    have e30 : w3.cell? ⟨w.heap.size + 1 + 1, 0, none⟩ = some (.slice none 0 0) := U3.out.b3.cell rfl
    have e31 : w3.cell? ⟨w.heap.size + 1 + 1, 1, none⟩ = some (.int .i64 0) := U3.out.b3.cell rfl
    have f30 := U3.out.b3.frozen
    have N3 : Hid (Blk ((w3.setCell ⟨w.heap.size + 1 + 1, 0, none⟩ (.slice none 0 0)).setCell ⟨w.heap.size + 1 + 1, 1, none⟩ (.int .i64 0)) (w.heap.size + 1 + 1) 24 #[.slice none 0 0, .int .i64 0]) := set24 U3.out.b3
    have N4 : Hid (Blk ((w3.setCell ⟨w.heap.size + 1 + 1, 0, none⟩ (.slice none 0 0)).setCell ⟨w.heap.size + 1 + 1, 1, none⟩ (.int .i64 0)) (w.heap.size + 1 + 1 + 1) 50 (cxa (.slice none 0 0) 0 Z)) := (U3.out.b4.off (by omega) _).off (by omega) _
    have LB : Hid (Below w.heap.size w ((w3.setCell ⟨w.heap.size + 1 + 1, 0, none⟩ (.slice none 0 0)).setCell ⟨w.heap.size + 1 + 1, 1, none⟩ (.int .i64 0))) := (U3.out.bel.setCell (by show w.heap.size ≤ w.heap.size + 1 + 1; omega) _).setCell (by show w.heap.size ≤ w.heap.size + 1 + 1; omega) _
    have HT4 : Hid (((w3.setCell ⟨w.heap.size + 1 + 1, 0, none⟩ (.slice none 0 0)).setCell ⟨w.heap.size + 1 + 1, 1, none⟩ (.int .i64 0)).there (w.heap.size + 1 + 1 + 1) 0 29) := by have h6 := there_blk (cs := cx (.slice none 0 0) 0 Z) N4.out; rwa [cx_len hZl] at h6
    go_wp2_with (first | refine wl_bld rfl 50 _ rfl #[] (by kernel_rfl) (HB50.out _) ?_ | refine wl_st50 (B := w.heap.size + 1 + 1 + 1) (o := 0) (.tmp 5) (.tmp 28) rfl rfl rfl rfl hZl HT4.out ?_ | fail)
    clear e30 e31 f30 HT4
    generalize (w3.setCell ⟨w.heap.size + 1 + 1, 0, none⟩ (.slice none 0 0)).setCell ⟨w.heap.size + 1 + 1, 1, none⟩ (.int .i64 0) = w9 at *
    have N3b := blk_setCells_off (B := w.heap.size + 1 + 1 + 1) (by omega) (cx (.slice none 0 0) 0 Z) 0 N3.out
    have N4b := put_blk (cs := cx (.slice none 0 0) 0 Z) (old := cx (.slice none 0 0) 0 Z) rfl N4.out
    have LBb := below_setCells (B := w.heap.size + 1 + 1 + 1) (by omega) (cx (.slice none 0 0) 0 Z) 0 LB.out
    have l24 := ld24v N3b
    have l50 := ld50v hZl N4b
    refine bodyPost_ret (v := .tuple #[.agg #[.slice none 0 0, .int .i64 0], .agg (cxa (.slice none 0 0) 0 Z), .int .i64 182]) (by simp [results, Try.results22, asAddr, l24, l50]) rfl ?_
    have hZ9 := HZm.out
    subst hZ9
    rw [hq.out]
    exact CrQ.of (CrP.no (by decide) ⟨rfl, LBb⟩)
  have hq : Hid (z = 0) := by unfold Hid; rw [← HZE.out]; unfold redE; rw [ti_t hr, ti_t ho, ti_f (by rw [hq0]; exact h0)]
  obtain ⟨x0, hx0, hx1, hx2⟩ : ∃ k : Nat, nx = (k : Int) ∧ k < n ∧ (at' (G.map Nr.d) k).par = (p0 : Int) := by
    have hpl : p0 < (G.map Nr.d).length := by rw [List.length_map, HN.out]; exact HP0.out
    rcases hr.lds p0 _ (at'_some hpl) with h | ⟨k', h1, nn, h2, h3⟩
    · rw [Int.toNat_natCast] at hq0; exact absurd (hq0.symm.trans h) h0
    · rw [Int.toNat_natCast] at hq0
      have h4 := (List.getElem?_eq_some_iff.1 h2).1
      rw [List.length_map, HN.out] at h4
      exact ⟨k', hq0.symm.trans h1, h4, by rw [at'_eq h2]; exact h3⟩
  subst hx0
  have HX0 : Hid (x0 < n) := hx1
  have HXP : Hid ((at' (G.map Nr.d) x0).par = (p0 : Int)) := hx2
  have HPX : Hid (p0 ≠ x0) := by
    have h1 : pr (G.map Nr.d) x0 = p0 := by unfold pr; rw [hx2]; rfl
    have h2 := hr.low x0 (by omega) (by rw [List.length_map, HN.out]; exact hx1)
    unfold Hid; omega
  have HNX := HNX0
  have HS1 : Hid ((Wk.new (G.map Nr.d) (p0 : Int) m).down x0 = S1) := by have := HS0.out; rw [hq0, Int.toNat_natCast] at this; exact this
  have h01 : ¬ (x0 : Int) = 0 := by omega
  have h02 : ((x0 : Int) == 0) = false := by simpa using h0
  clear hr ho h0 hq0 hnx er hr0 hx1 hx2 HNX0
  go_upto_region 7 with fail
  clear a1 b1 c1 h01 h02
  have D3 : Hid (Below w3.heap.size w3 w3.drew) := (Below.refl _ _).drew
  have UD := mkH (U3.out.keep D3.out)
  clear D3 U3
  go_cut [7, 8] from 29 to 44 (fun x7 x8 wx => ∃ q7 q8 B k vn vc lo p va H X S F, x7 = .pointer (some ⟨q7, 0, none⟩) ∧ x8 = .pointer (some ⟨q8, 0, none⟩) ∧ Hid (Ux w wx (some ⟨g, o, none⟩) n c (p0 : Int) m Z q7 q8 S1 B k vn vc lo p va H X S F))
  case first =>
    have hz50 := HZ50.out
    have HV0 : Hid (w.heap.size + 1 + 1 + 1 < w3.drew.heap.size) := UD.out.b4.lt
    refine wp_region_held (S := fun w' => U4 w w' (some ⟨g, o, none⟩) n c (p0 : Int) m Z) (by kernel_rfl) ?_
    change wpAnyH _ _ _ _ _ _ _ _ (World.drew _)
    generalize w3.drew = V3 at *
    refine ta 0 (.agg #[.slice (some ⟨g, o, none⟩) n c, .int .i64 (p0 : Int)]) rfl (Or.inl ⟨by rfl, fun w9 h9 => by have h1 : w9.cell? ⟨w.heap.size, 0, none⟩ = some (.slice (some ⟨g, o, none⟩) n c) := h9.b1.cell rfl; have h2 : w9.cell? ⟨w.heap.size, 1, none⟩ = some (.int .i64 (p0 : Int)) := h9.b1.cell rfl; have h3 := cell_keep HNX.out h9.bel; go_simp⟩) UD.out ?_
    refine tk 2 (.pointer (some ⟨w.heap.size, 0, none⟩)) UD.out ?_
    refine ta 3 (.slice (some ⟨g, o, none⟩) n c) rfl (Or.inl ⟨by rfl, fun w9 h9 => by have h1 : w9.cell? ⟨w.heap.size, 0, none⟩ = some (.slice (some ⟨g, o, none⟩) n c) := h9.b1.cell rfl; have h2 : w9.cell? ⟨w.heap.size, 1, none⟩ = some (.int .i64 (p0 : Int)) := h9.b1.cell rfl; have h3 := cell_keep HNX.out h9.bel; go_simp⟩) UD.out ?_
    refine tk 4 (.pointer (some ⟨w.heap.size, 1, none⟩)) UD.out ?_
    try simp only [Act.put, jj1, jj2, jj3, jj4, jj5, jj6]
    refine ta 5 (.int .i64 (p0 : Int)) rfl (Or.inl ⟨by rfl, fun w9 h9 => by have h1 : w9.cell? ⟨w.heap.size, 0, none⟩ = some (.slice (some ⟨g, o, none⟩) n c) := h9.b1.cell rfl; have h2 : w9.cell? ⟨w.heap.size, 1, none⟩ = some (.int .i64 (p0 : Int)) := h9.b1.cell rfl; have h3 := cell_keep HNX.out h9.bel; go_simp⟩) UD.out ?_
    refine tk 6 (.pointer (some ⟨g, o + p0 * 58, none⟩)) UD.out ?_
    refine tk 7 (.pointer (some ⟨g, o + p0 * 58 + 1, none⟩)) UD.out ?_
    refine ta 8 (.int .i64 (x0 : Int)) rfl (Or.inl ⟨by rfl, fun w9 h9 => by have h1 : w9.cell? ⟨w.heap.size, 0, none⟩ = some (.slice (some ⟨g, o, none⟩) n c) := h9.b1.cell rfl; have h2 : w9.cell? ⟨w.heap.size, 1, none⟩ = some (.int .i64 (p0 : Int)) := h9.b1.cell rfl; have h3 := cell_keep HNX.out h9.bel; go_simp⟩) UD.out ?_
    try simp only [Act.put, jj1, jj2, jj3, jj4, jj5, jj6]
    refine ta 9 (.agg (mk m)) rfl (yi_ld ty41 rfl (.tmp 3) rfl rfl (ml m) (by rw [ml_len, hml]) (fun _ h => range_blk h.b2)) UD.out ?_
    refine ta 10 (.agg (cxa (.slice none 0 0) 0 m)) rfl (yi_bld rfl 50 _ rfl #[(2, .agg (mk m))] (by kernel_rfl) (fun w => b50a w hml)) UD.out ?_
    try simp only [Act.put, jj1, jj2, jj3, jj4, jj5, jj6]
    refine wpAnyH_all (rs := [1, 15, 16]) (by kernel_rfl) (by simp) (AllH.cons rfl (fun K hK => ?_) (AllH.cons rfl (fun K hK => ?_) (AllH.cons rfl (fun K hK => ?_) AllH.nil)))
    · skip
      go_simp
      refine (C36.out HN6.out V3 UD.out.bel).mono ?_
      rintro e wc1 ⟨v1, H1, Sx, rfl, hG, hrow, hbc⟩
      obtain ⟨lo, hlo⟩ : ∃ x, V3.heap.size = x := ⟨_, rfl⟩
      obtain ⟨p, hp⟩ : ∃ x, wc1.heap.size = x := ⟨_, rfl⟩
      have HLO : Hid (w.heap.size + 1 + 1 + 1 < lo ∧ lo ≤ p) := ⟨by rw [← hlo]; exact UD.out.b4.lt, by rw [← hlo, ← hp]; exact hbc.size⟩
      have hH1 : H1.length = n := by have := congrArg List.length hG; rw [List.length_map, List.length_map, HN.out] at this; exact this
      obtain ⟨B, k, X, rfl, hk, hst⟩ := hrow.hst (by rw [hH1]; have := HP0.out; omega)
      rw [hlo, hp] at hst
      rw [hH1] at hk ⊢
      have HST := mkH hst
      have HH1 := mkH hH1
      have HGc := mkH hG
      have HKc := mkH hk
      replace UD := mkH (UD.out.keep hbc)
      clear hrow hst hH1 hG hk hbc hlo hp
      dsimp only
      refine hK _ _ ⟨UD.out, ?_⟩
      clear hK K
      try simp only [Act.put, jj1, jj2, jj3, jj4, jj5, jj6]
      refine wpAnyH_all (rs := [11, 15, 16]) (by kernel_rfl) (by simp) (AllH.cons rfl (fun K hK => ?_) (AllH.cons rfl (fun K hK => ?_) (AllH.cons rfl (fun K hK => ?_) AllH.nil)))
      · skip
        go_simp
        refine (CXD.out lo p B n k x0 (p0 : Int) H1 X Sx (Wk.new (G.map Nr.d) (p0 : Int) m) wc1 p0 HST.out HH1.out ⟨HGc.out, rfl, rfl, rfl, rfl⟩ HX0.out HP0.out HPX.out (fun r hr => by have h1 := map_at (G := H1) hr; rw [HGc.out] at h1; have h2 : (at' (G.map Nr.d) x0).par = r.par := (by rw [h1]; rfl); rw [← h2]; exact HXP.out)).mono ?_
        rintro e wc2 ⟨va, vn, vc, H2, F2, rfl, hG2, hF2, hH2, hst2, hls2, hfl2, hmw2, hbl2, hfr2, -⟩
        rw [HS1.out] at hG2 hF2 hmw2 ⊢
        have UD2 : Hid (U4 w wc2 (some ⟨g, o, none⟩) n c (p0 : Int) m Z) := UD.out.low hbl2 HLO.out.1
        replace UD := UD2
        clear UD2
        replace HST := mkH hst2
        have EDS := mkH hls2
        have HG2 := mkH hG2
        have HF2 := mkH hF2
        have HH2 := mkH hH2
        have HFL2 := mkH hfl2
        have HMW2 := mkH hmw2
        clear hG2 hF2 hH2 hst2 hls2 hfl2 hmw2 hbl2 hfr2
        dsimp only
        refine hK _ _ ⟨UD.out, ?_⟩
        clear hK K
        refine tk 12 (.tuple #[.agg #[.slice (some ⟨B, 0, none⟩) n k, .int .i64 S1.now], .agg (cxa (.slice va vn vc) S1.cur S1.m)]) UD.out ?_
        refine tk 13 (.agg #[.slice (some ⟨B, 0, none⟩) n k, .int .i64 S1.now]) UD.out ?_
        try simp only [Act.put, jj1, jj2, jj3, jj4, jj5, jj6]
        refine tk 14 (.agg (cxa (.slice va vn vc) S1.cur S1.m)) UD.out ?_
        try simp only [Act.put, jj1, jj2, jj3, jj4, jj5, jj6]
        refine wpAnyH_all (rs := [15, 16]) (by kernel_rfl) (by simp) (AllH.cons rfl (fun K hK => ?_) (AllH.cons rfl (fun K hK => ?_) AllH.nil))
        · skip
          go_simp
          obtain ⟨q7, hq7⟩ : ∃ x, wc2.heap.size = x := ⟨_, rfl⟩
          have hbn : Below wc2.heap.size wc2 (wc2.alloc (.cells #[.slice none 0 0, .int .i64 0] 24)) := bAlloc (Below.refl _ _) _
          have A7 : Hid (Blk (wc2.alloc (.cells #[.slice none 0 0, .int .i64 0] 24)) q7 24 #[.slice none 0 0, .int .i64 0]) := by unfold Hid; rw [← hq7]; exact Blk.new wc2 24 _
          have NA7 : Hid (w.heap.size + 1 + 1 + 1 < q7) := by unfold Hid; rw [← hq7]; exact UD.out.b4.lt
          replace HST := mkH (HST.out.keep hbn)
          replace EDS := mkH (EDS.out.keep hbn)
          replace UD := mkH (UD.out.keep hbn)
          rw [hq7]
          clear hq7 hbn
          generalize wc2.alloc (.cells #[.slice none 0 0, .int .i64 0] 24) = waq7 at *
          refine hK _ _ ⟨UD.out, ?_⟩
          clear hK K
          try simp only [Act.put, jj1, jj2, jj3, jj4, jj5, jj6]
          refine wpAnyH_all (rs := [16]) (by kernel_rfl) (by simp) (AllH.cons rfl (fun K hK => ?_) AllH.nil)
          have hzz := hz50 waq7
          go_simp
          clear hzz
          obtain ⟨q8, hq8⟩ : ∃ x, waq7.heap.size = x := ⟨_, rfl⟩
          have hbn : Below waq7.heap.size waq7 (waq7.alloc (.cells (cxa (.slice none 0 0) 0 Z) 50)) := bAlloc (Below.refl _ _) _
          have A8 : Hid (Blk (waq7.alloc (.cells (cxa (.slice none 0 0) 0 Z) 50)) q8 50 (cxa (.slice none 0 0) 0 Z)) := by unfold Hid; rw [← hq8]; exact Blk.new waq7 50 _
          have NA8 : Hid (w.heap.size + 1 + 1 + 1 < q8) := by unfold Hid; rw [← hq8]; exact UD.out.b4.lt
          replace HST := mkH (HST.out.keep hbn)
          replace EDS := mkH (EDS.out.keep hbn)
          replace A7 := mkH (A7.out.keep hbn)
          replace UD := mkH (UD.out.keep hbn)
          rw [hq8]
          clear hq8 hbn
          generalize waq7.alloc (.cells (cxa (.slice none 0 0) 0 Z) 50) = waq8 at *
          refine hK _ _ ⟨UD.out, ?_⟩
          clear hK K
          try simp only [Act.put, jj1, jj2, jj3, jj4, jj5, jj6]
          refine wpAnyH_all (rs := [17]) (by kernel_rfl) (by simp) (AllH.cons rfl (fun K hK => ?_) AllH.nil)
          have GA : Hid (waq8.grownBy (waq8.setCells q7 0 [.slice (some ⟨B, 0, none⟩) n k, .int .i64 S1.now]) (some q7)) := grown_setCells _ _ _
          have t24 : Hid (waq8.there q7 0 2) := there_blk (cs := [.slice none 0 0, .int .i64 0]) A7.out
          have P7 : Hid (Blk (waq8.setCells q7 0 [.slice (some ⟨B, 0, none⟩) n k, .int .i64 S1.now]) q7 24 #[.slice (some ⟨B, 0, none⟩) n k, .int .i64 S1.now]) := put_blk (cs := [.slice (some ⟨B, 0, none⟩) n k, .int .i64 S1.now]) (old := [.slice none 0 0, .int .i64 0]) rfl A7.out
          have P8 := mkH (A8.out.wr (wr_of A7.out GA.out) (by decide))
          have HSTa := mkH (HST.out.wr (wr_of A7.out GA.out) (by decide) (by decide) (by decide))
          have EDSa := mkH (EDS.out.wr (wr_of A7.out GA.out) (by decide) (by decide))
          have UDa := mkH (UD.out.low (lo := q7) (Below.grown (Below.refl q7 waq8) GA.out (Nat.le_of_lt A7.out.lt) (fun j hj => by injection hj with hj; omega)) NA7.out)
          refine do_st ty24 rfl (.tmp 7) (.tmp 42) rfl rfl [.slice (some ⟨B, 0, none⟩) n k, .int .i64 S1.now] rfl rfl t24.out (fun v hv => by simp at hv; rcases hv with rfl | rfl <;> rfl) ?_
          clear GA t24 A7 A8 HST EDS UD
          generalize waq8.setCells q7 0 [.slice (some ⟨B, 0, none⟩) n k, .int .i64 S1.now] = w5a at *
          refine hK _ _ ⟨UDa.out, ?_⟩
          clear hK K
          try simp only [Act.put, jj1, jj2, jj3, jj4, jj5, jj6]
          refine wpAnyH_all (rs := [18]) (by kernel_rfl) (by simp) (AllH.cons rfl (fun K hK => ?_) AllH.nil)
          have GB : Hid (w5a.grownBy (w5a.setCells q8 0 (cx (.slice va vn vc) S1.cur S1.m)) (some q8)) := grown_setCells _ _ _
          have t50 : Hid (w5a.there q8 0 29) := by have := there_blk (cs := cx (.slice none 0 0) 0 Z) P8.out; rwa [cx_len hZl] at this
          have R8 : Hid (Blk (w5a.setCells q8 0 (cx (.slice va vn vc) S1.cur S1.m)) q8 50 (cxa (.slice va vn vc) S1.cur S1.m)) := put_blk (cs := (cx (.slice va vn vc) S1.cur S1.m)) (old := cx (.slice none 0 0) 0 Z) (by rw [cx_len hZl, cx_len HMW2.out.len]) P8.out
          have R7 := mkH (P7.out.wr (wr_of P8.out GB.out) (by decide))
          have HSTb := mkH (HSTa.out.wr (wr_of P8.out GB.out) (by decide) (by decide) (by decide))
          have EDSb := mkH (EDSa.out.wr (wr_of P8.out GB.out) (by decide) (by decide))
          have UDb := mkH (UDa.out.low (lo := q8) (Below.grown (Below.refl q8 w5a) GB.out (Nat.le_of_lt P8.out.lt) (fun j hj => by injection hj with hj; omega)) NA8.out)
          refine do_st ty50 rfl (.tmp 8) (.tmp 43) rfl rfl (cx (.slice va vn vc) S1.cur S1.m) rfl (cx_len HMW2.out.len) t50.out cx_one ?_
          clear GB t50 P7 P8 HSTa EDSa UDa
          generalize w5a.setCells q8 0 (cx (.slice va vn vc) S1.cur S1.m) = w5 at *
          refine hK _ _ ⟨UDb.out, ?_⟩
          clear hK K
          try simp only [Act.put, jj1, jj2, jj3, jj4, jj5, jj6]
          refine wpAnyH_done (by kernel_rfl) ?_ _
          go_wp2_with fail
          go_meet
          exact ⟨q7, q8, B, k, vn, vc, lo, p, va, H2, X, Sx, F2, rfl, rfl, ⟨UDb.out, by rw [HH2.out]; exact R7.out, R8.out, HG2.out, HF2.out, HSTb.out, ⟨_, EDSb.out⟩, HFL2.out, HMW2.out, by rw [HH2.out]; exact HKc.out, HLO.out.1, HLO.out.2, NA7.out, NA8.out⟩⟩
        · skip
          have hzz := hz50 wc2
          go_simp
          clear hzz
          obtain ⟨q8, hq8⟩ : ∃ x, wc2.heap.size = x := ⟨_, rfl⟩
          have hbn : Below wc2.heap.size wc2 (wc2.alloc (.cells (cxa (.slice none 0 0) 0 Z) 50)) := bAlloc (Below.refl _ _) _
          have A8 : Hid (Blk (wc2.alloc (.cells (cxa (.slice none 0 0) 0 Z) 50)) q8 50 (cxa (.slice none 0 0) 0 Z)) := by unfold Hid; rw [← hq8]; exact Blk.new wc2 50 _
          have NA8 : Hid (w.heap.size + 1 + 1 + 1 < q8) := by unfold Hid; rw [← hq8]; exact UD.out.b4.lt
          replace HST := mkH (HST.out.keep hbn)
          replace EDS := mkH (EDS.out.keep hbn)
          replace UD := mkH (UD.out.keep hbn)
          rw [hq8]
          clear hq8 hbn
          generalize wc2.alloc (.cells (cxa (.slice none 0 0) 0 Z) 50) = waq8 at *
          refine hK _ _ ⟨UD.out, ?_⟩
          clear hK K
          try simp only [Act.put, jj1, jj2, jj3, jj4, jj5, jj6]
          refine wpAnyH_all (rs := [15]) (by kernel_rfl) (by simp) (AllH.cons rfl (fun K hK => ?_) AllH.nil)
          go_simp
          obtain ⟨q7, hq7⟩ : ∃ x, waq8.heap.size = x := ⟨_, rfl⟩
          have hbn : Below waq8.heap.size waq8 (waq8.alloc (.cells #[.slice none 0 0, .int .i64 0] 24)) := bAlloc (Below.refl _ _) _
          have A7 : Hid (Blk (waq8.alloc (.cells #[.slice none 0 0, .int .i64 0] 24)) q7 24 #[.slice none 0 0, .int .i64 0]) := by unfold Hid; rw [← hq7]; exact Blk.new waq8 24 _
          have NA7 : Hid (w.heap.size + 1 + 1 + 1 < q7) := by unfold Hid; rw [← hq7]; exact UD.out.b4.lt
          replace HST := mkH (HST.out.keep hbn)
          replace EDS := mkH (EDS.out.keep hbn)
          replace A8 := mkH (A8.out.keep hbn)
          replace UD := mkH (UD.out.keep hbn)
          rw [hq7]
          clear hq7 hbn
          generalize waq8.alloc (.cells #[.slice none 0 0, .int .i64 0] 24) = waq7 at *
          refine hK _ _ ⟨UD.out, ?_⟩
          clear hK K
          try simp only [Act.put, jj1, jj2, jj3, jj4, jj5, jj6]
          refine wpAnyH_all (rs := [17]) (by kernel_rfl) (by simp) (AllH.cons rfl (fun K hK => ?_) AllH.nil)
          have GA : Hid (waq7.grownBy (waq7.setCells q7 0 [.slice (some ⟨B, 0, none⟩) n k, .int .i64 S1.now]) (some q7)) := grown_setCells _ _ _
          have t24 : Hid (waq7.there q7 0 2) := there_blk (cs := [.slice none 0 0, .int .i64 0]) A7.out
          have P7 : Hid (Blk (waq7.setCells q7 0 [.slice (some ⟨B, 0, none⟩) n k, .int .i64 S1.now]) q7 24 #[.slice (some ⟨B, 0, none⟩) n k, .int .i64 S1.now]) := put_blk (cs := [.slice (some ⟨B, 0, none⟩) n k, .int .i64 S1.now]) (old := [.slice none 0 0, .int .i64 0]) rfl A7.out
          have P8 := mkH (A8.out.wr (wr_of A7.out GA.out) (by decide))
          have HSTa := mkH (HST.out.wr (wr_of A7.out GA.out) (by decide) (by decide) (by decide))
          have EDSa := mkH (EDS.out.wr (wr_of A7.out GA.out) (by decide) (by decide))
          have UDa := mkH (UD.out.low (lo := q7) (Below.grown (Below.refl q7 waq7) GA.out (Nat.le_of_lt A7.out.lt) (fun j hj => by injection hj with hj; omega)) NA7.out)
          refine do_st ty24 rfl (.tmp 7) (.tmp 42) rfl rfl [.slice (some ⟨B, 0, none⟩) n k, .int .i64 S1.now] rfl rfl t24.out (fun v hv => by simp at hv; rcases hv with rfl | rfl <;> rfl) ?_
          clear GA t24 A7 A8 HST EDS UD
          generalize waq7.setCells q7 0 [.slice (some ⟨B, 0, none⟩) n k, .int .i64 S1.now] = w5a at *
          refine hK _ _ ⟨UDa.out, ?_⟩
          clear hK K
          try simp only [Act.put, jj1, jj2, jj3, jj4, jj5, jj6]
          refine wpAnyH_all (rs := [18]) (by kernel_rfl) (by simp) (AllH.cons rfl (fun K hK => ?_) AllH.nil)
          have GB : Hid (w5a.grownBy (w5a.setCells q8 0 (cx (.slice va vn vc) S1.cur S1.m)) (some q8)) := grown_setCells _ _ _
          have t50 : Hid (w5a.there q8 0 29) := by have := there_blk (cs := cx (.slice none 0 0) 0 Z) P8.out; rwa [cx_len hZl] at this
          have R8 : Hid (Blk (w5a.setCells q8 0 (cx (.slice va vn vc) S1.cur S1.m)) q8 50 (cxa (.slice va vn vc) S1.cur S1.m)) := put_blk (cs := (cx (.slice va vn vc) S1.cur S1.m)) (old := cx (.slice none 0 0) 0 Z) (by rw [cx_len hZl, cx_len HMW2.out.len]) P8.out
          have R7 := mkH (P7.out.wr (wr_of P8.out GB.out) (by decide))
          have HSTb := mkH (HSTa.out.wr (wr_of P8.out GB.out) (by decide) (by decide) (by decide))
          have EDSb := mkH (EDSa.out.wr (wr_of P8.out GB.out) (by decide) (by decide))
          have UDb := mkH (UDa.out.low (lo := q8) (Below.grown (Below.refl q8 w5a) GB.out (Nat.le_of_lt P8.out.lt) (fun j hj => by injection hj with hj; omega)) NA8.out)
          refine do_st ty50 rfl (.tmp 8) (.tmp 43) rfl rfl (cx (.slice va vn vc) S1.cur S1.m) rfl (cx_len HMW2.out.len) t50.out cx_one ?_
          clear GB t50 P7 P8 HSTa EDSa UDa
          generalize w5a.setCells q8 0 (cx (.slice va vn vc) S1.cur S1.m) = w5 at *
          refine hK _ _ ⟨UDb.out, ?_⟩
          clear hK K
          try simp only [Act.put, jj1, jj2, jj3, jj4, jj5, jj6]
          refine wpAnyH_done (by kernel_rfl) ?_ _
          go_wp2_with fail
          go_meet
          exact ⟨q7, q8, B, k, vn, vc, lo, p, va, H2, X, Sx, F2, rfl, rfl, ⟨UDb.out, by rw [HH2.out]; exact R7.out, R8.out, HG2.out, HF2.out, HSTb.out, ⟨_, EDSb.out⟩, HFL2.out, HMW2.out, by rw [HH2.out]; exact HKc.out, HLO.out.1, HLO.out.2, NA7.out, NA8.out⟩⟩
      · skip
        go_simp
        obtain ⟨q7, hq7⟩ : ∃ x, wc1.heap.size = x := ⟨_, rfl⟩
        have hbn : Below wc1.heap.size wc1 (wc1.alloc (.cells #[.slice none 0 0, .int .i64 0] 24)) := bAlloc (Below.refl _ _) _
        have A7 : Hid (Blk (wc1.alloc (.cells #[.slice none 0 0, .int .i64 0] 24)) q7 24 #[.slice none 0 0, .int .i64 0]) := by unfold Hid; rw [← hq7]; exact Blk.new wc1 24 _
        have NA7 : Hid (w.heap.size + 1 + 1 + 1 < q7) := by unfold Hid; rw [← hq7]; exact UD.out.b4.lt
        replace HST := mkH (HST.out.keep hbn)
        replace UD := mkH (UD.out.keep hbn)
        rw [hq7]
        clear hq7 hbn
        generalize wc1.alloc (.cells #[.slice none 0 0, .int .i64 0] 24) = waq7 at *
        refine hK _ _ ⟨UD.out, ?_⟩
        clear hK K
        try simp only [Act.put, jj1, jj2, jj3, jj4, jj5, jj6]
        refine wpAnyH_all (rs := [11, 16]) (by kernel_rfl) (by simp) (AllH.cons rfl (fun K hK => ?_) (AllH.cons rfl (fun K hK => ?_) AllH.nil))
        · skip
          go_simp
          refine (CXD.out lo p B n k x0 (p0 : Int) H1 X Sx (Wk.new (G.map Nr.d) (p0 : Int) m) waq7 p0 HST.out HH1.out ⟨HGc.out, rfl, rfl, rfl, rfl⟩ HX0.out HP0.out HPX.out (fun r hr => by have h1 := map_at (G := H1) hr; rw [HGc.out] at h1; have h2 : (at' (G.map Nr.d) x0).par = r.par := (by rw [h1]; rfl); rw [← h2]; exact HXP.out)).mono ?_
          rintro e wc2 ⟨va, vn, vc, H2, F2, rfl, hG2, hF2, hH2, hst2, hls2, hfl2, hmw2, hbl2, hfr2, -⟩
          rw [HS1.out] at hG2 hF2 hmw2 ⊢
          have UD2 : Hid (U4 w wc2 (some ⟨g, o, none⟩) n c (p0 : Int) m Z) := UD.out.low hbl2 HLO.out.1
          replace UD := UD2
          clear UD2
          replace A7 : Hid (Blk wc2 q7 24 #[.slice none 0 0, .int .i64 0]) := by have hx := A7.out; unfold Hid; unfold Blk at hx ⊢; rw [hfr2 q7 (Array.getElem?_eq_some_iff.1 hx).1 (nb_ne hx HST.out.row (by decide)) (nb_ne hx HST.out.row (by decide)) (by simp [Value.ownBlock])]; exact hx
          replace HST := mkH hst2
          have EDS := mkH hls2
          have HG2 := mkH hG2
          have HF2 := mkH hF2
          have HH2 := mkH hH2
          have HFL2 := mkH hfl2
          have HMW2 := mkH hmw2
          clear hG2 hF2 hH2 hst2 hls2 hfl2 hmw2 hbl2 hfr2
          dsimp only
          refine hK _ _ ⟨UD.out, ?_⟩
          clear hK K
          refine tk 12 (.tuple #[.agg #[.slice (some ⟨B, 0, none⟩) n k, .int .i64 S1.now], .agg (cxa (.slice va vn vc) S1.cur S1.m)]) UD.out ?_
          refine tk 13 (.agg #[.slice (some ⟨B, 0, none⟩) n k, .int .i64 S1.now]) UD.out ?_
          refine tk 14 (.agg (cxa (.slice va vn vc) S1.cur S1.m)) UD.out ?_
          try simp only [Act.put, jj1, jj2, jj3, jj4, jj5, jj6]
          refine wpAnyH_all (rs := [16]) (by kernel_rfl) (by simp) (AllH.cons rfl (fun K hK => ?_) AllH.nil)
          have hzz := hz50 wc2
          go_simp
          clear hzz
          obtain ⟨q8, hq8⟩ : ∃ x, wc2.heap.size = x := ⟨_, rfl⟩
          have hbn : Below wc2.heap.size wc2 (wc2.alloc (.cells (cxa (.slice none 0 0) 0 Z) 50)) := bAlloc (Below.refl _ _) _
          have A8 : Hid (Blk (wc2.alloc (.cells (cxa (.slice none 0 0) 0 Z) 50)) q8 50 (cxa (.slice none 0 0) 0 Z)) := by unfold Hid; rw [← hq8]; exact Blk.new wc2 50 _
          have NA8 : Hid (w.heap.size + 1 + 1 + 1 < q8) := by unfold Hid; rw [← hq8]; exact UD.out.b4.lt
          replace HST := mkH (HST.out.keep hbn)
          replace A7 := mkH (A7.out.keep hbn)
          replace EDS := mkH (EDS.out.keep hbn)
          replace UD := mkH (UD.out.keep hbn)
          rw [hq8]
          clear hq8 hbn
          generalize wc2.alloc (.cells (cxa (.slice none 0 0) 0 Z) 50) = waq8 at *
          refine hK _ _ ⟨UD.out, ?_⟩
          clear hK K
          try simp only [Act.put, jj1, jj2, jj3, jj4, jj5, jj6]
          refine wpAnyH_all (rs := [17]) (by kernel_rfl) (by simp) (AllH.cons rfl (fun K hK => ?_) AllH.nil)
          have GA : Hid (waq8.grownBy (waq8.setCells q7 0 [.slice (some ⟨B, 0, none⟩) n k, .int .i64 S1.now]) (some q7)) := grown_setCells _ _ _
          have t24 : Hid (waq8.there q7 0 2) := there_blk (cs := [.slice none 0 0, .int .i64 0]) A7.out
          have P7 : Hid (Blk (waq8.setCells q7 0 [.slice (some ⟨B, 0, none⟩) n k, .int .i64 S1.now]) q7 24 #[.slice (some ⟨B, 0, none⟩) n k, .int .i64 S1.now]) := put_blk (cs := [.slice (some ⟨B, 0, none⟩) n k, .int .i64 S1.now]) (old := [.slice none 0 0, .int .i64 0]) rfl A7.out
          have P8 := mkH (A8.out.wr (wr_of A7.out GA.out) (by decide))
          have HSTa := mkH (HST.out.wr (wr_of A7.out GA.out) (by decide) (by decide) (by decide))
          have EDSa := mkH (EDS.out.wr (wr_of A7.out GA.out) (by decide) (by decide))
          have UDa := mkH (UD.out.low (lo := q7) (Below.grown (Below.refl q7 waq8) GA.out (Nat.le_of_lt A7.out.lt) (fun j hj => by injection hj with hj; omega)) NA7.out)
          refine do_st ty24 rfl (.tmp 7) (.tmp 42) rfl rfl [.slice (some ⟨B, 0, none⟩) n k, .int .i64 S1.now] rfl rfl t24.out (fun v hv => by simp at hv; rcases hv with rfl | rfl <;> rfl) ?_
          clear GA t24 A7 A8 HST EDS UD
          generalize waq8.setCells q7 0 [.slice (some ⟨B, 0, none⟩) n k, .int .i64 S1.now] = w5a at *
          refine hK _ _ ⟨UDa.out, ?_⟩
          clear hK K
          try simp only [Act.put, jj1, jj2, jj3, jj4, jj5, jj6]
          refine wpAnyH_all (rs := [18]) (by kernel_rfl) (by simp) (AllH.cons rfl (fun K hK => ?_) AllH.nil)
          have GB : Hid (w5a.grownBy (w5a.setCells q8 0 (cx (.slice va vn vc) S1.cur S1.m)) (some q8)) := grown_setCells _ _ _
          have t50 : Hid (w5a.there q8 0 29) := by have := there_blk (cs := cx (.slice none 0 0) 0 Z) P8.out; rwa [cx_len hZl] at this
          have R8 : Hid (Blk (w5a.setCells q8 0 (cx (.slice va vn vc) S1.cur S1.m)) q8 50 (cxa (.slice va vn vc) S1.cur S1.m)) := put_blk (cs := (cx (.slice va vn vc) S1.cur S1.m)) (old := cx (.slice none 0 0) 0 Z) (by rw [cx_len hZl, cx_len HMW2.out.len]) P8.out
          have R7 := mkH (P7.out.wr (wr_of P8.out GB.out) (by decide))
          have HSTb := mkH (HSTa.out.wr (wr_of P8.out GB.out) (by decide) (by decide) (by decide))
          have EDSb := mkH (EDSa.out.wr (wr_of P8.out GB.out) (by decide) (by decide))
          have UDb := mkH (UDa.out.low (lo := q8) (Below.grown (Below.refl q8 w5a) GB.out (Nat.le_of_lt P8.out.lt) (fun j hj => by injection hj with hj; omega)) NA8.out)
          refine do_st ty50 rfl (.tmp 8) (.tmp 43) rfl rfl (cx (.slice va vn vc) S1.cur S1.m) rfl (cx_len HMW2.out.len) t50.out cx_one ?_
          clear GB t50 P7 P8 HSTa EDSa UDa
          generalize w5a.setCells q8 0 (cx (.slice va vn vc) S1.cur S1.m) = w5 at *
          refine hK _ _ ⟨UDb.out, ?_⟩
          clear hK K
          try simp only [Act.put, jj1, jj2, jj3, jj4, jj5, jj6]
          refine wpAnyH_done (by kernel_rfl) ?_ _
          go_wp2_with fail
          go_meet
          exact ⟨q7, q8, B, k, vn, vc, lo, p, va, H2, X, Sx, F2, rfl, rfl, ⟨UDb.out, by rw [HH2.out]; exact R7.out, R8.out, HG2.out, HF2.out, HSTb.out, ⟨_, EDSb.out⟩, HFL2.out, HMW2.out, by rw [HH2.out]; exact HKc.out, HLO.out.1, HLO.out.2, NA7.out, NA8.out⟩⟩
        · skip
          have hzz := hz50 waq7
          go_simp
          clear hzz
          obtain ⟨q8, hq8⟩ : ∃ x, waq7.heap.size = x := ⟨_, rfl⟩
          have hbn : Below waq7.heap.size waq7 (waq7.alloc (.cells (cxa (.slice none 0 0) 0 Z) 50)) := bAlloc (Below.refl _ _) _
          have A8 : Hid (Blk (waq7.alloc (.cells (cxa (.slice none 0 0) 0 Z) 50)) q8 50 (cxa (.slice none 0 0) 0 Z)) := by unfold Hid; rw [← hq8]; exact Blk.new waq7 50 _
          have NA8 : Hid (w.heap.size + 1 + 1 + 1 < q8) := by unfold Hid; rw [← hq8]; exact UD.out.b4.lt
          replace HST := mkH (HST.out.keep hbn)
          replace A7 := mkH (A7.out.keep hbn)
          replace UD := mkH (UD.out.keep hbn)
          rw [hq8]
          clear hq8 hbn
          generalize waq7.alloc (.cells (cxa (.slice none 0 0) 0 Z) 50) = waq8 at *
          refine hK _ _ ⟨UD.out, ?_⟩
          clear hK K
          try simp only [Act.put, jj1, jj2, jj3, jj4, jj5, jj6]
          refine wpAnyH_all (rs := [11]) (by kernel_rfl) (by simp) (AllH.cons rfl (fun K hK => ?_) AllH.nil)
          go_simp
          refine (CXD.out lo p B n k x0 (p0 : Int) H1 X Sx (Wk.new (G.map Nr.d) (p0 : Int) m) waq8 p0 HST.out HH1.out ⟨HGc.out, rfl, rfl, rfl, rfl⟩ HX0.out HP0.out HPX.out (fun r hr => by have h1 := map_at (G := H1) hr; rw [HGc.out] at h1; have h2 : (at' (G.map Nr.d) x0).par = r.par := (by rw [h1]; rfl); rw [← h2]; exact HXP.out)).mono ?_
          rintro e wc2 ⟨va, vn, vc, H2, F2, rfl, hG2, hF2, hH2, hst2, hls2, hfl2, hmw2, hbl2, hfr2, -⟩
          rw [HS1.out] at hG2 hF2 hmw2 ⊢
          have UD2 : Hid (U4 w wc2 (some ⟨g, o, none⟩) n c (p0 : Int) m Z) := UD.out.low hbl2 HLO.out.1
          replace UD := UD2
          clear UD2
          replace A7 : Hid (Blk wc2 q7 24 #[.slice none 0 0, .int .i64 0]) := by have hx := A7.out; unfold Hid; unfold Blk at hx ⊢; rw [hfr2 q7 (Array.getElem?_eq_some_iff.1 hx).1 (nb_ne hx HST.out.row (by decide)) (nb_ne hx HST.out.row (by decide)) (by simp [Value.ownBlock])]; exact hx
          replace A8 : Hid (Blk wc2 q8 50 (cxa (.slice none 0 0) 0 Z)) := by have hx := A8.out; unfold Hid; unfold Blk at hx ⊢; rw [hfr2 q8 (Array.getElem?_eq_some_iff.1 hx).1 (nb_ne hx HST.out.row (by decide)) (nb_ne hx HST.out.row (by decide)) (by simp [Value.ownBlock])]; exact hx
          replace HST := mkH hst2
          have EDS := mkH hls2
          have HG2 := mkH hG2
          have HF2 := mkH hF2
          have HH2 := mkH hH2
          have HFL2 := mkH hfl2
          have HMW2 := mkH hmw2
          clear hG2 hF2 hH2 hst2 hls2 hfl2 hmw2 hbl2 hfr2
          dsimp only
          refine hK _ _ ⟨UD.out, ?_⟩
          clear hK K
          try simp only [Act.put, jj1, jj2, jj3, jj4, jj5, jj6]
          refine tk 12 (.tuple #[.agg #[.slice (some ⟨B, 0, none⟩) n k, .int .i64 S1.now], .agg (cxa (.slice va vn vc) S1.cur S1.m)]) UD.out ?_
          refine tk 13 (.agg #[.slice (some ⟨B, 0, none⟩) n k, .int .i64 S1.now]) UD.out ?_
          refine tk 14 (.agg (cxa (.slice va vn vc) S1.cur S1.m)) UD.out ?_
          try simp only [Act.put, jj1, jj2, jj3, jj4, jj5, jj6]
          refine wpAnyH_all (rs := [17]) (by kernel_rfl) (by simp) (AllH.cons rfl (fun K hK => ?_) AllH.nil)
          have GA : Hid (wc2.grownBy (wc2.setCells q7 0 [.slice (some ⟨B, 0, none⟩) n k, .int .i64 S1.now]) (some q7)) := grown_setCells _ _ _
          have t24 : Hid (wc2.there q7 0 2) := there_blk (cs := [.slice none 0 0, .int .i64 0]) A7.out
          have P7 : Hid (Blk (wc2.setCells q7 0 [.slice (some ⟨B, 0, none⟩) n k, .int .i64 S1.now]) q7 24 #[.slice (some ⟨B, 0, none⟩) n k, .int .i64 S1.now]) := put_blk (cs := [.slice (some ⟨B, 0, none⟩) n k, .int .i64 S1.now]) (old := [.slice none 0 0, .int .i64 0]) rfl A7.out
          have P8 := mkH (A8.out.wr (wr_of A7.out GA.out) (by decide))
          have HSTa := mkH (HST.out.wr (wr_of A7.out GA.out) (by decide) (by decide) (by decide))
          have EDSa := mkH (EDS.out.wr (wr_of A7.out GA.out) (by decide) (by decide))
          have UDa := mkH (UD.out.low (lo := q7) (Below.grown (Below.refl q7 wc2) GA.out (Nat.le_of_lt A7.out.lt) (fun j hj => by injection hj with hj; omega)) NA7.out)
          refine do_st ty24 rfl (.tmp 7) (.tmp 42) rfl rfl [.slice (some ⟨B, 0, none⟩) n k, .int .i64 S1.now] rfl rfl t24.out (fun v hv => by simp at hv; rcases hv with rfl | rfl <;> rfl) ?_
          clear GA t24 A7 A8 HST EDS UD
          generalize wc2.setCells q7 0 [.slice (some ⟨B, 0, none⟩) n k, .int .i64 S1.now] = w5a at *
          refine hK _ _ ⟨UDa.out, ?_⟩
          clear hK K
          try simp only [Act.put, jj1, jj2, jj3, jj4, jj5, jj6]
          refine wpAnyH_all (rs := [18]) (by kernel_rfl) (by simp) (AllH.cons rfl (fun K hK => ?_) AllH.nil)
          have GB : Hid (w5a.grownBy (w5a.setCells q8 0 (cx (.slice va vn vc) S1.cur S1.m)) (some q8)) := grown_setCells _ _ _
          have t50 : Hid (w5a.there q8 0 29) := by have := there_blk (cs := cx (.slice none 0 0) 0 Z) P8.out; rwa [cx_len hZl] at this
          have R8 : Hid (Blk (w5a.setCells q8 0 (cx (.slice va vn vc) S1.cur S1.m)) q8 50 (cxa (.slice va vn vc) S1.cur S1.m)) := put_blk (cs := (cx (.slice va vn vc) S1.cur S1.m)) (old := cx (.slice none 0 0) 0 Z) (by rw [cx_len hZl, cx_len HMW2.out.len]) P8.out
          have R7 := mkH (P7.out.wr (wr_of P8.out GB.out) (by decide))
          have HSTb := mkH (HSTa.out.wr (wr_of P8.out GB.out) (by decide) (by decide) (by decide))
          have EDSb := mkH (EDSa.out.wr (wr_of P8.out GB.out) (by decide) (by decide))
          have UDb := mkH (UDa.out.low (lo := q8) (Below.grown (Below.refl q8 w5a) GB.out (Nat.le_of_lt P8.out.lt) (fun j hj => by injection hj with hj; omega)) NA8.out)
          refine do_st ty50 rfl (.tmp 8) (.tmp 43) rfl rfl (cx (.slice va vn vc) S1.cur S1.m) rfl (cx_len HMW2.out.len) t50.out cx_one ?_
          clear GB t50 P7 P8 HSTa EDSa UDa
          generalize w5a.setCells q8 0 (cx (.slice va vn vc) S1.cur S1.m) = w5 at *
          refine hK _ _ ⟨UDb.out, ?_⟩
          clear hK K
          try simp only [Act.put, jj1, jj2, jj3, jj4, jj5, jj6]
          refine wpAnyH_done (by kernel_rfl) ?_ _
          go_wp2_with fail
          go_meet
          exact ⟨q7, q8, B, k, vn, vc, lo, p, va, H2, X, Sx, F2, rfl, rfl, ⟨UDb.out, by rw [HH2.out]; exact R7.out, R8.out, HG2.out, HF2.out, HSTb.out, ⟨_, EDSb.out⟩, HFL2.out, HMW2.out, by rw [HH2.out]; exact HKc.out, HLO.out.1, HLO.out.2, NA7.out, NA8.out⟩⟩
      · skip
        have hzz := hz50 wc1
        go_simp
        clear hzz
        obtain ⟨q8, hq8⟩ : ∃ x, wc1.heap.size = x := ⟨_, rfl⟩
        have hbn : Below wc1.heap.size wc1 (wc1.alloc (.cells (cxa (.slice none 0 0) 0 Z) 50)) := bAlloc (Below.refl _ _) _
        have A8 : Hid (Blk (wc1.alloc (.cells (cxa (.slice none 0 0) 0 Z) 50)) q8 50 (cxa (.slice none 0 0) 0 Z)) := by unfold Hid; rw [← hq8]; exact Blk.new wc1 50 _
        have NA8 : Hid (w.heap.size + 1 + 1 + 1 < q8) := by unfold Hid; rw [← hq8]; exact UD.out.b4.lt
        replace HST := mkH (HST.out.keep hbn)
        replace UD := mkH (UD.out.keep hbn)
        rw [hq8]
        clear hq8 hbn
        generalize wc1.alloc (.cells (cxa (.slice none 0 0) 0 Z) 50) = waq8 at *
        refine hK _ _ ⟨UD.out, ?_⟩
        clear hK K
        try simp only [Act.put, jj1, jj2, jj3, jj4, jj5, jj6]
        refine wpAnyH_all (rs := [11, 15]) (by kernel_rfl) (by simp) (AllH.cons rfl (fun K hK => ?_) (AllH.cons rfl (fun K hK => ?_) AllH.nil))
        · skip
          go_simp
          refine (CXD.out lo p B n k x0 (p0 : Int) H1 X Sx (Wk.new (G.map Nr.d) (p0 : Int) m) waq8 p0 HST.out HH1.out ⟨HGc.out, rfl, rfl, rfl, rfl⟩ HX0.out HP0.out HPX.out (fun r hr => by have h1 := map_at (G := H1) hr; rw [HGc.out] at h1; have h2 : (at' (G.map Nr.d) x0).par = r.par := (by rw [h1]; rfl); rw [← h2]; exact HXP.out)).mono ?_
          rintro e wc2 ⟨va, vn, vc, H2, F2, rfl, hG2, hF2, hH2, hst2, hls2, hfl2, hmw2, hbl2, hfr2, -⟩
          rw [HS1.out] at hG2 hF2 hmw2 ⊢
          have UD2 : Hid (U4 w wc2 (some ⟨g, o, none⟩) n c (p0 : Int) m Z) := UD.out.low hbl2 HLO.out.1
          replace UD := UD2
          clear UD2
          replace A8 : Hid (Blk wc2 q8 50 (cxa (.slice none 0 0) 0 Z)) := by have hx := A8.out; unfold Hid; unfold Blk at hx ⊢; rw [hfr2 q8 (Array.getElem?_eq_some_iff.1 hx).1 (nb_ne hx HST.out.row (by decide)) (nb_ne hx HST.out.row (by decide)) (by simp [Value.ownBlock])]; exact hx
          replace HST := mkH hst2
          have EDS := mkH hls2
          have HG2 := mkH hG2
          have HF2 := mkH hF2
          have HH2 := mkH hH2
          have HFL2 := mkH hfl2
          have HMW2 := mkH hmw2
          clear hG2 hF2 hH2 hst2 hls2 hfl2 hmw2 hbl2 hfr2
          dsimp only
          refine hK _ _ ⟨UD.out, ?_⟩
          clear hK K
          refine tk 12 (.tuple #[.agg #[.slice (some ⟨B, 0, none⟩) n k, .int .i64 S1.now], .agg (cxa (.slice va vn vc) S1.cur S1.m)]) UD.out ?_
          try simp only [Act.put, jj1, jj2, jj3, jj4, jj5, jj6]
          refine tk 13 (.agg #[.slice (some ⟨B, 0, none⟩) n k, .int .i64 S1.now]) UD.out ?_
          refine tk 14 (.agg (cxa (.slice va vn vc) S1.cur S1.m)) UD.out ?_
          try simp only [Act.put, jj1, jj2, jj3, jj4, jj5, jj6]
          refine wpAnyH_all (rs := [15]) (by kernel_rfl) (by simp) (AllH.cons rfl (fun K hK => ?_) AllH.nil)
          go_simp
          obtain ⟨q7, hq7⟩ : ∃ x, wc2.heap.size = x := ⟨_, rfl⟩
          have hbn : Below wc2.heap.size wc2 (wc2.alloc (.cells #[.slice none 0 0, .int .i64 0] 24)) := bAlloc (Below.refl _ _) _
          have A7 : Hid (Blk (wc2.alloc (.cells #[.slice none 0 0, .int .i64 0] 24)) q7 24 #[.slice none 0 0, .int .i64 0]) := by unfold Hid; rw [← hq7]; exact Blk.new wc2 24 _
          have NA7 : Hid (w.heap.size + 1 + 1 + 1 < q7) := by unfold Hid; rw [← hq7]; exact UD.out.b4.lt
          replace HST := mkH (HST.out.keep hbn)
          replace A8 := mkH (A8.out.keep hbn)
          replace EDS := mkH (EDS.out.keep hbn)
          replace UD := mkH (UD.out.keep hbn)
          rw [hq7]
          clear hq7 hbn
          generalize wc2.alloc (.cells #[.slice none 0 0, .int .i64 0] 24) = waq7 at *
          refine hK _ _ ⟨UD.out, ?_⟩
          clear hK K
          try simp only [Act.put, jj1, jj2, jj3, jj4, jj5, jj6]
          refine wpAnyH_all (rs := [17]) (by kernel_rfl) (by simp) (AllH.cons rfl (fun K hK => ?_) AllH.nil)
          have GA : Hid (waq7.grownBy (waq7.setCells q7 0 [.slice (some ⟨B, 0, none⟩) n k, .int .i64 S1.now]) (some q7)) := grown_setCells _ _ _
          have t24 : Hid (waq7.there q7 0 2) := there_blk (cs := [.slice none 0 0, .int .i64 0]) A7.out
          have P7 : Hid (Blk (waq7.setCells q7 0 [.slice (some ⟨B, 0, none⟩) n k, .int .i64 S1.now]) q7 24 #[.slice (some ⟨B, 0, none⟩) n k, .int .i64 S1.now]) := put_blk (cs := [.slice (some ⟨B, 0, none⟩) n k, .int .i64 S1.now]) (old := [.slice none 0 0, .int .i64 0]) rfl A7.out
          have P8 := mkH (A8.out.wr (wr_of A7.out GA.out) (by decide))
          have HSTa := mkH (HST.out.wr (wr_of A7.out GA.out) (by decide) (by decide) (by decide))
          have EDSa := mkH (EDS.out.wr (wr_of A7.out GA.out) (by decide) (by decide))
          have UDa := mkH (UD.out.low (lo := q7) (Below.grown (Below.refl q7 waq7) GA.out (Nat.le_of_lt A7.out.lt) (fun j hj => by injection hj with hj; omega)) NA7.out)
          refine do_st ty24 rfl (.tmp 7) (.tmp 42) rfl rfl [.slice (some ⟨B, 0, none⟩) n k, .int .i64 S1.now] rfl rfl t24.out (fun v hv => by simp at hv; rcases hv with rfl | rfl <;> rfl) ?_
          clear GA t24 A7 A8 HST EDS UD
          generalize waq7.setCells q7 0 [.slice (some ⟨B, 0, none⟩) n k, .int .i64 S1.now] = w5a at *
          refine hK _ _ ⟨UDa.out, ?_⟩
          clear hK K
          try simp only [Act.put, jj1, jj2, jj3, jj4, jj5, jj6]
          refine wpAnyH_all (rs := [18]) (by kernel_rfl) (by simp) (AllH.cons rfl (fun K hK => ?_) AllH.nil)
          have GB : Hid (w5a.grownBy (w5a.setCells q8 0 (cx (.slice va vn vc) S1.cur S1.m)) (some q8)) := grown_setCells _ _ _
          have t50 : Hid (w5a.there q8 0 29) := by have := there_blk (cs := cx (.slice none 0 0) 0 Z) P8.out; rwa [cx_len hZl] at this
          have R8 : Hid (Blk (w5a.setCells q8 0 (cx (.slice va vn vc) S1.cur S1.m)) q8 50 (cxa (.slice va vn vc) S1.cur S1.m)) := put_blk (cs := (cx (.slice va vn vc) S1.cur S1.m)) (old := cx (.slice none 0 0) 0 Z) (by rw [cx_len hZl, cx_len HMW2.out.len]) P8.out
          have R7 := mkH (P7.out.wr (wr_of P8.out GB.out) (by decide))
          have HSTb := mkH (HSTa.out.wr (wr_of P8.out GB.out) (by decide) (by decide) (by decide))
          have EDSb := mkH (EDSa.out.wr (wr_of P8.out GB.out) (by decide) (by decide))
          have UDb := mkH (UDa.out.low (lo := q8) (Below.grown (Below.refl q8 w5a) GB.out (Nat.le_of_lt P8.out.lt) (fun j hj => by injection hj with hj; omega)) NA8.out)
          refine do_st ty50 rfl (.tmp 8) (.tmp 43) rfl rfl (cx (.slice va vn vc) S1.cur S1.m) rfl (cx_len HMW2.out.len) t50.out cx_one ?_
          clear GB t50 P7 P8 HSTa EDSa UDa
          generalize w5a.setCells q8 0 (cx (.slice va vn vc) S1.cur S1.m) = w5 at *
          refine hK _ _ ⟨UDb.out, ?_⟩
          clear hK K
          try simp only [Act.put, jj1, jj2, jj3, jj4, jj5, jj6]
          refine wpAnyH_done (by kernel_rfl) ?_ _
          go_wp2_with fail
          go_meet
          exact ⟨q7, q8, B, k, vn, vc, lo, p, va, H2, X, Sx, F2, rfl, rfl, ⟨UDb.out, by rw [HH2.out]; exact R7.out, R8.out, HG2.out, HF2.out, HSTb.out, ⟨_, EDSb.out⟩, HFL2.out, HMW2.out, by rw [HH2.out]; exact HKc.out, HLO.out.1, HLO.out.2, NA7.out, NA8.out⟩⟩
        · skip
          go_simp
          obtain ⟨q7, hq7⟩ : ∃ x, waq8.heap.size = x := ⟨_, rfl⟩
          have hbn : Below waq8.heap.size waq8 (waq8.alloc (.cells #[.slice none 0 0, .int .i64 0] 24)) := bAlloc (Below.refl _ _) _
          have A7 : Hid (Blk (waq8.alloc (.cells #[.slice none 0 0, .int .i64 0] 24)) q7 24 #[.slice none 0 0, .int .i64 0]) := by unfold Hid; rw [← hq7]; exact Blk.new waq8 24 _
          have NA7 : Hid (w.heap.size + 1 + 1 + 1 < q7) := by unfold Hid; rw [← hq7]; exact UD.out.b4.lt
          replace HST := mkH (HST.out.keep hbn)
          replace A8 := mkH (A8.out.keep hbn)
          replace UD := mkH (UD.out.keep hbn)
          rw [hq7]
          clear hq7 hbn
          generalize waq8.alloc (.cells #[.slice none 0 0, .int .i64 0] 24) = waq7 at *
          refine hK _ _ ⟨UD.out, ?_⟩
          clear hK K
          try simp only [Act.put, jj1, jj2, jj3, jj4, jj5, jj6]
          refine wpAnyH_all (rs := [11]) (by kernel_rfl) (by simp) (AllH.cons rfl (fun K hK => ?_) AllH.nil)
          go_simp
          refine (CXD.out lo p B n k x0 (p0 : Int) H1 X Sx (Wk.new (G.map Nr.d) (p0 : Int) m) waq7 p0 HST.out HH1.out ⟨HGc.out, rfl, rfl, rfl, rfl⟩ HX0.out HP0.out HPX.out (fun r hr => by have h1 := map_at (G := H1) hr; rw [HGc.out] at h1; have h2 : (at' (G.map Nr.d) x0).par = r.par := (by rw [h1]; rfl); rw [← h2]; exact HXP.out)).mono ?_
          rintro e wc2 ⟨va, vn, vc, H2, F2, rfl, hG2, hF2, hH2, hst2, hls2, hfl2, hmw2, hbl2, hfr2, -⟩
          rw [HS1.out] at hG2 hF2 hmw2 ⊢
          have UD2 : Hid (U4 w wc2 (some ⟨g, o, none⟩) n c (p0 : Int) m Z) := UD.out.low hbl2 HLO.out.1
          replace UD := UD2
          clear UD2
          replace A8 : Hid (Blk wc2 q8 50 (cxa (.slice none 0 0) 0 Z)) := by have hx := A8.out; unfold Hid; unfold Blk at hx ⊢; rw [hfr2 q8 (Array.getElem?_eq_some_iff.1 hx).1 (nb_ne hx HST.out.row (by decide)) (nb_ne hx HST.out.row (by decide)) (by simp [Value.ownBlock])]; exact hx
          replace A7 : Hid (Blk wc2 q7 24 #[.slice none 0 0, .int .i64 0]) := by have hx := A7.out; unfold Hid; unfold Blk at hx ⊢; rw [hfr2 q7 (Array.getElem?_eq_some_iff.1 hx).1 (nb_ne hx HST.out.row (by decide)) (nb_ne hx HST.out.row (by decide)) (by simp [Value.ownBlock])]; exact hx
          replace HST := mkH hst2
          have EDS := mkH hls2
          have HG2 := mkH hG2
          have HF2 := mkH hF2
          have HH2 := mkH hH2
          have HFL2 := mkH hfl2
          have HMW2 := mkH hmw2
          clear hG2 hF2 hH2 hst2 hls2 hfl2 hmw2 hbl2 hfr2
          dsimp only
          refine hK _ _ ⟨UD.out, ?_⟩
          clear hK K
          refine tk 12 (.tuple #[.agg #[.slice (some ⟨B, 0, none⟩) n k, .int .i64 S1.now], .agg (cxa (.slice va vn vc) S1.cur S1.m)]) UD.out ?_
          refine tk 13 (.agg #[.slice (some ⟨B, 0, none⟩) n k, .int .i64 S1.now]) UD.out ?_
          try simp only [Act.put, jj1, jj2, jj3, jj4, jj5, jj6]
          refine tk 14 (.agg (cxa (.slice va vn vc) S1.cur S1.m)) UD.out ?_
          try simp only [Act.put, jj1, jj2, jj3, jj4, jj5, jj6]
          refine wpAnyH_all (rs := [17]) (by kernel_rfl) (by simp) (AllH.cons rfl (fun K hK => ?_) AllH.nil)
          have GA : Hid (wc2.grownBy (wc2.setCells q7 0 [.slice (some ⟨B, 0, none⟩) n k, .int .i64 S1.now]) (some q7)) := grown_setCells _ _ _
          have t24 : Hid (wc2.there q7 0 2) := there_blk (cs := [.slice none 0 0, .int .i64 0]) A7.out
          have P7 : Hid (Blk (wc2.setCells q7 0 [.slice (some ⟨B, 0, none⟩) n k, .int .i64 S1.now]) q7 24 #[.slice (some ⟨B, 0, none⟩) n k, .int .i64 S1.now]) := put_blk (cs := [.slice (some ⟨B, 0, none⟩) n k, .int .i64 S1.now]) (old := [.slice none 0 0, .int .i64 0]) rfl A7.out
          have P8 := mkH (A8.out.wr (wr_of A7.out GA.out) (by decide))
          have HSTa := mkH (HST.out.wr (wr_of A7.out GA.out) (by decide) (by decide) (by decide))
          have EDSa := mkH (EDS.out.wr (wr_of A7.out GA.out) (by decide) (by decide))
          have UDa := mkH (UD.out.low (lo := q7) (Below.grown (Below.refl q7 wc2) GA.out (Nat.le_of_lt A7.out.lt) (fun j hj => by injection hj with hj; omega)) NA7.out)
          refine do_st ty24 rfl (.tmp 7) (.tmp 42) rfl rfl [.slice (some ⟨B, 0, none⟩) n k, .int .i64 S1.now] rfl rfl t24.out (fun v hv => by simp at hv; rcases hv with rfl | rfl <;> rfl) ?_
          clear GA t24 A7 A8 HST EDS UD
          generalize wc2.setCells q7 0 [.slice (some ⟨B, 0, none⟩) n k, .int .i64 S1.now] = w5a at *
          refine hK _ _ ⟨UDa.out, ?_⟩
          clear hK K
          try simp only [Act.put, jj1, jj2, jj3, jj4, jj5, jj6]
          refine wpAnyH_all (rs := [18]) (by kernel_rfl) (by simp) (AllH.cons rfl (fun K hK => ?_) AllH.nil)
          have GB : Hid (w5a.grownBy (w5a.setCells q8 0 (cx (.slice va vn vc) S1.cur S1.m)) (some q8)) := grown_setCells _ _ _
          have t50 : Hid (w5a.there q8 0 29) := by have := there_blk (cs := cx (.slice none 0 0) 0 Z) P8.out; rwa [cx_len hZl] at this
          have R8 : Hid (Blk (w5a.setCells q8 0 (cx (.slice va vn vc) S1.cur S1.m)) q8 50 (cxa (.slice va vn vc) S1.cur S1.m)) := put_blk (cs := (cx (.slice va vn vc) S1.cur S1.m)) (old := cx (.slice none 0 0) 0 Z) (by rw [cx_len hZl, cx_len HMW2.out.len]) P8.out
          have R7 := mkH (P7.out.wr (wr_of P8.out GB.out) (by decide))
          have HSTb := mkH (HSTa.out.wr (wr_of P8.out GB.out) (by decide) (by decide) (by decide))
          have EDSb := mkH (EDSa.out.wr (wr_of P8.out GB.out) (by decide) (by decide))
          have UDb := mkH (UDa.out.low (lo := q8) (Below.grown (Below.refl q8 w5a) GB.out (Nat.le_of_lt P8.out.lt) (fun j hj => by injection hj with hj; omega)) NA8.out)
          refine do_st ty50 rfl (.tmp 8) (.tmp 43) rfl rfl (cx (.slice va vn vc) S1.cur S1.m) rfl (cx_len HMW2.out.len) t50.out cx_one ?_
          clear GB t50 P7 P8 HSTa EDSa UDa
          generalize w5a.setCells q8 0 (cx (.slice va vn vc) S1.cur S1.m) = w5 at *
          refine hK _ _ ⟨UDb.out, ?_⟩
          clear hK K
          try simp only [Act.put, jj1, jj2, jj3, jj4, jj5, jj6]
          refine wpAnyH_done (by kernel_rfl) ?_ _
          go_wp2_with fail
          go_meet
          exact ⟨q7, q8, B, k, vn, vc, lo, p, va, H2, X, Sx, F2, rfl, rfl, ⟨UDb.out, by rw [HH2.out]; exact R7.out, R8.out, HG2.out, HF2.out, HSTb.out, ⟨_, EDSb.out⟩, HFL2.out, HMW2.out, by rw [HH2.out]; exact HKc.out, HLO.out.1, HLO.out.2, NA7.out, NA8.out⟩⟩
    · skip
      go_simp
      obtain ⟨q7, hq7⟩ : ∃ x, V3.heap.size = x := ⟨_, rfl⟩
      have hbn : Below V3.heap.size V3 (V3.alloc (.cells #[.slice none 0 0, .int .i64 0] 24)) := bAlloc (Below.refl _ _) _
      have A7 : Hid (Blk (V3.alloc (.cells #[.slice none 0 0, .int .i64 0] 24)) q7 24 #[.slice none 0 0, .int .i64 0]) := by unfold Hid; rw [← hq7]; exact Blk.new V3 24 _
      have NA7 : Hid (w.heap.size + 1 + 1 + 1 < q7) := by unfold Hid; rw [← hq7]; exact UD.out.b4.lt
      replace UD := mkH (UD.out.keep hbn)
      rw [hq7]
      clear hq7 hbn
      generalize V3.alloc (.cells #[.slice none 0 0, .int .i64 0] 24) = waq7 at *
      refine hK _ _ ⟨UD.out, ?_⟩
      clear hK K
      try simp only [Act.put, jj1, jj2, jj3, jj4, jj5, jj6]
      refine wpAnyH_all (rs := [1, 16]) (by kernel_rfl) (by simp) (AllH.cons rfl (fun K hK => ?_) (AllH.cons rfl (fun K hK => ?_) AllH.nil))
      · skip
        go_simp
        refine (C36.out HN6.out waq7 UD.out.bel).mono ?_
        rintro e wc1 ⟨v1, H1, Sx, rfl, hG, hrow, hbc⟩
        obtain ⟨lo, hlo⟩ : ∃ x, waq7.heap.size = x := ⟨_, rfl⟩
        obtain ⟨p, hp⟩ : ∃ x, wc1.heap.size = x := ⟨_, rfl⟩
        have HLO : Hid (w.heap.size + 1 + 1 + 1 < lo ∧ lo ≤ p) := ⟨by rw [← hlo]; exact UD.out.b4.lt, by rw [← hlo, ← hp]; exact hbc.size⟩
        have hH1 : H1.length = n := by have := congrArg List.length hG; rw [List.length_map, List.length_map, HN.out] at this; exact this
        obtain ⟨B, k, X, rfl, hk, hst⟩ := hrow.hst (by rw [hH1]; have := HP0.out; omega)
        rw [hlo, hp] at hst
        rw [hH1] at hk ⊢
        have HST := mkH hst
        have HH1 := mkH hH1
        have HGc := mkH hG
        have HKc := mkH hk
        replace A7 := mkH (A7.out.keep hbc)
        replace UD := mkH (UD.out.keep hbc)
        clear hrow hst hH1 hG hk hbc hlo hp
        dsimp only
        refine hK _ _ ⟨UD.out, ?_⟩
        clear hK K
        try simp only [Act.put, jj1, jj2, jj3, jj4, jj5, jj6]
        refine wpAnyH_all (rs := [11, 16]) (by kernel_rfl) (by simp) (AllH.cons rfl (fun K hK => ?_) (AllH.cons rfl (fun K hK => ?_) AllH.nil))
        · skip
          go_simp
          refine (CXD.out lo p B n k x0 (p0 : Int) H1 X Sx (Wk.new (G.map Nr.d) (p0 : Int) m) wc1 p0 HST.out HH1.out ⟨HGc.out, rfl, rfl, rfl, rfl⟩ HX0.out HP0.out HPX.out (fun r hr => by have h1 := map_at (G := H1) hr; rw [HGc.out] at h1; have h2 : (at' (G.map Nr.d) x0).par = r.par := (by rw [h1]; rfl); rw [← h2]; exact HXP.out)).mono ?_
          rintro e wc2 ⟨va, vn, vc, H2, F2, rfl, hG2, hF2, hH2, hst2, hls2, hfl2, hmw2, hbl2, hfr2, -⟩
          rw [HS1.out] at hG2 hF2 hmw2 ⊢
          have UD2 : Hid (U4 w wc2 (some ⟨g, o, none⟩) n c (p0 : Int) m Z) := UD.out.low hbl2 HLO.out.1
          replace UD := UD2
          clear UD2
          replace A7 : Hid (Blk wc2 q7 24 #[.slice none 0 0, .int .i64 0]) := by have hx := A7.out; unfold Hid; unfold Blk at hx ⊢; rw [hfr2 q7 (Array.getElem?_eq_some_iff.1 hx).1 (nb_ne hx HST.out.row (by decide)) (nb_ne hx HST.out.row (by decide)) (by simp [Value.ownBlock])]; exact hx
          replace HST := mkH hst2
          have EDS := mkH hls2
          have HG2 := mkH hG2
          have HF2 := mkH hF2
          have HH2 := mkH hH2
          have HFL2 := mkH hfl2
          have HMW2 := mkH hmw2
          clear hG2 hF2 hH2 hst2 hls2 hfl2 hmw2 hbl2 hfr2
          dsimp only
          refine hK _ _ ⟨UD.out, ?_⟩
          clear hK K
          refine tk 12 (.tuple #[.agg #[.slice (some ⟨B, 0, none⟩) n k, .int .i64 S1.now], .agg (cxa (.slice va vn vc) S1.cur S1.m)]) UD.out ?_
          refine tk 13 (.agg #[.slice (some ⟨B, 0, none⟩) n k, .int .i64 S1.now]) UD.out ?_
          refine tk 14 (.agg (cxa (.slice va vn vc) S1.cur S1.m)) UD.out ?_
          try simp only [Act.put, jj1, jj2, jj3, jj4, jj5, jj6]
          refine wpAnyH_all (rs := [16]) (by kernel_rfl) (by simp) (AllH.cons rfl (fun K hK => ?_) AllH.nil)
          have hzz := hz50 wc2
          go_simp
          clear hzz
          obtain ⟨q8, hq8⟩ : ∃ x, wc2.heap.size = x := ⟨_, rfl⟩
          have hbn : Below wc2.heap.size wc2 (wc2.alloc (.cells (cxa (.slice none 0 0) 0 Z) 50)) := bAlloc (Below.refl _ _) _
          have A8 : Hid (Blk (wc2.alloc (.cells (cxa (.slice none 0 0) 0 Z) 50)) q8 50 (cxa (.slice none 0 0) 0 Z)) := by unfold Hid; rw [← hq8]; exact Blk.new wc2 50 _
          have NA8 : Hid (w.heap.size + 1 + 1 + 1 < q8) := by unfold Hid; rw [← hq8]; exact UD.out.b4.lt
          replace A7 := mkH (A7.out.keep hbn)
          replace HST := mkH (HST.out.keep hbn)
          replace EDS := mkH (EDS.out.keep hbn)
          replace UD := mkH (UD.out.keep hbn)
          rw [hq8]
          clear hq8 hbn
          generalize wc2.alloc (.cells (cxa (.slice none 0 0) 0 Z) 50) = waq8 at *
          refine hK _ _ ⟨UD.out, ?_⟩
          clear hK K
          try simp only [Act.put, jj1, jj2, jj3, jj4, jj5, jj6]
          refine wpAnyH_all (rs := [17]) (by kernel_rfl) (by simp) (AllH.cons rfl (fun K hK => ?_) AllH.nil)
          have GA : Hid (waq8.grownBy (waq8.setCells q7 0 [.slice (some ⟨B, 0, none⟩) n k, .int .i64 S1.now]) (some q7)) := grown_setCells _ _ _
          have t24 : Hid (waq8.there q7 0 2) := there_blk (cs := [.slice none 0 0, .int .i64 0]) A7.out
          have P7 : Hid (Blk (waq8.setCells q7 0 [.slice (some ⟨B, 0, none⟩) n k, .int .i64 S1.now]) q7 24 #[.slice (some ⟨B, 0, none⟩) n k, .int .i64 S1.now]) := put_blk (cs := [.slice (some ⟨B, 0, none⟩) n k, .int .i64 S1.now]) (old := [.slice none 0 0, .int .i64 0]) rfl A7.out
          have P8 := mkH (A8.out.wr (wr_of A7.out GA.out) (by decide))
          have HSTa := mkH (HST.out.wr (wr_of A7.out GA.out) (by decide) (by decide) (by decide))
          have EDSa := mkH (EDS.out.wr (wr_of A7.out GA.out) (by decide) (by decide))
          have UDa := mkH (UD.out.low (lo := q7) (Below.grown (Below.refl q7 waq8) GA.out (Nat.le_of_lt A7.out.lt) (fun j hj => by injection hj with hj; omega)) NA7.out)
          refine do_st ty24 rfl (.tmp 7) (.tmp 42) rfl rfl [.slice (some ⟨B, 0, none⟩) n k, .int .i64 S1.now] rfl rfl t24.out (fun v hv => by simp at hv; rcases hv with rfl | rfl <;> rfl) ?_
          clear GA t24 A7 A8 HST EDS UD
          generalize waq8.setCells q7 0 [.slice (some ⟨B, 0, none⟩) n k, .int .i64 S1.now] = w5a at *
          refine hK _ _ ⟨UDa.out, ?_⟩
          clear hK K
          try simp only [Act.put, jj1, jj2, jj3, jj4, jj5, jj6]
          refine wpAnyH_all (rs := [18]) (by kernel_rfl) (by simp) (AllH.cons rfl (fun K hK => ?_) AllH.nil)
          have GB : Hid (w5a.grownBy (w5a.setCells q8 0 (cx (.slice va vn vc) S1.cur S1.m)) (some q8)) := grown_setCells _ _ _
          have t50 : Hid (w5a.there q8 0 29) := by have := there_blk (cs := cx (.slice none 0 0) 0 Z) P8.out; rwa [cx_len hZl] at this
          have R8 : Hid (Blk (w5a.setCells q8 0 (cx (.slice va vn vc) S1.cur S1.m)) q8 50 (cxa (.slice va vn vc) S1.cur S1.m)) := put_blk (cs := (cx (.slice va vn vc) S1.cur S1.m)) (old := cx (.slice none 0 0) 0 Z) (by rw [cx_len hZl, cx_len HMW2.out.len]) P8.out
          have R7 := mkH (P7.out.wr (wr_of P8.out GB.out) (by decide))
          have HSTb := mkH (HSTa.out.wr (wr_of P8.out GB.out) (by decide) (by decide) (by decide))
          have EDSb := mkH (EDSa.out.wr (wr_of P8.out GB.out) (by decide) (by decide))
          have UDb := mkH (UDa.out.low (lo := q8) (Below.grown (Below.refl q8 w5a) GB.out (Nat.le_of_lt P8.out.lt) (fun j hj => by injection hj with hj; omega)) NA8.out)
          refine do_st ty50 rfl (.tmp 8) (.tmp 43) rfl rfl (cx (.slice va vn vc) S1.cur S1.m) rfl (cx_len HMW2.out.len) t50.out cx_one ?_
          clear GB t50 P7 P8 HSTa EDSa UDa
          generalize w5a.setCells q8 0 (cx (.slice va vn vc) S1.cur S1.m) = w5 at *
          refine hK _ _ ⟨UDb.out, ?_⟩
          clear hK K
          try simp only [Act.put, jj1, jj2, jj3, jj4, jj5, jj6]
          refine wpAnyH_done (by kernel_rfl) ?_ _
          go_wp2_with fail
          go_meet
          exact ⟨q7, q8, B, k, vn, vc, lo, p, va, H2, X, Sx, F2, rfl, rfl, ⟨UDb.out, by rw [HH2.out]; exact R7.out, R8.out, HG2.out, HF2.out, HSTb.out, ⟨_, EDSb.out⟩, HFL2.out, HMW2.out, by rw [HH2.out]; exact HKc.out, HLO.out.1, HLO.out.2, NA7.out, NA8.out⟩⟩
        · skip
          have hzz := hz50 wc1
          go_simp
          clear hzz
          obtain ⟨q8, hq8⟩ : ∃ x, wc1.heap.size = x := ⟨_, rfl⟩
          have hbn : Below wc1.heap.size wc1 (wc1.alloc (.cells (cxa (.slice none 0 0) 0 Z) 50)) := bAlloc (Below.refl _ _) _
          have A8 : Hid (Blk (wc1.alloc (.cells (cxa (.slice none 0 0) 0 Z) 50)) q8 50 (cxa (.slice none 0 0) 0 Z)) := by unfold Hid; rw [← hq8]; exact Blk.new wc1 50 _
          have NA8 : Hid (w.heap.size + 1 + 1 + 1 < q8) := by unfold Hid; rw [← hq8]; exact UD.out.b4.lt
          replace A7 := mkH (A7.out.keep hbn)
          replace HST := mkH (HST.out.keep hbn)
          replace UD := mkH (UD.out.keep hbn)
          rw [hq8]
          clear hq8 hbn
          generalize wc1.alloc (.cells (cxa (.slice none 0 0) 0 Z) 50) = waq8 at *
          refine hK _ _ ⟨UD.out, ?_⟩
          clear hK K
          try simp only [Act.put, jj1, jj2, jj3, jj4, jj5, jj6]
          refine wpAnyH_all (rs := [11]) (by kernel_rfl) (by simp) (AllH.cons rfl (fun K hK => ?_) AllH.nil)
          go_simp
          refine (CXD.out lo p B n k x0 (p0 : Int) H1 X Sx (Wk.new (G.map Nr.d) (p0 : Int) m) waq8 p0 HST.out HH1.out ⟨HGc.out, rfl, rfl, rfl, rfl⟩ HX0.out HP0.out HPX.out (fun r hr => by have h1 := map_at (G := H1) hr; rw [HGc.out] at h1; have h2 : (at' (G.map Nr.d) x0).par = r.par := (by rw [h1]; rfl); rw [← h2]; exact HXP.out)).mono ?_
          rintro e wc2 ⟨va, vn, vc, H2, F2, rfl, hG2, hF2, hH2, hst2, hls2, hfl2, hmw2, hbl2, hfr2, -⟩
          rw [HS1.out] at hG2 hF2 hmw2 ⊢
          have UD2 : Hid (U4 w wc2 (some ⟨g, o, none⟩) n c (p0 : Int) m Z) := UD.out.low hbl2 HLO.out.1
          replace UD := UD2
          clear UD2
          replace A7 : Hid (Blk wc2 q7 24 #[.slice none 0 0, .int .i64 0]) := by have hx := A7.out; unfold Hid; unfold Blk at hx ⊢; rw [hfr2 q7 (Array.getElem?_eq_some_iff.1 hx).1 (nb_ne hx HST.out.row (by decide)) (nb_ne hx HST.out.row (by decide)) (by simp [Value.ownBlock])]; exact hx
          replace A8 : Hid (Blk wc2 q8 50 (cxa (.slice none 0 0) 0 Z)) := by have hx := A8.out; unfold Hid; unfold Blk at hx ⊢; rw [hfr2 q8 (Array.getElem?_eq_some_iff.1 hx).1 (nb_ne hx HST.out.row (by decide)) (nb_ne hx HST.out.row (by decide)) (by simp [Value.ownBlock])]; exact hx
          replace HST := mkH hst2
          have EDS := mkH hls2
          have HG2 := mkH hG2
          have HF2 := mkH hF2
          have HH2 := mkH hH2
          have HFL2 := mkH hfl2
          have HMW2 := mkH hmw2
          clear hG2 hF2 hH2 hst2 hls2 hfl2 hmw2 hbl2 hfr2
          dsimp only
          refine hK _ _ ⟨UD.out, ?_⟩
          clear hK K
          try simp only [Act.put, jj1, jj2, jj3, jj4, jj5, jj6]
          refine tk 12 (.tuple #[.agg #[.slice (some ⟨B, 0, none⟩) n k, .int .i64 S1.now], .agg (cxa (.slice va vn vc) S1.cur S1.m)]) UD.out ?_
          refine tk 13 (.agg #[.slice (some ⟨B, 0, none⟩) n k, .int .i64 S1.now]) UD.out ?_
          refine tk 14 (.agg (cxa (.slice va vn vc) S1.cur S1.m)) UD.out ?_
          try simp only [Act.put, jj1, jj2, jj3, jj4, jj5, jj6]
          refine wpAnyH_all (rs := [17]) (by kernel_rfl) (by simp) (AllH.cons rfl (fun K hK => ?_) AllH.nil)
          have GA : Hid (wc2.grownBy (wc2.setCells q7 0 [.slice (some ⟨B, 0, none⟩) n k, .int .i64 S1.now]) (some q7)) := grown_setCells _ _ _
          have t24 : Hid (wc2.there q7 0 2) := there_blk (cs := [.slice none 0 0, .int .i64 0]) A7.out
          have P7 : Hid (Blk (wc2.setCells q7 0 [.slice (some ⟨B, 0, none⟩) n k, .int .i64 S1.now]) q7 24 #[.slice (some ⟨B, 0, none⟩) n k, .int .i64 S1.now]) := put_blk (cs := [.slice (some ⟨B, 0, none⟩) n k, .int .i64 S1.now]) (old := [.slice none 0 0, .int .i64 0]) rfl A7.out
          have P8 := mkH (A8.out.wr (wr_of A7.out GA.out) (by decide))
          have HSTa := mkH (HST.out.wr (wr_of A7.out GA.out) (by decide) (by decide) (by decide))
          have EDSa := mkH (EDS.out.wr (wr_of A7.out GA.out) (by decide) (by decide))
          have UDa := mkH (UD.out.low (lo := q7) (Below.grown (Below.refl q7 wc2) GA.out (Nat.le_of_lt A7.out.lt) (fun j hj => by injection hj with hj; omega)) NA7.out)
          refine do_st ty24 rfl (.tmp 7) (.tmp 42) rfl rfl [.slice (some ⟨B, 0, none⟩) n k, .int .i64 S1.now] rfl rfl t24.out (fun v hv => by simp at hv; rcases hv with rfl | rfl <;> rfl) ?_
          clear GA t24 A7 A8 HST EDS UD
          generalize wc2.setCells q7 0 [.slice (some ⟨B, 0, none⟩) n k, .int .i64 S1.now] = w5a at *
          refine hK _ _ ⟨UDa.out, ?_⟩
          clear hK K
          try simp only [Act.put, jj1, jj2, jj3, jj4, jj5, jj6]
          refine wpAnyH_all (rs := [18]) (by kernel_rfl) (by simp) (AllH.cons rfl (fun K hK => ?_) AllH.nil)
          have GB : Hid (w5a.grownBy (w5a.setCells q8 0 (cx (.slice va vn vc) S1.cur S1.m)) (some q8)) := grown_setCells _ _ _
          have t50 : Hid (w5a.there q8 0 29) := by have := there_blk (cs := cx (.slice none 0 0) 0 Z) P8.out; rwa [cx_len hZl] at this
          have R8 : Hid (Blk (w5a.setCells q8 0 (cx (.slice va vn vc) S1.cur S1.m)) q8 50 (cxa (.slice va vn vc) S1.cur S1.m)) := put_blk (cs := (cx (.slice va vn vc) S1.cur S1.m)) (old := cx (.slice none 0 0) 0 Z) (by rw [cx_len hZl, cx_len HMW2.out.len]) P8.out
          have R7 := mkH (P7.out.wr (wr_of P8.out GB.out) (by decide))
          have HSTb := mkH (HSTa.out.wr (wr_of P8.out GB.out) (by decide) (by decide) (by decide))
          have EDSb := mkH (EDSa.out.wr (wr_of P8.out GB.out) (by decide) (by decide))
          have UDb := mkH (UDa.out.low (lo := q8) (Below.grown (Below.refl q8 w5a) GB.out (Nat.le_of_lt P8.out.lt) (fun j hj => by injection hj with hj; omega)) NA8.out)
          refine do_st ty50 rfl (.tmp 8) (.tmp 43) rfl rfl (cx (.slice va vn vc) S1.cur S1.m) rfl (cx_len HMW2.out.len) t50.out cx_one ?_
          clear GB t50 P7 P8 HSTa EDSa UDa
          generalize w5a.setCells q8 0 (cx (.slice va vn vc) S1.cur S1.m) = w5 at *
          refine hK _ _ ⟨UDb.out, ?_⟩
          clear hK K
          try simp only [Act.put, jj1, jj2, jj3, jj4, jj5, jj6]
          refine wpAnyH_done (by kernel_rfl) ?_ _
          go_wp2_with fail
          go_meet
          exact ⟨q7, q8, B, k, vn, vc, lo, p, va, H2, X, Sx, F2, rfl, rfl, ⟨UDb.out, by rw [HH2.out]; exact R7.out, R8.out, HG2.out, HF2.out, HSTb.out, ⟨_, EDSb.out⟩, HFL2.out, HMW2.out, by rw [HH2.out]; exact HKc.out, HLO.out.1, HLO.out.2, NA7.out, NA8.out⟩⟩
      · skip
        have hzz := hz50 waq7
        go_simp
        clear hzz
        obtain ⟨q8, hq8⟩ : ∃ x, waq7.heap.size = x := ⟨_, rfl⟩
        have hbn : Below waq7.heap.size waq7 (waq7.alloc (.cells (cxa (.slice none 0 0) 0 Z) 50)) := bAlloc (Below.refl _ _) _
        have A8 : Hid (Blk (waq7.alloc (.cells (cxa (.slice none 0 0) 0 Z) 50)) q8 50 (cxa (.slice none 0 0) 0 Z)) := by unfold Hid; rw [← hq8]; exact Blk.new waq7 50 _
        have NA8 : Hid (w.heap.size + 1 + 1 + 1 < q8) := by unfold Hid; rw [← hq8]; exact UD.out.b4.lt
        replace A7 := mkH (A7.out.keep hbn)
        replace UD := mkH (UD.out.keep hbn)
        rw [hq8]
        clear hq8 hbn
        generalize waq7.alloc (.cells (cxa (.slice none 0 0) 0 Z) 50) = waq8 at *
        refine hK _ _ ⟨UD.out, ?_⟩
        clear hK K
        try simp only [Act.put, jj1, jj2, jj3, jj4, jj5, jj6]
        refine wpAnyH_all (rs := [1]) (by kernel_rfl) (by simp) (AllH.cons rfl (fun K hK => ?_) AllH.nil)
        go_simp
        refine (C36.out HN6.out waq8 UD.out.bel).mono ?_
        rintro e wc1 ⟨v1, H1, Sx, rfl, hG, hrow, hbc⟩
        obtain ⟨lo, hlo⟩ : ∃ x, waq8.heap.size = x := ⟨_, rfl⟩
        obtain ⟨p, hp⟩ : ∃ x, wc1.heap.size = x := ⟨_, rfl⟩
        have HLO : Hid (w.heap.size + 1 + 1 + 1 < lo ∧ lo ≤ p) := ⟨by rw [← hlo]; exact UD.out.b4.lt, by rw [← hlo, ← hp]; exact hbc.size⟩
        have hH1 : H1.length = n := by have := congrArg List.length hG; rw [List.length_map, List.length_map, HN.out] at this; exact this
        obtain ⟨B, k, X, rfl, hk, hst⟩ := hrow.hst (by rw [hH1]; have := HP0.out; omega)
        rw [hlo, hp] at hst
        rw [hH1] at hk ⊢
        have HST := mkH hst
        have HH1 := mkH hH1
        have HGc := mkH hG
        have HKc := mkH hk
        replace A7 := mkH (A7.out.keep hbc)
        replace A8 := mkH (A8.out.keep hbc)
        replace UD := mkH (UD.out.keep hbc)
        clear hrow hst hH1 hG hk hbc hlo hp
        dsimp only
        refine hK _ _ ⟨UD.out, ?_⟩
        clear hK K
        try simp only [Act.put, jj1, jj2, jj3, jj4, jj5, jj6]
        refine wpAnyH_all (rs := [11]) (by kernel_rfl) (by simp) (AllH.cons rfl (fun K hK => ?_) AllH.nil)
        go_simp
        refine (CXD.out lo p B n k x0 (p0 : Int) H1 X Sx (Wk.new (G.map Nr.d) (p0 : Int) m) wc1 p0 HST.out HH1.out ⟨HGc.out, rfl, rfl, rfl, rfl⟩ HX0.out HP0.out HPX.out (fun r hr => by have h1 := map_at (G := H1) hr; rw [HGc.out] at h1; have h2 : (at' (G.map Nr.d) x0).par = r.par := (by rw [h1]; rfl); rw [← h2]; exact HXP.out)).mono ?_
        rintro e wc2 ⟨va, vn, vc, H2, F2, rfl, hG2, hF2, hH2, hst2, hls2, hfl2, hmw2, hbl2, hfr2, -⟩
        rw [HS1.out] at hG2 hF2 hmw2 ⊢
        have UD2 : Hid (U4 w wc2 (some ⟨g, o, none⟩) n c (p0 : Int) m Z) := UD.out.low hbl2 HLO.out.1
        replace UD := UD2
        clear UD2
        replace A7 : Hid (Blk wc2 q7 24 #[.slice none 0 0, .int .i64 0]) := by have hx := A7.out; unfold Hid; unfold Blk at hx ⊢; rw [hfr2 q7 (Array.getElem?_eq_some_iff.1 hx).1 (nb_ne hx HST.out.row (by decide)) (nb_ne hx HST.out.row (by decide)) (by simp [Value.ownBlock])]; exact hx
        replace A8 : Hid (Blk wc2 q8 50 (cxa (.slice none 0 0) 0 Z)) := by have hx := A8.out; unfold Hid; unfold Blk at hx ⊢; rw [hfr2 q8 (Array.getElem?_eq_some_iff.1 hx).1 (nb_ne hx HST.out.row (by decide)) (nb_ne hx HST.out.row (by decide)) (by simp [Value.ownBlock])]; exact hx
        replace HST := mkH hst2
        have EDS := mkH hls2
        have HG2 := mkH hG2
        have HF2 := mkH hF2
        have HH2 := mkH hH2
        have HFL2 := mkH hfl2
        have HMW2 := mkH hmw2
        clear hG2 hF2 hH2 hst2 hls2 hfl2 hmw2 hbl2 hfr2
        dsimp only
        refine hK _ _ ⟨UD.out, ?_⟩
        clear hK K
        refine tk 12 (.tuple #[.agg #[.slice (some ⟨B, 0, none⟩) n k, .int .i64 S1.now], .agg (cxa (.slice va vn vc) S1.cur S1.m)]) UD.out ?_
        try simp only [Act.put, jj1, jj2, jj3, jj4, jj5, jj6]
        refine tk 13 (.agg #[.slice (some ⟨B, 0, none⟩) n k, .int .i64 S1.now]) UD.out ?_
        refine tk 14 (.agg (cxa (.slice va vn vc) S1.cur S1.m)) UD.out ?_
        try simp only [Act.put, jj1, jj2, jj3, jj4, jj5, jj6]
        refine wpAnyH_all (rs := [17]) (by kernel_rfl) (by simp) (AllH.cons rfl (fun K hK => ?_) AllH.nil)
        have GA : Hid (wc2.grownBy (wc2.setCells q7 0 [.slice (some ⟨B, 0, none⟩) n k, .int .i64 S1.now]) (some q7)) := grown_setCells _ _ _
        have t24 : Hid (wc2.there q7 0 2) := there_blk (cs := [.slice none 0 0, .int .i64 0]) A7.out
        have P7 : Hid (Blk (wc2.setCells q7 0 [.slice (some ⟨B, 0, none⟩) n k, .int .i64 S1.now]) q7 24 #[.slice (some ⟨B, 0, none⟩) n k, .int .i64 S1.now]) := put_blk (cs := [.slice (some ⟨B, 0, none⟩) n k, .int .i64 S1.now]) (old := [.slice none 0 0, .int .i64 0]) rfl A7.out
        have P8 := mkH (A8.out.wr (wr_of A7.out GA.out) (by decide))
        have HSTa := mkH (HST.out.wr (wr_of A7.out GA.out) (by decide) (by decide) (by decide))
        have EDSa := mkH (EDS.out.wr (wr_of A7.out GA.out) (by decide) (by decide))
        have UDa := mkH (UD.out.low (lo := q7) (Below.grown (Below.refl q7 wc2) GA.out (Nat.le_of_lt A7.out.lt) (fun j hj => by injection hj with hj; omega)) NA7.out)
        refine do_st ty24 rfl (.tmp 7) (.tmp 42) rfl rfl [.slice (some ⟨B, 0, none⟩) n k, .int .i64 S1.now] rfl rfl t24.out (fun v hv => by simp at hv; rcases hv with rfl | rfl <;> rfl) ?_
        clear GA t24 A7 A8 HST EDS UD
        generalize wc2.setCells q7 0 [.slice (some ⟨B, 0, none⟩) n k, .int .i64 S1.now] = w5a at *
        refine hK _ _ ⟨UDa.out, ?_⟩
        clear hK K
        try simp only [Act.put, jj1, jj2, jj3, jj4, jj5, jj6]
        refine wpAnyH_all (rs := [18]) (by kernel_rfl) (by simp) (AllH.cons rfl (fun K hK => ?_) AllH.nil)
        have GB : Hid (w5a.grownBy (w5a.setCells q8 0 (cx (.slice va vn vc) S1.cur S1.m)) (some q8)) := grown_setCells _ _ _
        have t50 : Hid (w5a.there q8 0 29) := by have := there_blk (cs := cx (.slice none 0 0) 0 Z) P8.out; rwa [cx_len hZl] at this
        have R8 : Hid (Blk (w5a.setCells q8 0 (cx (.slice va vn vc) S1.cur S1.m)) q8 50 (cxa (.slice va vn vc) S1.cur S1.m)) := put_blk (cs := (cx (.slice va vn vc) S1.cur S1.m)) (old := cx (.slice none 0 0) 0 Z) (by rw [cx_len hZl, cx_len HMW2.out.len]) P8.out
        have R7 := mkH (P7.out.wr (wr_of P8.out GB.out) (by decide))
        have HSTb := mkH (HSTa.out.wr (wr_of P8.out GB.out) (by decide) (by decide) (by decide))
        have EDSb := mkH (EDSa.out.wr (wr_of P8.out GB.out) (by decide) (by decide))
        have UDb := mkH (UDa.out.low (lo := q8) (Below.grown (Below.refl q8 w5a) GB.out (Nat.le_of_lt P8.out.lt) (fun j hj => by injection hj with hj; omega)) NA8.out)
        refine do_st ty50 rfl (.tmp 8) (.tmp 43) rfl rfl (cx (.slice va vn vc) S1.cur S1.m) rfl (cx_len HMW2.out.len) t50.out cx_one ?_
        clear GB t50 P7 P8 HSTa EDSa UDa
        generalize w5a.setCells q8 0 (cx (.slice va vn vc) S1.cur S1.m) = w5 at *
        refine hK _ _ ⟨UDb.out, ?_⟩
        clear hK K
        try simp only [Act.put, jj1, jj2, jj3, jj4, jj5, jj6]
        refine wpAnyH_done (by kernel_rfl) ?_ _
        go_wp2_with fail
        go_meet
        exact ⟨q7, q8, B, k, vn, vc, lo, p, va, H2, X, Sx, F2, rfl, rfl, ⟨UDb.out, by rw [HH2.out]; exact R7.out, R8.out, HG2.out, HF2.out, HSTb.out, ⟨_, EDSb.out⟩, HFL2.out, HMW2.out, by rw [HH2.out]; exact HKc.out, HLO.out.1, HLO.out.2, NA7.out, NA8.out⟩⟩
    · skip
      have hzz := hz50 V3
      go_simp
      clear hzz
      obtain ⟨q8, hq8⟩ : ∃ x, V3.heap.size = x := ⟨_, rfl⟩
      have hbn : Below V3.heap.size V3 (V3.alloc (.cells (cxa (.slice none 0 0) 0 Z) 50)) := bAlloc (Below.refl _ _) _
      have A8 : Hid (Blk (V3.alloc (.cells (cxa (.slice none 0 0) 0 Z) 50)) q8 50 (cxa (.slice none 0 0) 0 Z)) := by unfold Hid; rw [← hq8]; exact Blk.new V3 50 _
      have NA8 : Hid (w.heap.size + 1 + 1 + 1 < q8) := by unfold Hid; rw [← hq8]; exact UD.out.b4.lt
      replace UD := mkH (UD.out.keep hbn)
      rw [hq8]
      clear hq8 hbn
      generalize V3.alloc (.cells (cxa (.slice none 0 0) 0 Z) 50) = waq8 at *
      refine hK _ _ ⟨UD.out, ?_⟩
      clear hK K
      try simp only [Act.put, jj1, jj2, jj3, jj4, jj5, jj6]
      refine wpAnyH_all (rs := [1, 15]) (by kernel_rfl) (by simp) (AllH.cons rfl (fun K hK => ?_) (AllH.cons rfl (fun K hK => ?_) AllH.nil))
      · skip
        go_simp
        refine (C36.out HN6.out waq8 UD.out.bel).mono ?_
        rintro e wc1 ⟨v1, H1, Sx, rfl, hG, hrow, hbc⟩
        obtain ⟨lo, hlo⟩ : ∃ x, waq8.heap.size = x := ⟨_, rfl⟩
        obtain ⟨p, hp⟩ : ∃ x, wc1.heap.size = x := ⟨_, rfl⟩
        have HLO : Hid (w.heap.size + 1 + 1 + 1 < lo ∧ lo ≤ p) := ⟨by rw [← hlo]; exact UD.out.b4.lt, by rw [← hlo, ← hp]; exact hbc.size⟩
        have hH1 : H1.length = n := by have := congrArg List.length hG; rw [List.length_map, List.length_map, HN.out] at this; exact this
        obtain ⟨B, k, X, rfl, hk, hst⟩ := hrow.hst (by rw [hH1]; have := HP0.out; omega)
        rw [hlo, hp] at hst
        rw [hH1] at hk ⊢
        have HST := mkH hst
        have HH1 := mkH hH1
        have HGc := mkH hG
        have HKc := mkH hk
        replace A8 := mkH (A8.out.keep hbc)
        replace UD := mkH (UD.out.keep hbc)
        clear hrow hst hH1 hG hk hbc hlo hp
        dsimp only
        refine hK _ _ ⟨UD.out, ?_⟩
        clear hK K
        try simp only [Act.put, jj1, jj2, jj3, jj4, jj5, jj6]
        refine wpAnyH_all (rs := [11, 15]) (by kernel_rfl) (by simp) (AllH.cons rfl (fun K hK => ?_) (AllH.cons rfl (fun K hK => ?_) AllH.nil))
        · skip
          go_simp
          refine (CXD.out lo p B n k x0 (p0 : Int) H1 X Sx (Wk.new (G.map Nr.d) (p0 : Int) m) wc1 p0 HST.out HH1.out ⟨HGc.out, rfl, rfl, rfl, rfl⟩ HX0.out HP0.out HPX.out (fun r hr => by have h1 := map_at (G := H1) hr; rw [HGc.out] at h1; have h2 : (at' (G.map Nr.d) x0).par = r.par := (by rw [h1]; rfl); rw [← h2]; exact HXP.out)).mono ?_
          rintro e wc2 ⟨va, vn, vc, H2, F2, rfl, hG2, hF2, hH2, hst2, hls2, hfl2, hmw2, hbl2, hfr2, -⟩
          rw [HS1.out] at hG2 hF2 hmw2 ⊢
          have UD2 : Hid (U4 w wc2 (some ⟨g, o, none⟩) n c (p0 : Int) m Z) := UD.out.low hbl2 HLO.out.1
          replace UD := UD2
          clear UD2
          replace A8 : Hid (Blk wc2 q8 50 (cxa (.slice none 0 0) 0 Z)) := by have hx := A8.out; unfold Hid; unfold Blk at hx ⊢; rw [hfr2 q8 (Array.getElem?_eq_some_iff.1 hx).1 (nb_ne hx HST.out.row (by decide)) (nb_ne hx HST.out.row (by decide)) (by simp [Value.ownBlock])]; exact hx
          replace HST := mkH hst2
          have EDS := mkH hls2
          have HG2 := mkH hG2
          have HF2 := mkH hF2
          have HH2 := mkH hH2
          have HFL2 := mkH hfl2
          have HMW2 := mkH hmw2
          clear hG2 hF2 hH2 hst2 hls2 hfl2 hmw2 hbl2 hfr2
          dsimp only
          refine hK _ _ ⟨UD.out, ?_⟩
          clear hK K
          refine tk 12 (.tuple #[.agg #[.slice (some ⟨B, 0, none⟩) n k, .int .i64 S1.now], .agg (cxa (.slice va vn vc) S1.cur S1.m)]) UD.out ?_
          refine tk 13 (.agg #[.slice (some ⟨B, 0, none⟩) n k, .int .i64 S1.now]) UD.out ?_
          try simp only [Act.put, jj1, jj2, jj3, jj4, jj5, jj6]
          refine tk 14 (.agg (cxa (.slice va vn vc) S1.cur S1.m)) UD.out ?_
          try simp only [Act.put, jj1, jj2, jj3, jj4, jj5, jj6]
          refine wpAnyH_all (rs := [15]) (by kernel_rfl) (by simp) (AllH.cons rfl (fun K hK => ?_) AllH.nil)
          go_simp
          obtain ⟨q7, hq7⟩ : ∃ x, wc2.heap.size = x := ⟨_, rfl⟩
          have hbn : Below wc2.heap.size wc2 (wc2.alloc (.cells #[.slice none 0 0, .int .i64 0] 24)) := bAlloc (Below.refl _ _) _
          have A7 : Hid (Blk (wc2.alloc (.cells #[.slice none 0 0, .int .i64 0] 24)) q7 24 #[.slice none 0 0, .int .i64 0]) := by unfold Hid; rw [← hq7]; exact Blk.new wc2 24 _
          have NA7 : Hid (w.heap.size + 1 + 1 + 1 < q7) := by unfold Hid; rw [← hq7]; exact UD.out.b4.lt
          replace A8 := mkH (A8.out.keep hbn)
          replace HST := mkH (HST.out.keep hbn)
          replace EDS := mkH (EDS.out.keep hbn)
          replace UD := mkH (UD.out.keep hbn)
          rw [hq7]
          clear hq7 hbn
          generalize wc2.alloc (.cells #[.slice none 0 0, .int .i64 0] 24) = waq7 at *
          refine hK _ _ ⟨UD.out, ?_⟩
          clear hK K
          try simp only [Act.put, jj1, jj2, jj3, jj4, jj5, jj6]
          refine wpAnyH_all (rs := [17]) (by kernel_rfl) (by simp) (AllH.cons rfl (fun K hK => ?_) AllH.nil)
          have GA : Hid (waq7.grownBy (waq7.setCells q7 0 [.slice (some ⟨B, 0, none⟩) n k, .int .i64 S1.now]) (some q7)) := grown_setCells _ _ _
          have t24 : Hid (waq7.there q7 0 2) := there_blk (cs := [.slice none 0 0, .int .i64 0]) A7.out
          have P7 : Hid (Blk (waq7.setCells q7 0 [.slice (some ⟨B, 0, none⟩) n k, .int .i64 S1.now]) q7 24 #[.slice (some ⟨B, 0, none⟩) n k, .int .i64 S1.now]) := put_blk (cs := [.slice (some ⟨B, 0, none⟩) n k, .int .i64 S1.now]) (old := [.slice none 0 0, .int .i64 0]) rfl A7.out
          have P8 := mkH (A8.out.wr (wr_of A7.out GA.out) (by decide))
          have HSTa := mkH (HST.out.wr (wr_of A7.out GA.out) (by decide) (by decide) (by decide))
          have EDSa := mkH (EDS.out.wr (wr_of A7.out GA.out) (by decide) (by decide))
          have UDa := mkH (UD.out.low (lo := q7) (Below.grown (Below.refl q7 waq7) GA.out (Nat.le_of_lt A7.out.lt) (fun j hj => by injection hj with hj; omega)) NA7.out)
          refine do_st ty24 rfl (.tmp 7) (.tmp 42) rfl rfl [.slice (some ⟨B, 0, none⟩) n k, .int .i64 S1.now] rfl rfl t24.out (fun v hv => by simp at hv; rcases hv with rfl | rfl <;> rfl) ?_
          clear GA t24 A7 A8 HST EDS UD
          generalize waq7.setCells q7 0 [.slice (some ⟨B, 0, none⟩) n k, .int .i64 S1.now] = w5a at *
          refine hK _ _ ⟨UDa.out, ?_⟩
          clear hK K
          try simp only [Act.put, jj1, jj2, jj3, jj4, jj5, jj6]
          refine wpAnyH_all (rs := [18]) (by kernel_rfl) (by simp) (AllH.cons rfl (fun K hK => ?_) AllH.nil)
          have GB : Hid (w5a.grownBy (w5a.setCells q8 0 (cx (.slice va vn vc) S1.cur S1.m)) (some q8)) := grown_setCells _ _ _
          have t50 : Hid (w5a.there q8 0 29) := by have := there_blk (cs := cx (.slice none 0 0) 0 Z) P8.out; rwa [cx_len hZl] at this
          have R8 : Hid (Blk (w5a.setCells q8 0 (cx (.slice va vn vc) S1.cur S1.m)) q8 50 (cxa (.slice va vn vc) S1.cur S1.m)) := put_blk (cs := (cx (.slice va vn vc) S1.cur S1.m)) (old := cx (.slice none 0 0) 0 Z) (by rw [cx_len hZl, cx_len HMW2.out.len]) P8.out
          have R7 := mkH (P7.out.wr (wr_of P8.out GB.out) (by decide))
          have HSTb := mkH (HSTa.out.wr (wr_of P8.out GB.out) (by decide) (by decide) (by decide))
          have EDSb := mkH (EDSa.out.wr (wr_of P8.out GB.out) (by decide) (by decide))
          have UDb := mkH (UDa.out.low (lo := q8) (Below.grown (Below.refl q8 w5a) GB.out (Nat.le_of_lt P8.out.lt) (fun j hj => by injection hj with hj; omega)) NA8.out)
          refine do_st ty50 rfl (.tmp 8) (.tmp 43) rfl rfl (cx (.slice va vn vc) S1.cur S1.m) rfl (cx_len HMW2.out.len) t50.out cx_one ?_
          clear GB t50 P7 P8 HSTa EDSa UDa
          generalize w5a.setCells q8 0 (cx (.slice va vn vc) S1.cur S1.m) = w5 at *
          refine hK _ _ ⟨UDb.out, ?_⟩
          clear hK K
          try simp only [Act.put, jj1, jj2, jj3, jj4, jj5, jj6]
          refine wpAnyH_done (by kernel_rfl) ?_ _
          go_wp2_with fail
          go_meet
          exact ⟨q7, q8, B, k, vn, vc, lo, p, va, H2, X, Sx, F2, rfl, rfl, ⟨UDb.out, by rw [HH2.out]; exact R7.out, R8.out, HG2.out, HF2.out, HSTb.out, ⟨_, EDSb.out⟩, HFL2.out, HMW2.out, by rw [HH2.out]; exact HKc.out, HLO.out.1, HLO.out.2, NA7.out, NA8.out⟩⟩
        · skip
          go_simp
          obtain ⟨q7, hq7⟩ : ∃ x, wc1.heap.size = x := ⟨_, rfl⟩
          have hbn : Below wc1.heap.size wc1 (wc1.alloc (.cells #[.slice none 0 0, .int .i64 0] 24)) := bAlloc (Below.refl _ _) _
          have A7 : Hid (Blk (wc1.alloc (.cells #[.slice none 0 0, .int .i64 0] 24)) q7 24 #[.slice none 0 0, .int .i64 0]) := by unfold Hid; rw [← hq7]; exact Blk.new wc1 24 _
          have NA7 : Hid (w.heap.size + 1 + 1 + 1 < q7) := by unfold Hid; rw [← hq7]; exact UD.out.b4.lt
          replace A8 := mkH (A8.out.keep hbn)
          replace HST := mkH (HST.out.keep hbn)
          replace UD := mkH (UD.out.keep hbn)
          rw [hq7]
          clear hq7 hbn
          generalize wc1.alloc (.cells #[.slice none 0 0, .int .i64 0] 24) = waq7 at *
          refine hK _ _ ⟨UD.out, ?_⟩
          clear hK K
          try simp only [Act.put, jj1, jj2, jj3, jj4, jj5, jj6]
          refine wpAnyH_all (rs := [11]) (by kernel_rfl) (by simp) (AllH.cons rfl (fun K hK => ?_) AllH.nil)
          go_simp
          refine (CXD.out lo p B n k x0 (p0 : Int) H1 X Sx (Wk.new (G.map Nr.d) (p0 : Int) m) waq7 p0 HST.out HH1.out ⟨HGc.out, rfl, rfl, rfl, rfl⟩ HX0.out HP0.out HPX.out (fun r hr => by have h1 := map_at (G := H1) hr; rw [HGc.out] at h1; have h2 : (at' (G.map Nr.d) x0).par = r.par := (by rw [h1]; rfl); rw [← h2]; exact HXP.out)).mono ?_
          rintro e wc2 ⟨va, vn, vc, H2, F2, rfl, hG2, hF2, hH2, hst2, hls2, hfl2, hmw2, hbl2, hfr2, -⟩
          rw [HS1.out] at hG2 hF2 hmw2 ⊢
          have UD2 : Hid (U4 w wc2 (some ⟨g, o, none⟩) n c (p0 : Int) m Z) := UD.out.low hbl2 HLO.out.1
          replace UD := UD2
          clear UD2
          replace A8 : Hid (Blk wc2 q8 50 (cxa (.slice none 0 0) 0 Z)) := by have hx := A8.out; unfold Hid; unfold Blk at hx ⊢; rw [hfr2 q8 (Array.getElem?_eq_some_iff.1 hx).1 (nb_ne hx HST.out.row (by decide)) (nb_ne hx HST.out.row (by decide)) (by simp [Value.ownBlock])]; exact hx
          replace A7 : Hid (Blk wc2 q7 24 #[.slice none 0 0, .int .i64 0]) := by have hx := A7.out; unfold Hid; unfold Blk at hx ⊢; rw [hfr2 q7 (Array.getElem?_eq_some_iff.1 hx).1 (nb_ne hx HST.out.row (by decide)) (nb_ne hx HST.out.row (by decide)) (by simp [Value.ownBlock])]; exact hx
          replace HST := mkH hst2
          have EDS := mkH hls2
          have HG2 := mkH hG2
          have HF2 := mkH hF2
          have HH2 := mkH hH2
          have HFL2 := mkH hfl2
          have HMW2 := mkH hmw2
          clear hG2 hF2 hH2 hst2 hls2 hfl2 hmw2 hbl2 hfr2
          dsimp only
          refine hK _ _ ⟨UD.out, ?_⟩
          clear hK K
          refine tk 12 (.tuple #[.agg #[.slice (some ⟨B, 0, none⟩) n k, .int .i64 S1.now], .agg (cxa (.slice va vn vc) S1.cur S1.m)]) UD.out ?_
          refine tk 13 (.agg #[.slice (some ⟨B, 0, none⟩) n k, .int .i64 S1.now]) UD.out ?_
          refine tk 14 (.agg (cxa (.slice va vn vc) S1.cur S1.m)) UD.out ?_
          try simp only [Act.put, jj1, jj2, jj3, jj4, jj5, jj6]
          refine wpAnyH_all (rs := [17]) (by kernel_rfl) (by simp) (AllH.cons rfl (fun K hK => ?_) AllH.nil)
          have GA : Hid (wc2.grownBy (wc2.setCells q7 0 [.slice (some ⟨B, 0, none⟩) n k, .int .i64 S1.now]) (some q7)) := grown_setCells _ _ _
          have t24 : Hid (wc2.there q7 0 2) := there_blk (cs := [.slice none 0 0, .int .i64 0]) A7.out
          have P7 : Hid (Blk (wc2.setCells q7 0 [.slice (some ⟨B, 0, none⟩) n k, .int .i64 S1.now]) q7 24 #[.slice (some ⟨B, 0, none⟩) n k, .int .i64 S1.now]) := put_blk (cs := [.slice (some ⟨B, 0, none⟩) n k, .int .i64 S1.now]) (old := [.slice none 0 0, .int .i64 0]) rfl A7.out
          have P8 := mkH (A8.out.wr (wr_of A7.out GA.out) (by decide))
          have HSTa := mkH (HST.out.wr (wr_of A7.out GA.out) (by decide) (by decide) (by decide))
          have EDSa := mkH (EDS.out.wr (wr_of A7.out GA.out) (by decide) (by decide))
          have UDa := mkH (UD.out.low (lo := q7) (Below.grown (Below.refl q7 wc2) GA.out (Nat.le_of_lt A7.out.lt) (fun j hj => by injection hj with hj; omega)) NA7.out)
          refine do_st ty24 rfl (.tmp 7) (.tmp 42) rfl rfl [.slice (some ⟨B, 0, none⟩) n k, .int .i64 S1.now] rfl rfl t24.out (fun v hv => by simp at hv; rcases hv with rfl | rfl <;> rfl) ?_
          clear GA t24 A7 A8 HST EDS UD
          generalize wc2.setCells q7 0 [.slice (some ⟨B, 0, none⟩) n k, .int .i64 S1.now] = w5a at *
          refine hK _ _ ⟨UDa.out, ?_⟩
          clear hK K
          try simp only [Act.put, jj1, jj2, jj3, jj4, jj5, jj6]
          refine wpAnyH_all (rs := [18]) (by kernel_rfl) (by simp) (AllH.cons rfl (fun K hK => ?_) AllH.nil)
          have GB : Hid (w5a.grownBy (w5a.setCells q8 0 (cx (.slice va vn vc) S1.cur S1.m)) (some q8)) := grown_setCells _ _ _
          have t50 : Hid (w5a.there q8 0 29) := by have := there_blk (cs := cx (.slice none 0 0) 0 Z) P8.out; rwa [cx_len hZl] at this
          have R8 : Hid (Blk (w5a.setCells q8 0 (cx (.slice va vn vc) S1.cur S1.m)) q8 50 (cxa (.slice va vn vc) S1.cur S1.m)) := put_blk (cs := (cx (.slice va vn vc) S1.cur S1.m)) (old := cx (.slice none 0 0) 0 Z) (by rw [cx_len hZl, cx_len HMW2.out.len]) P8.out
          have R7 := mkH (P7.out.wr (wr_of P8.out GB.out) (by decide))
          have HSTb := mkH (HSTa.out.wr (wr_of P8.out GB.out) (by decide) (by decide) (by decide))
          have EDSb := mkH (EDSa.out.wr (wr_of P8.out GB.out) (by decide) (by decide))
          have UDb := mkH (UDa.out.low (lo := q8) (Below.grown (Below.refl q8 w5a) GB.out (Nat.le_of_lt P8.out.lt) (fun j hj => by injection hj with hj; omega)) NA8.out)
          refine do_st ty50 rfl (.tmp 8) (.tmp 43) rfl rfl (cx (.slice va vn vc) S1.cur S1.m) rfl (cx_len HMW2.out.len) t50.out cx_one ?_
          clear GB t50 P7 P8 HSTa EDSa UDa
          generalize w5a.setCells q8 0 (cx (.slice va vn vc) S1.cur S1.m) = w5 at *
          refine hK _ _ ⟨UDb.out, ?_⟩
          clear hK K
          try simp only [Act.put, jj1, jj2, jj3, jj4, jj5, jj6]
          refine wpAnyH_done (by kernel_rfl) ?_ _
          go_wp2_with fail
          go_meet
          exact ⟨q7, q8, B, k, vn, vc, lo, p, va, H2, X, Sx, F2, rfl, rfl, ⟨UDb.out, by rw [HH2.out]; exact R7.out, R8.out, HG2.out, HF2.out, HSTb.out, ⟨_, EDSb.out⟩, HFL2.out, HMW2.out, by rw [HH2.out]; exact HKc.out, HLO.out.1, HLO.out.2, NA7.out, NA8.out⟩⟩
      · skip
        go_simp
        obtain ⟨q7, hq7⟩ : ∃ x, waq8.heap.size = x := ⟨_, rfl⟩
        have hbn : Below waq8.heap.size waq8 (waq8.alloc (.cells #[.slice none 0 0, .int .i64 0] 24)) := bAlloc (Below.refl _ _) _
        have A7 : Hid (Blk (waq8.alloc (.cells #[.slice none 0 0, .int .i64 0] 24)) q7 24 #[.slice none 0 0, .int .i64 0]) := by unfold Hid; rw [← hq7]; exact Blk.new waq8 24 _
        have NA7 : Hid (w.heap.size + 1 + 1 + 1 < q7) := by unfold Hid; rw [← hq7]; exact UD.out.b4.lt
        replace A8 := mkH (A8.out.keep hbn)
        replace UD := mkH (UD.out.keep hbn)
        rw [hq7]
        clear hq7 hbn
        generalize waq8.alloc (.cells #[.slice none 0 0, .int .i64 0] 24) = waq7 at *
        refine hK _ _ ⟨UD.out, ?_⟩
        clear hK K
        try simp only [Act.put, jj1, jj2, jj3, jj4, jj5, jj6]
        refine wpAnyH_all (rs := [1]) (by kernel_rfl) (by simp) (AllH.cons rfl (fun K hK => ?_) AllH.nil)
        go_simp
        refine (C36.out HN6.out waq7 UD.out.bel).mono ?_
        rintro e wc1 ⟨v1, H1, Sx, rfl, hG, hrow, hbc⟩
        obtain ⟨lo, hlo⟩ : ∃ x, waq7.heap.size = x := ⟨_, rfl⟩
        obtain ⟨p, hp⟩ : ∃ x, wc1.heap.size = x := ⟨_, rfl⟩
        have HLO : Hid (w.heap.size + 1 + 1 + 1 < lo ∧ lo ≤ p) := ⟨by rw [← hlo]; exact UD.out.b4.lt, by rw [← hlo, ← hp]; exact hbc.size⟩
        have hH1 : H1.length = n := by have := congrArg List.length hG; rw [List.length_map, List.length_map, HN.out] at this; exact this
        obtain ⟨B, k, X, rfl, hk, hst⟩ := hrow.hst (by rw [hH1]; have := HP0.out; omega)
        rw [hlo, hp] at hst
        rw [hH1] at hk ⊢
        have HST := mkH hst
        have HH1 := mkH hH1
        have HGc := mkH hG
        have HKc := mkH hk
        replace A8 := mkH (A8.out.keep hbc)
        replace A7 := mkH (A7.out.keep hbc)
        replace UD := mkH (UD.out.keep hbc)
        clear hrow hst hH1 hG hk hbc hlo hp
        dsimp only
        refine hK _ _ ⟨UD.out, ?_⟩
        clear hK K
        try simp only [Act.put, jj1, jj2, jj3, jj4, jj5, jj6]
        refine wpAnyH_all (rs := [11]) (by kernel_rfl) (by simp) (AllH.cons rfl (fun K hK => ?_) AllH.nil)
        go_simp
        refine (CXD.out lo p B n k x0 (p0 : Int) H1 X Sx (Wk.new (G.map Nr.d) (p0 : Int) m) wc1 p0 HST.out HH1.out ⟨HGc.out, rfl, rfl, rfl, rfl⟩ HX0.out HP0.out HPX.out (fun r hr => by have h1 := map_at (G := H1) hr; rw [HGc.out] at h1; have h2 : (at' (G.map Nr.d) x0).par = r.par := (by rw [h1]; rfl); rw [← h2]; exact HXP.out)).mono ?_
        rintro e wc2 ⟨va, vn, vc, H2, F2, rfl, hG2, hF2, hH2, hst2, hls2, hfl2, hmw2, hbl2, hfr2, -⟩
        rw [HS1.out] at hG2 hF2 hmw2 ⊢
        have UD2 : Hid (U4 w wc2 (some ⟨g, o, none⟩) n c (p0 : Int) m Z) := UD.out.low hbl2 HLO.out.1
        replace UD := UD2
        clear UD2
        replace A8 : Hid (Blk wc2 q8 50 (cxa (.slice none 0 0) 0 Z)) := by have hx := A8.out; unfold Hid; unfold Blk at hx ⊢; rw [hfr2 q8 (Array.getElem?_eq_some_iff.1 hx).1 (nb_ne hx HST.out.row (by decide)) (nb_ne hx HST.out.row (by decide)) (by simp [Value.ownBlock])]; exact hx
        replace A7 : Hid (Blk wc2 q7 24 #[.slice none 0 0, .int .i64 0]) := by have hx := A7.out; unfold Hid; unfold Blk at hx ⊢; rw [hfr2 q7 (Array.getElem?_eq_some_iff.1 hx).1 (nb_ne hx HST.out.row (by decide)) (nb_ne hx HST.out.row (by decide)) (by simp [Value.ownBlock])]; exact hx
        replace HST := mkH hst2
        have EDS := mkH hls2
        have HG2 := mkH hG2
        have HF2 := mkH hF2
        have HH2 := mkH hH2
        have HFL2 := mkH hfl2
        have HMW2 := mkH hmw2
        clear hG2 hF2 hH2 hst2 hls2 hfl2 hmw2 hbl2 hfr2
        dsimp only
        refine hK _ _ ⟨UD.out, ?_⟩
        clear hK K
        try simp only [Act.put, jj1, jj2, jj3, jj4, jj5, jj6]
        refine tk 12 (.tuple #[.agg #[.slice (some ⟨B, 0, none⟩) n k, .int .i64 S1.now], .agg (cxa (.slice va vn vc) S1.cur S1.m)]) UD.out ?_
        refine tk 13 (.agg #[.slice (some ⟨B, 0, none⟩) n k, .int .i64 S1.now]) UD.out ?_
        refine tk 14 (.agg (cxa (.slice va vn vc) S1.cur S1.m)) UD.out ?_
        try simp only [Act.put, jj1, jj2, jj3, jj4, jj5, jj6]
        refine wpAnyH_all (rs := [17]) (by kernel_rfl) (by simp) (AllH.cons rfl (fun K hK => ?_) AllH.nil)
        have GA : Hid (wc2.grownBy (wc2.setCells q7 0 [.slice (some ⟨B, 0, none⟩) n k, .int .i64 S1.now]) (some q7)) := grown_setCells _ _ _
        have t24 : Hid (wc2.there q7 0 2) := there_blk (cs := [.slice none 0 0, .int .i64 0]) A7.out
        have P7 : Hid (Blk (wc2.setCells q7 0 [.slice (some ⟨B, 0, none⟩) n k, .int .i64 S1.now]) q7 24 #[.slice (some ⟨B, 0, none⟩) n k, .int .i64 S1.now]) := put_blk (cs := [.slice (some ⟨B, 0, none⟩) n k, .int .i64 S1.now]) (old := [.slice none 0 0, .int .i64 0]) rfl A7.out
        have P8 := mkH (A8.out.wr (wr_of A7.out GA.out) (by decide))
        have HSTa := mkH (HST.out.wr (wr_of A7.out GA.out) (by decide) (by decide) (by decide))
        have EDSa := mkH (EDS.out.wr (wr_of A7.out GA.out) (by decide) (by decide))
        have UDa := mkH (UD.out.low (lo := q7) (Below.grown (Below.refl q7 wc2) GA.out (Nat.le_of_lt A7.out.lt) (fun j hj => by injection hj with hj; omega)) NA7.out)
        refine do_st ty24 rfl (.tmp 7) (.tmp 42) rfl rfl [.slice (some ⟨B, 0, none⟩) n k, .int .i64 S1.now] rfl rfl t24.out (fun v hv => by simp at hv; rcases hv with rfl | rfl <;> rfl) ?_
        clear GA t24 A7 A8 HST EDS UD
        generalize wc2.setCells q7 0 [.slice (some ⟨B, 0, none⟩) n k, .int .i64 S1.now] = w5a at *
        refine hK _ _ ⟨UDa.out, ?_⟩
        clear hK K
        try simp only [Act.put, jj1, jj2, jj3, jj4, jj5, jj6]
        refine wpAnyH_all (rs := [18]) (by kernel_rfl) (by simp) (AllH.cons rfl (fun K hK => ?_) AllH.nil)
        have GB : Hid (w5a.grownBy (w5a.setCells q8 0 (cx (.slice va vn vc) S1.cur S1.m)) (some q8)) := grown_setCells _ _ _
        have t50 : Hid (w5a.there q8 0 29) := by have := there_blk (cs := cx (.slice none 0 0) 0 Z) P8.out; rwa [cx_len hZl] at this
        have R8 : Hid (Blk (w5a.setCells q8 0 (cx (.slice va vn vc) S1.cur S1.m)) q8 50 (cxa (.slice va vn vc) S1.cur S1.m)) := put_blk (cs := (cx (.slice va vn vc) S1.cur S1.m)) (old := cx (.slice none 0 0) 0 Z) (by rw [cx_len hZl, cx_len HMW2.out.len]) P8.out
        have R7 := mkH (P7.out.wr (wr_of P8.out GB.out) (by decide))
        have HSTb := mkH (HSTa.out.wr (wr_of P8.out GB.out) (by decide) (by decide) (by decide))
        have EDSb := mkH (EDSa.out.wr (wr_of P8.out GB.out) (by decide) (by decide))
        have UDb := mkH (UDa.out.low (lo := q8) (Below.grown (Below.refl q8 w5a) GB.out (Nat.le_of_lt P8.out.lt) (fun j hj => by injection hj with hj; omega)) NA8.out)
        refine do_st ty50 rfl (.tmp 8) (.tmp 43) rfl rfl (cx (.slice va vn vc) S1.cur S1.m) rfl (cx_len HMW2.out.len) t50.out cx_one ?_
        clear GB t50 P7 P8 HSTa EDSa UDa
        generalize w5a.setCells q8 0 (cx (.slice va vn vc) S1.cur S1.m) = w5 at *
        refine hK _ _ ⟨UDb.out, ?_⟩
        clear hK K
        try simp only [Act.put, jj1, jj2, jj3, jj4, jj5, jj6]
        refine wpAnyH_done (by kernel_rfl) ?_ _
        go_wp2_with fail
        go_meet
        exact ⟨q7, q8, B, k, vn, vc, lo, p, va, H2, X, Sx, F2, rfl, rfl, ⟨UDb.out, by rw [HH2.out]; exact R7.out, R8.out, HG2.out, HF2.out, HSTb.out, ⟨_, EDSb.out⟩, HFL2.out, HMW2.out, by rw [HH2.out]; exact HKc.out, HLO.out.1, HLO.out.2, NA7.out, NA8.out⟩⟩
  case rest =>
    obtain ⟨q7, q8, B, k, vn, vc, lo, p, va, H, X, S, F, rfl, rfl, UX⟩ := hcut
    clear UD C14 C55 C36 CXD
    obtain ⟨hn2, hhn2⟩ : ∃ x, H.length = x := ⟨_, rfl⟩
    obtain ⟨nw, hnw⟩ : ∃ x, S1.now = x := ⟨_, rfl⟩
    obtain ⟨cu, hcu⟩ : ∃ x, S1.cur = x := ⟨_, rfl⟩
    obtain ⟨mm, hmm⟩ : ∃ x, S1.m = x := ⟨_, rfl⟩
    have UE := mkH (UX.out.keep (Below.refl _ _).drew)
    have B7 : Hid (Blk wc.drew q7 24 #[.slice (some ⟨B, 0, none⟩) hn2 k, .int .i64 nw]) := by unfold Hid; rw [← hhn2, ← hnw]; exact UE.out.b7
    have B8 : Hid (Blk wc.drew q8 50 (cxa (.slice va vn vc) cu mm)) := by unfold Hid; rw [← hcu, ← hmm]; exact UE.out.b8
    have hmm2 : mm.length = 27 := by rw [← hmm]; exact UX.out.mw.len
    have HFIN : Hid (∀ W, Below w.heap.size w W → Hst lo p W B H X S → (∃ hi, Ls p hi W (.slice va vn vc) F) → CrQ 0 (crW 0 S1) w (.returned (.tuple #[.agg #[.slice (some ⟨B, 0, none⟩) hn2 k, .int .i64 nw], .agg (cxa (.slice va vn vc) cu mm), .int .i64 0])) W) := fun W h1 h2 h3 => by
      rw [← hhn2, ← hnw, ← hcu, ← hmm]
      exact crq_ok UX.out.g UX.out.e h2 h3 UX.out.fl UX.out.mw UX.out.hk (by have := UX.out.l0; omega) UX.out.lp h1
    have N78 : Hid (q7 ≠ w.heap.size + 1 + 1 ∧ q8 ≠ w.heap.size + 1 + 1 + 1) := ⟨by have := UX.out.n7; omega, by have := UX.out.n8; omega⟩
    clear hhn2 hnw hcu hmm UX
    go_upto_region 8 with fail
    refine wp_region_held (S := fun w' => Blk w' q7 24 #[.slice (some ⟨B, 0, none⟩) hn2 k, .int .i64 nw] ∧ Blk w' q8 50 (cxa (.slice va vn vc) cu mm)) (by kernel_rfl) ?_
    change wpAnyH _ _ _ _ _ _ _ _ (World.drew _)
    generalize wc.drew = V4 at *
    refine ta 0 (.agg #[.slice (some ⟨B, 0, none⟩) hn2 k, .int .i64 nw]) rfl (Or.inl ⟨by rfl, fun w9 h9 => by obtain ⟨h1, h2⟩ := h9; have h3 : w9.cell? ⟨q7, 0, none⟩ = some (.slice (some ⟨B, 0, none⟩) hn2 k) := h1.cell rfl; have h4 : w9.cell? ⟨q7, 1, none⟩ = some (.int .i64 nw) := h1.cell rfl; go_simp⟩) ⟨B7.out, B8.out⟩ ?_
    refine ta 1 (.agg (cxa (.slice va vn vc) cu mm)) rfl (yi_ld ty50 rfl (.tmp 8) rfl rfl (cx (.slice va vn vc) cu mm) (cx_len hmm2) (fun _ h => range_blk h.2)) ⟨B7.out, B8.out⟩ ?_
    try simp only [Act.put, jj1, jj2, jj3, jj4, jj5, jj6]
    refine wpAnyH_all (rs := [2]) (by kernel_rfl) (by simp) (AllH.cons rfl (fun K hK => ?_) AllH.nil)
    have t24 : Hid (V4.there (w.heap.size + 1 + 1) 0 2) := there_blk (cs := [.slice none 0 0, .int .i64 0]) UE.out.u.b3
    have G1 : Hid (V4.grownBy (V4.setCells (w.heap.size + 1 + 1) 0 [.slice (some ⟨B, 0, none⟩) hn2 k, .int .i64 nw]) (some (w.heap.size + 1 + 1))) := grown_setCells _ _ _
    have D2 : Hid (Blk (V4.setCells (w.heap.size + 1 + 1) 0 [.slice (some ⟨B, 0, none⟩) hn2 k, .int .i64 nw]) (w.heap.size + 1 + 1) 24 #[.slice (some ⟨B, 0, none⟩) hn2 k, .int .i64 nw]) := put_blk (cs := [.slice (some ⟨B, 0, none⟩) hn2 k, .int .i64 nw]) (old := [.slice none 0 0, .int .i64 0]) rfl UE.out.u.b3
    have D7 := mkH (B7.out.grown G1.out (fun e => by injection e with e; exact N78.out.1 e))
    have D8 := mkH (B8.out.wr (wr_of UE.out.u.b3 G1.out) (by decide))
    have D4 := mkH (UE.out.u.b4.wr (wr_of UE.out.u.b3 G1.out) (by decide))
    have DH := mkH (UE.out.hst.wr (wr_of UE.out.u.b3 G1.out) (by decide) (by decide) (by decide))
    have DE : Hid (∃ hi, Ls p hi (V4.setCells (w.heap.size + 1 + 1) 0 [.slice (some ⟨B, 0, none⟩) hn2 k, .int .i64 nw]) (.slice va vn vc) F) := by obtain ⟨hi, h1⟩ := UE.out.eds; exact ⟨hi, h1.wr (wr_of UE.out.u.b3 G1.out) (by decide) (by decide)⟩
    have DL : Hid (Below w.heap.size w (V4.setCells (w.heap.size + 1 + 1) 0 [.slice (some ⟨B, 0, none⟩) hn2 k, .int .i64 nw])) := below_setCells (by omega) _ _ UE.out.u.bel
    refine do_st ty24 rfl (.tmp 4) (.tmp 44) rfl rfl [.slice (some ⟨B, 0, none⟩) hn2 k, .int .i64 nw] rfl rfl t24.out (fun v hv => by simp at hv; rcases hv with rfl | rfl <;> rfl) ?_
    clear t24 G1 UE B7 B8
    generalize V4.setCells (w.heap.size + 1 + 1) 0 [.slice (some ⟨B, 0, none⟩) hn2 k, .int .i64 nw] = w7x at *
    refine hK _ _ ⟨⟨D7.out, D8.out⟩, ?_⟩
    clear hK K
    try simp only [Act.put, jj1, jj2, jj3, jj4, jj5, jj6]
    refine wpAnyH_all (rs := [3]) (by kernel_rfl) (by simp) (AllH.cons rfl (fun K hK => ?_) AllH.nil)
    have t50 : Hid (w7x.there (w.heap.size + 1 + 1 + 1) 0 29) := by have := there_blk (cs := cx (.slice none 0 0) 0 Z) D4.out; rwa [cx_len hZl] at this
    have G1 : Hid (w7x.grownBy (w7x.setCells (w.heap.size + 1 + 1 + 1) 0 (cx (.slice va vn vc) cu mm)) (some (w.heap.size + 1 + 1 + 1))) := grown_setCells _ _ _
    have X3 : Hid (Blk (w7x.setCells (w.heap.size + 1 + 1 + 1) 0 (cx (.slice va vn vc) cu mm)) (w.heap.size + 1 + 1 + 1) 50 (cxa (.slice va vn vc) cu mm)) := put_blk (cs := (cx (.slice va vn vc) cu mm)) (old := cx (.slice none 0 0) 0 Z) (by rw [cx_len hZl, cx_len hmm2]) D4.out
    have X2 := mkH (D2.out.wr (wr_of D4.out G1.out) (by decide))
    have X7 := mkH (D7.out.wr (wr_of D4.out G1.out) (by decide))
    have X8 := mkH (D8.out.grown G1.out (fun e => by injection e with e; exact N78.out.2 e))
    have XH := mkH (DH.out.wr (wr_of D4.out G1.out) (by decide) (by decide) (by decide))
    have XE : Hid (∃ hi, Ls p hi (w7x.setCells (w.heap.size + 1 + 1 + 1) 0 (cx (.slice va vn vc) cu mm)) (.slice va vn vc) F) := by obtain ⟨hi, h1⟩ := DE.out; exact ⟨hi, h1.wr (wr_of D4.out G1.out) (by decide) (by decide)⟩
    have XL : Hid (Below w.heap.size w (w7x.setCells (w.heap.size + 1 + 1 + 1) 0 (cx (.slice va vn vc) cu mm))) := below_setCells (by omega) _ _ DL.out
    refine do_st ty50 rfl (.tmp 5) (.tmp 45) rfl rfl (cx (.slice va vn vc) cu mm) rfl (cx_len hmm2) t50.out cx_one ?_
    clear t50 G1 D2 D4 D7 D8 DH DE DL
    generalize w7x.setCells (w.heap.size + 1 + 1 + 1) 0 (cx (.slice va vn vc) cu mm) = w8x at *
    refine hK _ _ ⟨⟨X7.out, X8.out⟩, ?_⟩
    clear hK K
    try simp only [Act.put, jj1, jj2, jj3, jj4, jj5, jj6]
    refine tk 4 (.int .i64 0) ⟨X7.out, X8.out⟩ ?_
    try simp only [Act.put, jj1, jj2, jj3, jj4, jj5, jj6]
    refine wpAnyH_done (by kernel_rfl) ?_ _
    have l24 := ld24v X2.out
    have l50 := ld50v hmm2 X3.out
    go_wp2_with fail
    exact bodyPost_ret (v := .tuple #[.agg #[.slice (some ⟨B, 0, none⟩) hn2 k, .int .i64 nw], .agg (cxa (.slice va vn vc) cu mm), .int .i64 0]) (by simp [results, Try.results22, asAddr, l24, l50]) rfl (by rw [hq.out]; exact HFIN.out _ XL.out XH.out XE.out)
end Go.Proofs.Ytaahklapoppgaaa
