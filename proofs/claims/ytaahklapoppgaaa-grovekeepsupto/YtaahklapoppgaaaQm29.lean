/- The program's Redo. -/
import Derived.Test.YtaahklapoppgaaaQm22
namespace Go.Proofs.Ytaahklapoppgaaa
open Go.RowKit

set_option maxRecDepth 8000
set_option maxHeartbeats 16000000 in
set_option linter.unusedSimpArgs false in
theorem redo_walk (Z : List Int) (hZ : Z.length = 27) (hz50 : ∀ w, (zeroValue 50).run Try.prog w = .ok (.agg (cxa (.slice none 0 0) 0 Z)) w) (_hb50 : ∀ w, (Instr.build 50 #[]).run Try.prog w = .ok (.agg (cxa (.slice none 0 0) 0 Z)) w) (ao : Option Addr) (n c : Nat) (now : Int) (G : List Nr) (m : List Int) (w : World) (HG : Hid (Grz w ao G)) (hn : G.length = n) (hc : n ≤ c) (hm : Mw m) :
    Calls Try.prog 25 #[.agg #[.slice ao n c, .int .i64 now], .agg (mk m)] w fun e w' => CrP Z (redE (G.map Nr.d) now m) ((Wk.new (G.map Nr.d) now m).down (at' (G.map Nr.d) now.toNat).nxt.toNat) w e w' := by
  have hml := hm.len
  obtain ⟨W1, hW1⟩ : ∃ W1, W1 = (((w.alloc (.cells #[.slice ao n c, .int .i64 now] 24)).alloc (.cells (mk m) 41)).alloc (.cells #[.slice none 0 0, .int .i64 0] 24)).alloc (.cells (cxa (.slice none 0 0) 0 Z) 50) := ⟨_, rfl⟩
  have U1 : Hid (U4 w W1 ao n c now m Z) := by unfold Hid; rw [hW1]; exact u4_new w ao n c now m Z
  have hS1 : Hid (w.heap.size + 1 + 1 + 1 < W1.heap.size) := U1.out.b4.lt
  have C57 := start_any ao n c now G m W1 (HG.out.keep U1.out.bel) hn hc hm
  have a1 : W1.cell? ⟨w.heap.size, 0, none⟩ = some (.slice ao n c) := U1.out.b1.cell rfl
  have b1 : W1.cell? ⟨w.heap.size, 1, none⟩ = some (.int .i64 now) := U1.out.b1.cell rfl
  rcases stE_cases (G.map Nr.d) now m with ⟨hr, he⟩ | ⟨hr, ho, he⟩ | ⟨hr, ho, he⟩
  · have C57' := mkH C57
    rw [he] at C57'
    have hq : redE (G.map Nr.d) now m = 180 := by unfold redE; rw [ti_f hr]
    rw [hq]
    clear C57 hr he hq hn
    obtain ⟨z, hz⟩ : ∃ z : Int, z = 180 := ⟨_, rfl⟩
    rw [← hz] at C57' ⊢
    have hz1 : (z == 0) = false := by rw [hz]; rfl
    have hz2 : (z != 0) = true := by rw [hz]; rfl
    have HZ := mkH hz
    clear hz
    go_enter Try.func25, Try.ntmps25
    go_upto_region 1 with fail
    rw [← hW1]
    clear hW1
    go_upto_region 2 with (first | refine wl_ld41 (B := w.heap.size + 1) (o := 0) (.tmp 3) rfl rfl rfl hml (range_blk U1.out.b2) ?_ | (go_at_call 57; refine C57'.out.mono ?_; rintro e w2 ⟨rfl, hw⟩; have U2 := mkH (U1.out.keep hw); have a2 := cell_keep a1 hw; have b2 := cell_keep b1 hw;  have e30 : w2.cell? ⟨w.heap.size + 1 + 1, 0, none⟩ = some (.slice none 0 0) := U2.out.b3.cell rfl; have e31 : w2.cell? ⟨w.heap.size + 1 + 1, 1, none⟩ = some (.int .i64 0) := U2.out.b3.cell rfl; have f30 : w2.frozen? ⟨w.heap.size + 1 + 1, 0, none⟩ = false := U2.out.b3.frozen _; have f31 : w2.frozen? ⟨w.heap.size + 1 + 1, 1, none⟩ = false := U2.out.b3.frozen _; clear hw) | (refine wl_st50 (B := w.heap.size + 1 + 1 + 1) (o := 0) (.tmp 5) (.tmp 27) rfl rfl rfl rfl hZ (by have h4 := U2.out.b4; have h5 := Blk.off (B := w.heap.size + 1 + 1) (j := 1) (Blk.off (B := w.heap.size + 1 + 1) (j := 0) h4 (by omega) (.slice none 0 0)) (by omega) (.int .i64 0); have h6 := there_blk (cs := cx (.slice none 0 0) 0 Z) h5; rwa [cx_len hZ] at h6) ?_) | fail)
    clear a2 b2 a1 b1
    go_upto_if 23 with fail
    go_wp2_with (first | refine wl_ld41 (B := w.heap.size + 1) (o := 0) (.tmp 3) rfl rfl rfl hml (range_blk U1.out.b2) ?_ | (go_at_call 57; refine C57'.out.mono ?_; rintro e w2 ⟨rfl, hw⟩; have U2 := mkH (U1.out.keep hw); have a2 := cell_keep a1 hw; have b2 := cell_keep b1 hw;  have e30 : w2.cell? ⟨w.heap.size + 1 + 1, 0, none⟩ = some (.slice none 0 0) := U2.out.b3.cell rfl; have e31 : w2.cell? ⟨w.heap.size + 1 + 1, 1, none⟩ = some (.int .i64 0) := U2.out.b3.cell rfl; have f30 : w2.frozen? ⟨w.heap.size + 1 + 1, 0, none⟩ = false := U2.out.b3.frozen _; have f31 : w2.frozen? ⟨w.heap.size + 1 + 1, 1, none⟩ = false := U2.out.b3.frozen _; clear hw) | (refine wl_st50 (B := w.heap.size + 1 + 1 + 1) (o := 0) (.tmp 5) (.tmp 27) rfl rfl rfl rfl hZ (by have h4 := U2.out.b4; have h5 := Blk.off (B := w.heap.size + 1 + 1) (j := 1) (Blk.off (B := w.heap.size + 1 + 1) (j := 0) h4 (by omega) (.slice none 0 0)) (by omega) (.int .i64 0); have h6 := there_blk (cs := cx (.slice none 0 0) 0 Z) h5; rwa [cx_len hZ] at h6) ?_) | fail)
    have N3 : Blk ((w2.setCell ⟨w.heap.size + 1 + 1, 0, none⟩ (.slice none 0 0)).setCell ⟨w.heap.size + 1 + 1, 1, none⟩ (.int .i64 0)) (w.heap.size + 1 + 1) 24 #[.slice none 0 0, .int .i64 0] := set24 U2.out.b3
    have N4 : Blk ((w2.setCell ⟨w.heap.size + 1 + 1, 0, none⟩ (.slice none 0 0)).setCell ⟨w.heap.size + 1 + 1, 1, none⟩ (.int .i64 0)) (w.heap.size + 1 + 1 + 1) 50 (cxa (.slice none 0 0) 0 Z) := (U2.out.b4.off (by omega) _).off (by omega) _
    have LB : Below w.heap.size w ((w2.setCell ⟨w.heap.size + 1 + 1, 0, none⟩ (.slice none 0 0)).setCell ⟨w.heap.size + 1 + 1, 1, none⟩ (.int .i64 0)) := (U2.out.bel.setCell (by show w.heap.size ≤ w.heap.size + 1 + 1; omega) _).setCell (by show w.heap.size ≤ w.heap.size + 1 + 1; omega) _
    generalize (w2.setCell ⟨w.heap.size + 1 + 1, 0, none⟩ (.slice none 0 0)).setCell ⟨w.heap.size + 1 + 1, 1, none⟩ (.int .i64 0) = w3 at *
    have N3b := blk_setCells_off (B := w.heap.size + 1 + 1 + 1) (by omega) (cx (.slice none 0 0) 0 Z) 0 N3
    have N4b := put_blk (cs := cx (.slice none 0 0) 0 Z) (old := cx (.slice none 0 0) 0 Z) rfl N4
    have LBb := below_setCells (B := w.heap.size + 1 + 1 + 1) (by omega) (cx (.slice none 0 0) 0 Z) 0 LB
    have l24 := ld24v N3b
    have l50 := ld50v hZ N4b
    exact bodyPost_ret (v := .tuple #[.agg #[.slice none 0 0, .int .i64 0], .agg (cxa (.slice none 0 0) 0 Z), .int .i64 z]) (by simp [results, Try.results25, asAddr, l24, l50]) rfl (CrP.no (by rw [HZ.out]; decide) ⟨rfl, LBb⟩)
  · have C57' := mkH C57
    rw [he] at C57'
    have hq : redE (G.map Nr.d) now m = 2 := by unfold redE; rw [ti_t hr, ti_f ho]
    rw [hq]
    clear C57 hr he ho hq hn
    obtain ⟨z, hz⟩ : ∃ z : Int, z = 2 := ⟨_, rfl⟩
    rw [← hz] at C57' ⊢
    have hz1 : (z == 0) = false := by rw [hz]; rfl
    have hz2 : (z != 0) = true := by rw [hz]; rfl
    have HZ := mkH hz
    clear hz
    go_enter Try.func25, Try.ntmps25
    go_upto_region 1 with fail
    rw [← hW1]
    clear hW1
    go_upto_region 2 with (first | refine wl_ld41 (B := w.heap.size + 1) (o := 0) (.tmp 3) rfl rfl rfl hml (range_blk U1.out.b2) ?_ | (go_at_call 57; refine C57'.out.mono ?_; rintro e w2 ⟨rfl, hw⟩; have U2 := mkH (U1.out.keep hw); have a2 := cell_keep a1 hw; have b2 := cell_keep b1 hw;  have e30 : w2.cell? ⟨w.heap.size + 1 + 1, 0, none⟩ = some (.slice none 0 0) := U2.out.b3.cell rfl; have e31 : w2.cell? ⟨w.heap.size + 1 + 1, 1, none⟩ = some (.int .i64 0) := U2.out.b3.cell rfl; have f30 : w2.frozen? ⟨w.heap.size + 1 + 1, 0, none⟩ = false := U2.out.b3.frozen _; have f31 : w2.frozen? ⟨w.heap.size + 1 + 1, 1, none⟩ = false := U2.out.b3.frozen _; clear hw) | (refine wl_st50 (B := w.heap.size + 1 + 1 + 1) (o := 0) (.tmp 5) (.tmp 27) rfl rfl rfl rfl hZ (by have h4 := U2.out.b4; have h5 := Blk.off (B := w.heap.size + 1 + 1) (j := 1) (Blk.off (B := w.heap.size + 1 + 1) (j := 0) h4 (by omega) (.slice none 0 0)) (by omega) (.int .i64 0); have h6 := there_blk (cs := cx (.slice none 0 0) 0 Z) h5; rwa [cx_len hZ] at h6) ?_) | fail)
    clear a2 b2 a1 b1
    go_upto_if 23 with fail
    go_wp2_with (first | refine wl_ld41 (B := w.heap.size + 1) (o := 0) (.tmp 3) rfl rfl rfl hml (range_blk U1.out.b2) ?_ | (go_at_call 57; refine C57'.out.mono ?_; rintro e w2 ⟨rfl, hw⟩; have U2 := mkH (U1.out.keep hw); have a2 := cell_keep a1 hw; have b2 := cell_keep b1 hw;  have e30 : w2.cell? ⟨w.heap.size + 1 + 1, 0, none⟩ = some (.slice none 0 0) := U2.out.b3.cell rfl; have e31 : w2.cell? ⟨w.heap.size + 1 + 1, 1, none⟩ = some (.int .i64 0) := U2.out.b3.cell rfl; have f30 : w2.frozen? ⟨w.heap.size + 1 + 1, 0, none⟩ = false := U2.out.b3.frozen _; have f31 : w2.frozen? ⟨w.heap.size + 1 + 1, 1, none⟩ = false := U2.out.b3.frozen _; clear hw) | (refine wl_st50 (B := w.heap.size + 1 + 1 + 1) (o := 0) (.tmp 5) (.tmp 27) rfl rfl rfl rfl hZ (by have h4 := U2.out.b4; have h5 := Blk.off (B := w.heap.size + 1 + 1) (j := 1) (Blk.off (B := w.heap.size + 1 + 1) (j := 0) h4 (by omega) (.slice none 0 0)) (by omega) (.int .i64 0); have h6 := there_blk (cs := cx (.slice none 0 0) 0 Z) h5; rwa [cx_len hZ] at h6) ?_) | fail)
    have N3 : Blk ((w2.setCell ⟨w.heap.size + 1 + 1, 0, none⟩ (.slice none 0 0)).setCell ⟨w.heap.size + 1 + 1, 1, none⟩ (.int .i64 0)) (w.heap.size + 1 + 1) 24 #[.slice none 0 0, .int .i64 0] := set24 U2.out.b3
    have N4 : Blk ((w2.setCell ⟨w.heap.size + 1 + 1, 0, none⟩ (.slice none 0 0)).setCell ⟨w.heap.size + 1 + 1, 1, none⟩ (.int .i64 0)) (w.heap.size + 1 + 1 + 1) 50 (cxa (.slice none 0 0) 0 Z) := (U2.out.b4.off (by omega) _).off (by omega) _
    have LB : Below w.heap.size w ((w2.setCell ⟨w.heap.size + 1 + 1, 0, none⟩ (.slice none 0 0)).setCell ⟨w.heap.size + 1 + 1, 1, none⟩ (.int .i64 0)) := (U2.out.bel.setCell (by show w.heap.size ≤ w.heap.size + 1 + 1; omega) _).setCell (by show w.heap.size ≤ w.heap.size + 1 + 1; omega) _
    generalize (w2.setCell ⟨w.heap.size + 1 + 1, 0, none⟩ (.slice none 0 0)).setCell ⟨w.heap.size + 1 + 1, 1, none⟩ (.int .i64 0) = w3 at *
    have N3b := blk_setCells_off (B := w.heap.size + 1 + 1 + 1) (by omega) (cx (.slice none 0 0) 0 Z) 0 N3
    have N4b := put_blk (cs := cx (.slice none 0 0) 0 Z) (old := cx (.slice none 0 0) 0 Z) rfl N4
    have LBb := below_setCells (B := w.heap.size + 1 + 1 + 1) (by omega) (cx (.slice none 0 0) 0 Z) 0 LB
    have l24 := ld24v N3b
    have l50 := ld50v hZ N4b
    exact bodyPost_ret (v := .tuple #[.agg #[.slice none 0 0, .int .i64 0], .agg (cxa (.slice none 0 0) 0 Z), .int .i64 z]) (by simp [results, Try.results25, asAddr, l24, l50]) rfl (CrP.no (by rw [HZ.out]; decide) ⟨rfl, LBb⟩)
  · have C57' := mkH C57
    rw [he] at C57'
    have hsz := hr.sz
    rw [sized_iff, hn] at hsz
    obtain ⟨i, rfl⟩ : ∃ i : Nat, now = (i : Int) := ⟨now.toNat, by omega⟩
    rw [Int.toNat_natCast]
    have hi' : (i : Int) < (n : Int) := by omega
    have hi0 : (0 : Int) ≤ (i : Int) := by omega
    obtain ⟨g, o, rfl, hat0⟩ := HG.out.base (by omega)
    obtain ⟨s0, hs0⟩ : ∃ r, G[i]? = some r := ⟨_, List.getElem?_eq_getElem (by omega)⟩
    have n0 := (hat0 i s0 hs0).c1
    have n1 := cell_keep n0 U1.out.bel
    have hat : at' (G.map Nr.d) i = s0.d := map_at hs0
    rw [hat]
    obtain ⟨nx, hnx⟩ : ∃ x, s0.nxt = x := ⟨_, rfl⟩
    rw [hnx] at n0 n1
    have hd : s0.d.nxt = nx := hnx
    rw [hd]
    by_cases h0 : nx = 0
    · subst h0
      have hq : redE (G.map Nr.d) (i : Int) m = 182 := by unfold redE; rw [ti_t hr, ti_t ho, Int.toNat_natCast, hat, ti_t hd]
      rw [hq]
      clear C57 hr he ho hq hn hat hnx hd hs0 hat0 n0 hsz
      go_enter Try.func25, Try.ntmps25
      go_upto_region 1 with fail
      rw [← hW1]
      clear hW1
      go_wp2_with (first | refine wl_ld41 (B := w.heap.size + 1) (o := 0) (.tmp 3) rfl rfl rfl hml (range_blk U1.out.b2) ?_ | (go_at_call 57; refine C57'.out.mono ?_; rintro e w2 ⟨rfl, hw⟩; have U2 := mkH (U1.out.keep hw); have a2 := cell_keep a1 hw; have b2 := cell_keep b1 hw; have n2 := cell_keep n1 hw; have e30 : w2.cell? ⟨w.heap.size + 1 + 1, 0, none⟩ = some (.slice none 0 0) := U2.out.b3.cell rfl; have e31 : w2.cell? ⟨w.heap.size + 1 + 1, 1, none⟩ = some (.int .i64 0) := U2.out.b3.cell rfl; have f30 : w2.frozen? ⟨w.heap.size + 1 + 1, 0, none⟩ = false := U2.out.b3.frozen _; have f31 : w2.frozen? ⟨w.heap.size + 1 + 1, 1, none⟩ = false := U2.out.b3.frozen _; clear hw) | (refine wl_st50 (B := w.heap.size + 1 + 1 + 1) (o := 0) (.tmp 5) (.tmp 27) rfl rfl rfl rfl hZ (by have h4 := U2.out.b4; have h5 := Blk.off (B := w.heap.size + 1 + 1) (j := 1) (Blk.off (B := w.heap.size + 1 + 1) (j := 0) h4 (by omega) (.slice none 0 0)) (by omega) (.int .i64 0); have h6 := there_blk (cs := cx (.slice none 0 0) 0 Z) h5; rwa [cx_len hZ] at h6) ?_) | fail)
      have N3 : Blk ((w2.setCell ⟨w.heap.size + 1 + 1, 0, none⟩ (.slice none 0 0)).setCell ⟨w.heap.size + 1 + 1, 1, none⟩ (.int .i64 0)) (w.heap.size + 1 + 1) 24 #[.slice none 0 0, .int .i64 0] := set24 U2.out.b3
      have N4 : Blk ((w2.setCell ⟨w.heap.size + 1 + 1, 0, none⟩ (.slice none 0 0)).setCell ⟨w.heap.size + 1 + 1, 1, none⟩ (.int .i64 0)) (w.heap.size + 1 + 1 + 1) 50 (cxa (.slice none 0 0) 0 Z) := (U2.out.b4.off (by omega) _).off (by omega) _
      have LB : Below w.heap.size w ((w2.setCell ⟨w.heap.size + 1 + 1, 0, none⟩ (.slice none 0 0)).setCell ⟨w.heap.size + 1 + 1, 1, none⟩ (.int .i64 0)) := (U2.out.bel.setCell (by show w.heap.size ≤ w.heap.size + 1 + 1; omega) _).setCell (by show w.heap.size ≤ w.heap.size + 1 + 1; omega) _
      generalize (w2.setCell ⟨w.heap.size + 1 + 1, 0, none⟩ (.slice none 0 0)).setCell ⟨w.heap.size + 1 + 1, 1, none⟩ (.int .i64 0) = w3 at *
      have N3b := blk_setCells_off (B := w.heap.size + 1 + 1 + 1) (by omega) (cx (.slice none 0 0) 0 Z) 0 N3
      have N4b := put_blk (cs := cx (.slice none 0 0) 0 Z) (old := cx (.slice none 0 0) 0 Z) rfl N4
      have LBb := below_setCells (B := w.heap.size + 1 + 1 + 1) (by omega) (cx (.slice none 0 0) 0 Z) 0 LB
      have l24 := ld24v N3b
      have l50 := ld50v hZ N4b
      exact bodyPost_ret (v := .tuple #[.agg #[.slice none 0 0, .int .i64 0], .agg (cxa (.slice none 0 0) 0 Z), .int .i64 182]) (by simp [results, Try.results25, asAddr, l24, l50]) rfl (CrP.no (by decide) ⟨rfl, LBb⟩)
    · have hq : redE (G.map Nr.d) (i : Int) m = 0 := by unfold redE; rw [ti_t hr, ti_t ho, Int.toNat_natCast, hat, ti_f (by rw [hd]; exact h0)]
      rw [hq]
      obtain ⟨j, hj, sj, hsj, hpj⟩ : ∃ j : Nat, nx = (j : Int) ∧ ∃ t, G[j]? = some t ∧ t.par = (i : Int) := by
        rcases hr.lds i s0.d (by rw [List.getElem?_map, hs0]; rfl) with h | ⟨k, h1, t, h2, h3⟩
        · exact absurd (hd.symm.trans h) h0
        · rw [List.getElem?_map] at h2
          cases hk : G[k]? with
          | none => rw [hk] at h2; cases h2
          | some t' => rw [hk] at h2; cases h2; exact ⟨k, hd.symm.trans h1, t', hk, h3⟩
      subst hj
      have hij : i < j := by
        have h1 : 0 < j := by omega
        have := (hr.hng j sj.d h1 (by rw [List.getElem?_map, hsj]; rfl)).1
        have h3 : sj.d.par = (i : Int) := hpj
        omega
      rw [Int.toNat_natCast]
      have CN := mkH (fun V (hV : Below w.heap.size w V) => newWalk_any g o n c (i : Int) G m V (HG.out.keep hV) hn hsz.1 hm)
      have h01 : ((j : Int) == 0) = false := by simp; omega
      have HIn : Hid (i < n) := by unfold Hid; omega
      have HJn : Hid (j < n) := by unfold Hid; have := (List.getElem?_eq_some_iff.1 hsj).1; omega
      have HIJ := mkH hij
      have HGn := mkH hn
      have HPJ : Hid ((at' (G.map Nr.d) j).par = (i : Int)) := by unfold Hid; rw [map_at hsj]; exact hpj
      have N0 := mkH n0
      clear C57 hr he ho hq hn hsz h0 hat hnx hd hs0 hat0 n0 hsj hpj hij
      go_enter Try.func25, Try.ntmps25
      go_upto_region 1 with fail
      rw [← hW1]
      clear hW1
      go_wp2_with (first | refine wl_ld41 (B := w.heap.size + 1) (o := 0) (.tmp 3) rfl rfl rfl hml (range_blk U1.out.b2) ?_ | (go_at_call 57; refine C57'.out.mono ?_; rintro e w2 ⟨rfl, hw⟩; have U2 := mkH (U1.out.keep hw); have a2 := cell_keep a1 hw; have b2 := cell_keep b1 hw; have n2 := cell_keep n1 hw; clear hw) | refine wl_ld41 (B := w.heap.size + 1) (o := 0) (.tmp 3) rfl rfl rfl hml (range_blk U2.out.b2) ?_ | fail)
      have hS2 : Hid (w.heap.size + 1 + 1 + 1 < w2.heap.size) := U2.out.b4.lt
      refine (CN.out w2 U2.out.bel).mono ?_
      rintro e w3 ⟨lo, p, B, k, H, X, S, rfl, hH, hlo, hWm, hb3⟩
      have U3 := mkH (U2.out.keep hb3)
      have a3 := cell_keep a2 hb3
      have b3 := cell_keep b2 hb3
      have n3 := cell_keep n2 hb3
      have HW3 := mkH hWm
      have LOz : Hid (w.heap.size + 1 + 1 + 1 < lo) := Nat.lt_of_lt_of_le hS2.out hlo
      have hHl : H.length = n := by have := congrArg List.length hH; rw [List.length_map, List.length_map, HGn.out] at this; exact this
      obtain ⟨r, hr⟩ : ∃ r, H[j]? = some r := ⟨_, List.getElem?_eq_getElem (by have := HJn.out; omega)⟩
      obtain ⟨s1, hs1⟩ : ∃ r, H[i]? = some r := ⟨_, List.getElem?_eq_getElem (by have := HIn.out; omega)⟩
      have hz := hWm.hst.gow.nz hr
      have hpr : r.par = (i : Int) := by have := HPJ.out; rw [← hH, map_at hr] at this; exact this
      have CU := mkH (down_walk lo w3.heap.size p B k j i 0 0 w3 H X S none [] (i : Int) 0 (fst (r.E.map Er.d)) m (crs m r.was r.made (r.E.map Er.d)) (r.E.map Er.d) r s1 hWm hr hs1 HIJ.out hpr (by have := hz.big; show (0 + r.en) * 56 ≤ _; omega) rfl rfl rfl)
      have HST := mkH (dn_st (s := Wk.new (G.map Nr.d) (i : Int) m) hH hr hs1 (Nat.ne_of_lt HIJ.out) hpr)
      clear hH hlo hWm hb3 hHl hz CN hpr
      dsimp only
      go_wp2_with fail
      refine CU.out.mono ?_
      rintro e wz ⟨⟨u5, rfl⟩, hb5, -, va, vc, F5, hF5, hF5l, -, hW5⟩
      have UY := mkH (U3.out.low hb5 LOz.out)
      obtain ⟨HF, hHF⟩ : ∃ x, x = (H.set j (r.mk2 m (crs m r.was r.made (r.E.map Er.d)))).set i (s1.to (j : Int)) := ⟨_, rfl⟩
      obtain ⟨FF, hFF⟩ : ∃ x, x = [] ++ F5 := ⟨_, rfl⟩
      obtain ⟨vn, hvn⟩ : ∃ x, x = 0 + r.en := ⟨_, rfl⟩
      obtain ⟨nw, hnw⟩ : ∃ x, x = (j : Int) := ⟨_, rfl⟩
      obtain ⟨cu, hcu⟩ : ∃ x, x = fst (r.E.map Er.d) := ⟨_, rfl⟩
      obtain ⟨mm, hmmd⟩ : ∃ x, x = crs m r.was r.made (r.E.map Er.d) := ⟨_, rfl⟩
      have HSG : Hid (HF.map Nr.d = ((Wk.new (G.map Nr.d) (i : Int) m).down j).G) := by unfold Hid; rw [HST.out.1, hHF]; rfl
      have HSn : Hid (((Wk.new (G.map Nr.d) (i : Int) m).down j).now = nw) := by unfold Hid; rw [HST.out.2.1, hnw]
      have HSE : Hid (FF.map Er.d = ((Wk.new (G.map Nr.d) (i : Int) m).down j).E) := by unfold Hid; rw [HST.out.2.2.1, hFF, List.map_append, hF5]; rfl
      have HSc : Hid (((Wk.new (G.map Nr.d) (i : Int) m).down j).cur = cu) := by unfold Hid; rw [HST.out.2.2.2.1, hcu]
      have HSm : Hid (((Wk.new (G.map Nr.d) (i : Int) m).down j).m = mm) := by unfold Hid; rw [HST.out.2.2.2.2, hmmd]; rfl
      have hW6 : Wm lo wz.heap.size wz p B k HF X S va vn vc FF nw cu mm := by rw [hHF, hFF, hvn, hnw, hcu, hmmd]; exact hW5
      have HWy := mkH hW6
      clear hb5 hF5 hF5l hW5 hW6 hHF hFF hvn hnw hcu hmmd HST CU U3 HW3
      dsimp only
      obtain ⟨hn, hhn⟩ : ∃ x, HF.length = x := ⟨_, rfl⟩
      have HHN := mkH hhn
      have HWz : Hid (Wm lo wz.heap.size wz.drew p B k HF X S va vn vc FF nw cu mm) := HWy.out.keep (Below.refl _ _).drew
      have WXz : Hid (Wx wz.drew p B hn k va vn vc nw cu mm) := by have := HWz.out.wx; rwa [hhn] at this
      have UZ : Hid (U4 w wz.drew (some ⟨g, o, none⟩) n c (i : Int) m Z) := UY.out.keep (Below.refl _ _).drew
      have hmm : mm.length = 27 := HWy.out.mw.len
      obtain ⟨zz, hzz⟩ : ∃ x, wz.heap.size = x := ⟨_, rfl⟩
      rw [hzz] at HWz
      clear hhn hzz HWy UY
      go_upto_region 8 with fail
      refine wp_region_held (S := fun w' => Wx w' p B hn k va vn vc nw cu mm) (by kernel_rfl) ?_
      change wpAnyH _ _ _ _ _ _ _ _ (World.drew _)
      generalize wz.drew = V9 at *
      refine tk 0 (.pointer (some ⟨p, 0, none⟩)) WXz.out ?_
      refine tk 1 (.pointer (some ⟨p, 0, none⟩)) WXz.out ?_
      refine tk 2 (.pointer (some ⟨p, 0, none⟩)) WXz.out ?_
      refine ta 3 (.agg #[.slice (some ⟨B, 0, none⟩) hn k, .int .i64 nw]) rfl (Or.inl ⟨by rfl, fun w9 h9 => by obtain ⟨h1, h2, h3, h4, h5, h6⟩ := h9; go_simp⟩) WXz.out ?_
      try simp only [Act.put, jj1, jj2, jj3, jj4, jj5, jj6]
      refine tk 4 (.pointer (some ⟨p, 0, none⟩)) WXz.out ?_
      refine tk 5 (.pointer (some ⟨p, 0, none⟩)) WXz.out ?_
      refine tk 6 (.pointer (some ⟨p, 2, none⟩)) WXz.out ?_
      refine ta 7 (.agg (cxa (.slice va vn vc) cu mm)) rfl (yi50 rfl (.tmp 47) rfl rfl hmm (fun _ h => h.cc)) WXz.out ?_
      try simp only [Act.put, jj1, jj2, jj3, jj4, jj5, jj6]
      refine wpAnyH_all (rs := [8]) (by kernel_rfl) (by simp) (AllH.cons rfl (fun K hK => ?_) AllH.nil)
      have e0 : V9.cell? ⟨w.heap.size + 1 + 1, 0, none⟩ = some (.slice none 0 0) := UZ.out.b3.cell rfl
      have e1 : V9.cell? ⟨w.heap.size + 1 + 1, 1, none⟩ = some (.int .i64 0) := UZ.out.b3.cell rfl
      have f0 : V9.frozen? ⟨w.heap.size + 1 + 1, 0, none⟩ = false := UZ.out.b3.frozen _
      have f1 : V9.frozen? ⟨w.heap.size + 1 + 1, 1, none⟩ = false := UZ.out.b3.frozen _
      have N3 : Hid (Blk ((V9.setCell ⟨w.heap.size + 1 + 1, 0, none⟩ (.slice (some ⟨B, 0, none⟩) hn k)).setCell ⟨w.heap.size + 1 + 1, 1, none⟩ (.int .i64 nw)) (w.heap.size + 1 + 1) 24 #[.slice (some ⟨B, 0, none⟩) hn k, .int .i64 nw]) := set24 UZ.out.b3
      have G3 : Hid (V9.grownBy ((V9.setCell ⟨w.heap.size + 1 + 1, 0, none⟩ (.slice (some ⟨B, 0, none⟩) hn k)).setCell ⟨w.heap.size + 1 + 1, 1, none⟩ (.int .i64 nw)) (some (w.heap.size + 1 + 1))) := (grown_set _ _ _ _).trans (grown_set _ _ _ _)
      go_simp
      clear e0 e1 f0 f1
      generalize (V9.setCell ⟨w.heap.size + 1 + 1, 0, none⟩ (.slice (some ⟨B, 0, none⟩) hn k)).setCell ⟨w.heap.size + 1 + 1, 1, none⟩ (.int .i64 nw) = w10 at *
      have HWb := mkH (HWz.out.low3 G3.out (by have := LOz.out; omega))
      have WXb : Hid (Wx w10 p B hn k va vn vc nw cu mm) := by have := HWb.out.wx; rwa [HHN.out] at this
      have N4 := mkH (UZ.out.b4.grown G3.out (fun e => by injection e with e; omega))
      have LB : Hid (Below w.heap.size w w10) := UZ.out.bel.grown G3.out UZ.out.bel.size (fun j hj => by injection hj with hj; omega)
      refine hK _ _ ⟨WXb.out, ?_⟩
      clear hK K
      try simp only [Act.put, jj1, jj2, jj3, jj4, jj5, jj6]
      refine wpAnyH_all (rs := [9]) (by kernel_rfl) (by simp) (AllH.cons rfl (fun K hK => ?_) AllH.nil)
      refine do_st ty50 rfl (.tmp 5) (.tmp 48) rfl rfl (cx (.slice va vn vc) cu mm) rfl (cx_len hmm) (by have := there_blk (cs := cx (.slice none 0 0) 0 Z) N4.out; rwa [cx_len hZ] at this) cx_one ?_
      have G4 : Hid (w10.grownBy (w10.setCells (w.heap.size + 1 + 1 + 1) 0 (cx (.slice va vn vc) cu mm)) (some (w.heap.size + 1 + 1 + 1))) := grown_setCells _ _ _
      have N4c : Hid (Blk (w10.setCells (w.heap.size + 1 + 1 + 1) 0 (cx (.slice va vn vc) cu mm)) (w.heap.size + 1 + 1 + 1) 50 (cxa (.slice va vn vc) cu mm)) := put_blk (old := cx (.slice none 0 0) 0 Z) (by rw [cx_len hZ, cx_len hmm]) N4.out
      generalize w10.setCells (w.heap.size + 1 + 1 + 1) 0 (cx (.slice va vn vc) cu mm) = w11 at *
      have HWc := mkH (HWb.out.low3 G4.out (by have := LOz.out; omega))
      have WXc : Hid (Wx w11 p B hn k va vn vc nw cu mm) := by have := HWc.out.wx; rwa [HHN.out] at this
      have N3c := mkH (N3.out.grown G4.out (fun e => by injection e with e; omega))
      have LC : Hid (Below w.heap.size w w11) := LB.out.grown G4.out LB.out.size (fun j hj => by injection hj with hj; omega)
      refine hK _ _ ⟨WXc.out, ?_⟩
      clear hK K
      try simp only [Act.put, jj1, jj2, jj3, jj4, jj5, jj6]
      refine tk 10 (.int .i64 0) WXc.out ?_
      try simp only [Act.put, jj1, jj2, jj3, jj4, jj5, jj6]
      refine wpAnyH_done (by kernel_rfl) ?_ _
      have l24 := ld24v N3c.out
      have l50 := ld50v hmm N4c.out
      clear N3 N4 HWb WXb LB
      go_wp2
      exact bodyPost_ret (v := .tuple #[.agg #[.slice (some ⟨B, 0, none⟩) hn k, .int .i64 nw], .agg (cxa (.slice va vn vc) cu mm), .int .i64 0]) (by simp [results, Try.results25, asAddr, l24, l50]) rfl (CrP.yes ⟨lo, p, B, k, HF, X, S, va, vn, vc, FF, by rw [HHN.out, HSn.out, HSc.out, HSm.out], HSG.out, HSE.out, by have := LOz.out; omega, HWc.out.hst, HWc.out.eds.up' HWc.out.qt, HWc.out.fl, by rw [HSm.out]; exact HWc.out.mw, HWc.out.hk, HWc.out.box.lt, LC.out⟩)
end Go.Proofs.Ytaahklapoppgaaa

