/- The program's Go. -/
import Derived.Test.YtaahklapoppgaaaQm23
namespace Go.Proofs.Ytaahklapoppgaaa
open Go.RowKit

set_option maxRecDepth 8000
set_option maxHeartbeats 16000000 in
set_option linter.unusedSimpArgs false in
theorem go_walk (Z : List Int) (hZ : Z.length = 27) (hz50 : ∀ w, (zeroValue 50).run Try.prog w = .ok (.agg (cxa (.slice none 0 0) 0 Z)) w) (_hb50 : ∀ w, (Instr.build 50 #[]).run Try.prog w = .ok (.agg (cxa (.slice none 0 0) 0 Z)) w) (ao : Option Addr) (n c : Nat) (now tt : Int) (G : List Nr) (m : List Int) (w : World) (HG : Hid (Grz w ao G)) (hn : G.length = n) (hc : n ≤ c) (hm : Mw m) (hbig : Hid (∀ d ∈ G.map Nr.d, d.ed.length ≤ 1048576)) :
    Calls Try.prog 26 #[.agg #[.slice ao n c, .int .i64 now], .int .i64 tt, .agg (mk m)] w fun e w' => CrP Z (goE (G.map Nr.d) now tt m) ((Wk.new (G.map Nr.d) now m).go (pathU (G.map Nr.d) now.toNat tt.toNat) (pathD (G.map Nr.d) now.toNat tt.toNat)) w e w' := by
  have hml := hm.len
  obtain ⟨W1, hW1⟩ : ∃ W1, W1 = (((w.alloc (.cells #[.slice ao n c, .int .i64 now] 24)).alloc (.cells (mk m) 41)).alloc (.cells #[.slice none 0 0, .int .i64 0] 24)).alloc (.cells (cxa (.slice none 0 0) 0 Z) 50) := ⟨_, rfl⟩
  have U1 : Hid (U4 w W1 ao n c now m Z) := by unfold Hid; rw [hW1]; exact u4_new w ao n c now m Z
  have hS1 : Hid (w.heap.size + 1 + 1 + 1 < W1.heap.size) := U1.out.b4.lt
  have C57 := start_any ao n c now G m W1 (HG.out.keep U1.out.bel) hn hc hm
  have a1 : W1.cell? ⟨w.heap.size, 0, none⟩ = some (.slice ao n c) := U1.out.b1.cell rfl
  have b1 : W1.cell? ⟨w.heap.size, 1, none⟩ = some (.int .i64 now) := U1.out.b1.cell rfl
  rcases stE_cases (G.map Nr.d) now m with ⟨hr, he⟩ | ⟨hr, ho, he⟩ | ⟨hr, ho, he⟩
  · have C57' := mkH C57
    rw [he] at C57'
    have hq : goE (G.map Nr.d) now tt m = 180 := by unfold goE; rw [ti_f hr]
    rw [hq]
    clear C57 hr he hq hn
    obtain ⟨z, hz⟩ : ∃ z : Int, z = 180 := ⟨_, rfl⟩
    rw [← hz] at C57' ⊢
    have hz1 : (z == 0) = false := by rw [hz]; rfl
    have hz2 : (z != 0) = true := by rw [hz]; rfl
    have HZ := mkH hz
    clear hz
    go_enter Try.func26, Try.ntmps26
    go_upto_region 1 with fail
    rw [← hW1]
    clear hW1
    go_wp2_with (first | refine wl_ld41 (B := w.heap.size + 1) (o := 0) (.tmp 5) rfl rfl rfl hml (range_blk U1.out.b2) ?_ | (go_at_call 57; refine C57'.out.mono ?_; rintro e w2 ⟨rfl, hw⟩; have U2 := mkH (U1.out.keep hw); have a2 := cell_keep a1 hw; have b2 := cell_keep b1 hw; have e30 : w2.cell? ⟨w.heap.size + 1 + 1, 0, none⟩ = some (.slice none 0 0) := U2.out.b3.cell rfl; have e31 : w2.cell? ⟨w.heap.size + 1 + 1, 1, none⟩ = some (.int .i64 0) := U2.out.b3.cell rfl; have f30 : w2.frozen? ⟨w.heap.size + 1 + 1, 0, none⟩ = false := U2.out.b3.frozen _; have f31 : w2.frozen? ⟨w.heap.size + 1 + 1, 1, none⟩ = false := U2.out.b3.frozen _; clear hw) | (refine wl_st50 (B := w.heap.size + 1 + 1 + 1) (o := 0) (.tmp 7) (.tmp 33) rfl rfl rfl rfl hZ (by have h4 := U2.out.b4; have h5 := Blk.off (B := w.heap.size + 1 + 1) (j := 1) (Blk.off (B := w.heap.size + 1 + 1) (j := 0) h4 (by omega) (.slice none 0 0)) (by omega) (.int .i64 0); have h6 := there_blk (cs := cx (.slice none 0 0) 0 Z) h5; rwa [cx_len hZ] at h6) ?_) | fail)
    have N3 : Blk ((w2.setCell ⟨w.heap.size + 1 + 1, 0, none⟩ (.slice none 0 0)).setCell ⟨w.heap.size + 1 + 1, 1, none⟩ (.int .i64 0)) (w.heap.size + 1 + 1) 24 #[.slice none 0 0, .int .i64 0] := set24 U2.out.b3
    have N4 : Blk ((w2.setCell ⟨w.heap.size + 1 + 1, 0, none⟩ (.slice none 0 0)).setCell ⟨w.heap.size + 1 + 1, 1, none⟩ (.int .i64 0)) (w.heap.size + 1 + 1 + 1) 50 (cxa (.slice none 0 0) 0 Z) := (U2.out.b4.off (by omega) _).off (by omega) _
    have LB : Below w.heap.size w ((w2.setCell ⟨w.heap.size + 1 + 1, 0, none⟩ (.slice none 0 0)).setCell ⟨w.heap.size + 1 + 1, 1, none⟩ (.int .i64 0)) := (U2.out.bel.setCell (by show w.heap.size ≤ w.heap.size + 1 + 1; omega) _).setCell (by show w.heap.size ≤ w.heap.size + 1 + 1; omega) _
    generalize (w2.setCell ⟨w.heap.size + 1 + 1, 0, none⟩ (.slice none 0 0)).setCell ⟨w.heap.size + 1 + 1, 1, none⟩ (.int .i64 0) = w3 at *
    have N3b := blk_setCells_off (B := w.heap.size + 1 + 1 + 1) (by omega) (cx (.slice none 0 0) 0 Z) 0 N3
    have N4b := put_blk (cs := cx (.slice none 0 0) 0 Z) (old := cx (.slice none 0 0) 0 Z) rfl N4
    have LBb := below_setCells (B := w.heap.size + 1 + 1 + 1) (by omega) (cx (.slice none 0 0) 0 Z) 0 LB
    have l24 := ld24v N3b
    have l50 := ld50v hZ N4b
    exact bodyPost_ret (v := .tuple #[.agg #[.slice none 0 0, .int .i64 0], .agg (cxa (.slice none 0 0) 0 Z), .int .i64 z]) (by simp [results, Try.results26, asAddr, l24, l50]) rfl (CrP.no (by rw [HZ.out]; decide) ⟨rfl, LBb⟩)
  · have C57' := mkH C57
    rw [he] at C57'
    have hq : goE (G.map Nr.d) now tt m = 2 := by unfold goE; rw [ti_t hr, ti_f ho]
    rw [hq]
    clear C57 hr he ho hq hn
    obtain ⟨z, hz⟩ : ∃ z : Int, z = 2 := ⟨_, rfl⟩
    rw [← hz] at C57' ⊢
    have hz1 : (z == 0) = false := by rw [hz]; rfl
    have hz2 : (z != 0) = true := by rw [hz]; rfl
    have HZ := mkH hz
    clear hz
    go_enter Try.func26, Try.ntmps26
    go_upto_region 1 with fail
    rw [← hW1]
    clear hW1
    go_wp2_with (first | refine wl_ld41 (B := w.heap.size + 1) (o := 0) (.tmp 5) rfl rfl rfl hml (range_blk U1.out.b2) ?_ | (go_at_call 57; refine C57'.out.mono ?_; rintro e w2 ⟨rfl, hw⟩; have U2 := mkH (U1.out.keep hw); have a2 := cell_keep a1 hw; have b2 := cell_keep b1 hw; have e30 : w2.cell? ⟨w.heap.size + 1 + 1, 0, none⟩ = some (.slice none 0 0) := U2.out.b3.cell rfl; have e31 : w2.cell? ⟨w.heap.size + 1 + 1, 1, none⟩ = some (.int .i64 0) := U2.out.b3.cell rfl; have f30 : w2.frozen? ⟨w.heap.size + 1 + 1, 0, none⟩ = false := U2.out.b3.frozen _; have f31 : w2.frozen? ⟨w.heap.size + 1 + 1, 1, none⟩ = false := U2.out.b3.frozen _; clear hw) | (refine wl_st50 (B := w.heap.size + 1 + 1 + 1) (o := 0) (.tmp 7) (.tmp 33) rfl rfl rfl rfl hZ (by have h4 := U2.out.b4; have h5 := Blk.off (B := w.heap.size + 1 + 1) (j := 1) (Blk.off (B := w.heap.size + 1 + 1) (j := 0) h4 (by omega) (.slice none 0 0)) (by omega) (.int .i64 0); have h6 := there_blk (cs := cx (.slice none 0 0) 0 Z) h5; rwa [cx_len hZ] at h6) ?_) | fail)
    have N3 : Blk ((w2.setCell ⟨w.heap.size + 1 + 1, 0, none⟩ (.slice none 0 0)).setCell ⟨w.heap.size + 1 + 1, 1, none⟩ (.int .i64 0)) (w.heap.size + 1 + 1) 24 #[.slice none 0 0, .int .i64 0] := set24 U2.out.b3
    have N4 : Blk ((w2.setCell ⟨w.heap.size + 1 + 1, 0, none⟩ (.slice none 0 0)).setCell ⟨w.heap.size + 1 + 1, 1, none⟩ (.int .i64 0)) (w.heap.size + 1 + 1 + 1) 50 (cxa (.slice none 0 0) 0 Z) := (U2.out.b4.off (by omega) _).off (by omega) _
    have LB : Below w.heap.size w ((w2.setCell ⟨w.heap.size + 1 + 1, 0, none⟩ (.slice none 0 0)).setCell ⟨w.heap.size + 1 + 1, 1, none⟩ (.int .i64 0)) := (U2.out.bel.setCell (by show w.heap.size ≤ w.heap.size + 1 + 1; omega) _).setCell (by show w.heap.size ≤ w.heap.size + 1 + 1; omega) _
    generalize (w2.setCell ⟨w.heap.size + 1 + 1, 0, none⟩ (.slice none 0 0)).setCell ⟨w.heap.size + 1 + 1, 1, none⟩ (.int .i64 0) = w3 at *
    have N3b := blk_setCells_off (B := w.heap.size + 1 + 1 + 1) (by omega) (cx (.slice none 0 0) 0 Z) 0 N3
    have N4b := put_blk (cs := cx (.slice none 0 0) 0 Z) (old := cx (.slice none 0 0) 0 Z) rfl N4
    have LBb := below_setCells (B := w.heap.size + 1 + 1 + 1) (by omega) (cx (.slice none 0 0) 0 Z) 0 LB
    have l24 := ld24v N3b
    have l50 := ld50v hZ N4b
    exact bodyPost_ret (v := .tuple #[.agg #[.slice none 0 0, .int .i64 0], .agg (cxa (.slice none 0 0) 0 Z), .int .i64 z]) (by simp [results, Try.results26, asAddr, l24, l50]) rfl (CrP.no (by rw [HZ.out]; decide) ⟨rfl, LBb⟩)
  · have C57' := mkH C57
    rw [he] at C57'
    have hlen : (G.map Nr.d).length = n := by rw [List.length_map, hn]
    by_cases h0 : tt < 0
    · have hq : goE (G.map Nr.d) now tt m = 181 := by unfold goE; rw [ti_t hr, ti_t ho, ti_t h0]
      rw [hq]
      clear C57 hr he ho hq hn hlen
      go_enter Try.func26, Try.ntmps26
      go_upto_region 1 with fail
      rw [← hW1]
      clear hW1
      go_wp2_with (first | refine wl_ld41 (B := w.heap.size + 1) (o := 0) (.tmp 5) rfl rfl rfl hml (range_blk U1.out.b2) ?_ | (go_at_call 57; refine C57'.out.mono ?_; rintro e w2 ⟨rfl, hw⟩; have U2 := mkH (U1.out.keep hw); have a2 := cell_keep a1 hw; have b2 := cell_keep b1 hw; have e30 : w2.cell? ⟨w.heap.size + 1 + 1, 0, none⟩ = some (.slice none 0 0) := U2.out.b3.cell rfl; have e31 : w2.cell? ⟨w.heap.size + 1 + 1, 1, none⟩ = some (.int .i64 0) := U2.out.b3.cell rfl; have f30 : w2.frozen? ⟨w.heap.size + 1 + 1, 0, none⟩ = false := U2.out.b3.frozen _; have f31 : w2.frozen? ⟨w.heap.size + 1 + 1, 1, none⟩ = false := U2.out.b3.frozen _; clear hw) | (refine wl_st50 (B := w.heap.size + 1 + 1 + 1) (o := 0) (.tmp 7) (.tmp 33) rfl rfl rfl rfl hZ (by have h4 := U2.out.b4; have h5 := Blk.off (B := w.heap.size + 1 + 1) (j := 1) (Blk.off (B := w.heap.size + 1 + 1) (j := 0) h4 (by omega) (.slice none 0 0)) (by omega) (.int .i64 0); have h6 := there_blk (cs := cx (.slice none 0 0) 0 Z) h5; rwa [cx_len hZ] at h6) ?_) | fail)
      have N3 : Blk ((w2.setCell ⟨w.heap.size + 1 + 1, 0, none⟩ (.slice none 0 0)).setCell ⟨w.heap.size + 1 + 1, 1, none⟩ (.int .i64 0)) (w.heap.size + 1 + 1) 24 #[.slice none 0 0, .int .i64 0] := set24 U2.out.b3
      have N4 : Blk ((w2.setCell ⟨w.heap.size + 1 + 1, 0, none⟩ (.slice none 0 0)).setCell ⟨w.heap.size + 1 + 1, 1, none⟩ (.int .i64 0)) (w.heap.size + 1 + 1 + 1) 50 (cxa (.slice none 0 0) 0 Z) := (U2.out.b4.off (by omega) _).off (by omega) _
      have LB : Below w.heap.size w ((w2.setCell ⟨w.heap.size + 1 + 1, 0, none⟩ (.slice none 0 0)).setCell ⟨w.heap.size + 1 + 1, 1, none⟩ (.int .i64 0)) := (U2.out.bel.setCell (by show w.heap.size ≤ w.heap.size + 1 + 1; omega) _).setCell (by show w.heap.size ≤ w.heap.size + 1 + 1; omega) _
      generalize (w2.setCell ⟨w.heap.size + 1 + 1, 0, none⟩ (.slice none 0 0)).setCell ⟨w.heap.size + 1 + 1, 1, none⟩ (.int .i64 0) = w3 at *
      have N3b := blk_setCells_off (B := w.heap.size + 1 + 1 + 1) (by omega) (cx (.slice none 0 0) 0 Z) 0 N3
      have N4b := put_blk (cs := cx (.slice none 0 0) 0 Z) (old := cx (.slice none 0 0) 0 Z) rfl N4
      have LBb := below_setCells (B := w.heap.size + 1 + 1 + 1) (by omega) (cx (.slice none 0 0) 0 Z) 0 LB
      have l24 := ld24v N3b
      have l50 := ld50v hZ N4b
      exact bodyPost_ret (v := .tuple #[.agg #[.slice none 0 0, .int .i64 0], .agg (cxa (.slice none 0 0) 0 Z), .int .i64 181]) (by simp [results, Try.results26, asAddr, l24, l50]) rfl (CrP.no (by decide) ⟨rfl, LBb⟩)
    by_cases h1 : (n : Int) ≤ tt
    · have hq : goE (G.map Nr.d) now tt m = 182 := by unfold goE; rw [ti_t hr, ti_t ho, ti_f h0, hlen, ti_t h1]
      rw [hq]
      clear C57 hr he ho hq hn hlen
      go_enter Try.func26, Try.ntmps26
      go_upto_region 1 with fail
      rw [← hW1]
      clear hW1
      go_wp2_with (first | refine wl_ld41 (B := w.heap.size + 1) (o := 0) (.tmp 5) rfl rfl rfl hml (range_blk U1.out.b2) ?_ | (go_at_call 57; refine C57'.out.mono ?_; rintro e w2 ⟨rfl, hw⟩; have U2 := mkH (U1.out.keep hw); have a2 := cell_keep a1 hw; have b2 := cell_keep b1 hw; have e30 : w2.cell? ⟨w.heap.size + 1 + 1, 0, none⟩ = some (.slice none 0 0) := U2.out.b3.cell rfl; have e31 : w2.cell? ⟨w.heap.size + 1 + 1, 1, none⟩ = some (.int .i64 0) := U2.out.b3.cell rfl; have f30 : w2.frozen? ⟨w.heap.size + 1 + 1, 0, none⟩ = false := U2.out.b3.frozen _; have f31 : w2.frozen? ⟨w.heap.size + 1 + 1, 1, none⟩ = false := U2.out.b3.frozen _; clear hw) | (refine wl_st50 (B := w.heap.size + 1 + 1 + 1) (o := 0) (.tmp 7) (.tmp 33) rfl rfl rfl rfl hZ (by have h4 := U2.out.b4; have h5 := Blk.off (B := w.heap.size + 1 + 1) (j := 1) (Blk.off (B := w.heap.size + 1 + 1) (j := 0) h4 (by omega) (.slice none 0 0)) (by omega) (.int .i64 0); have h6 := there_blk (cs := cx (.slice none 0 0) 0 Z) h5; rwa [cx_len hZ] at h6) ?_) | fail)
      have N3 : Blk ((w2.setCell ⟨w.heap.size + 1 + 1, 0, none⟩ (.slice none 0 0)).setCell ⟨w.heap.size + 1 + 1, 1, none⟩ (.int .i64 0)) (w.heap.size + 1 + 1) 24 #[.slice none 0 0, .int .i64 0] := set24 U2.out.b3
      have N4 : Blk ((w2.setCell ⟨w.heap.size + 1 + 1, 0, none⟩ (.slice none 0 0)).setCell ⟨w.heap.size + 1 + 1, 1, none⟩ (.int .i64 0)) (w.heap.size + 1 + 1 + 1) 50 (cxa (.slice none 0 0) 0 Z) := (U2.out.b4.off (by omega) _).off (by omega) _
      have LB : Below w.heap.size w ((w2.setCell ⟨w.heap.size + 1 + 1, 0, none⟩ (.slice none 0 0)).setCell ⟨w.heap.size + 1 + 1, 1, none⟩ (.int .i64 0)) := (U2.out.bel.setCell (by show w.heap.size ≤ w.heap.size + 1 + 1; omega) _).setCell (by show w.heap.size ≤ w.heap.size + 1 + 1; omega) _
      generalize (w2.setCell ⟨w.heap.size + 1 + 1, 0, none⟩ (.slice none 0 0)).setCell ⟨w.heap.size + 1 + 1, 1, none⟩ (.int .i64 0) = w3 at *
      have N3b := blk_setCells_off (B := w.heap.size + 1 + 1 + 1) (by omega) (cx (.slice none 0 0) 0 Z) 0 N3
      have N4b := put_blk (cs := cx (.slice none 0 0) 0 Z) (old := cx (.slice none 0 0) 0 Z) rfl N4
      have LBb := below_setCells (B := w.heap.size + 1 + 1 + 1) (by omega) (cx (.slice none 0 0) 0 Z) 0 LB
      have l24 := ld24v N3b
      have l50 := ld50v hZ N4b
      exact bodyPost_ret (v := .tuple #[.agg #[.slice none 0 0, .int .i64 0], .agg (cxa (.slice none 0 0) 0 Z), .int .i64 182]) (by simp [results, Try.results26, asAddr, l24, l50]) rfl (CrP.no (by decide) ⟨rfl, LBb⟩)
    have hq : goE (G.map Nr.d) now tt m = 0 := by unfold goE; rw [ti_t hr, ti_t ho, ti_f h0, hlen, ti_f h1]
    rw [hq]
    have hsz := hr.sz
    rw [sized_iff, hn] at hsz
    obtain ⟨i, rfl⟩ : ∃ i : Nat, now = (i : Int) := ⟨now.toNat, by omega⟩
    obtain ⟨t, rfl⟩ : ∃ t : Nat, tt = (t : Int) := ⟨tt.toNat, by omega⟩
    rw [Int.toNat_natCast, Int.toNat_natCast]
    obtain ⟨g, o, rfl, -⟩ := HG.out.base (by omega)
    have CN := mkH (fun V (hV : Below w.heap.size w V) => newWalk_any g o n c (i : Int) G m V (HG.out.keep hV) hn hsz.1 hm)
    have CW := mkH (fun V (hV : Below w.heap.size w V) => way_any (some ⟨g, o, none⟩) n c i t G V (HG.out.keep hV) hn hsz.1 (by omega) (by omega) hr.hng)
    have hpin := path_in hr.low (i := i) (j := t) (by omega) (by omega)
    have HHg : Hid (∀ j, 0 < j → j < (G.map Nr.d).length → 0 ≤ (at' (G.map Nr.d) j).par ∧ (at' (G.map Nr.d) j).par < (j : Int)) := fun j h1 h2 => (hr.hng j _ h1 (at'_some h2)).1
    obtain ⟨D, hD⟩ : ∃ D, D = G.map Nr.d := ⟨_, rfl⟩
    rw [← hD] at hpin CN CW HHg hbig hlen ⊢
    obtain ⟨U, hU⟩ : ∃ U, U = pathU D i t := ⟨_, rfl⟩
    obtain ⟨Dn, hDn⟩ : ∃ Dn, Dn = pathD D i t := ⟨_, rfl⟩
    rw [← hU, ← hDn] at hpin CW ⊢
    have HPI := mkH hpin
    have HIn : Hid (i < n) := by unfold Hid; omega
    have HLe := mkH hlen
    have HSz : Hid (n ≤ 4097) := hsz.1
    have ht0 : ¬ (t : Int) < 0 := by omega
    have ht1 : ¬ (n : Int) ≤ (t : Int) := h1
    clear C57 hr he ho hq hn hsz h0 h1 hpin hD hU hDn hlen
    go_enter Try.func26, Try.ntmps26
    go_upto_region 1 with fail
    rw [← hW1]
    clear hW1
    go_wp2_with (first | refine wl_ld41 (B := w.heap.size + 1) (o := 0) (.tmp 5) rfl rfl rfl hml (range_blk U1.out.b2) ?_ | (go_at_call 57; refine C57'.out.mono ?_; rintro e w2 ⟨rfl, hw⟩; have U2 := mkH (U1.out.keep hw); have a2 := cell_keep a1 hw; have b2 := cell_keep b1 hw; clear hw) | refine wl_ld41 (B := w.heap.size + 1) (o := 0) (.tmp 5) rfl rfl rfl hml (range_blk U2.out.b2) ?_ | fail)
    have hS2 : Hid (w.heap.size + 1 + 1 + 1 < w2.heap.size) := U2.out.b4.lt
    refine (CN.out w2 U2.out.bel).mono ?_
    rintro e w3 ⟨lo, p, B, k, H0, X, S, rfl, hH, hlo, hWm, hb3⟩
    have U3 := mkH (U2.out.keep hb3)
    have a3 := cell_keep a2 hb3
    have b3 := cell_keep b2 hb3
    have HW3 := mkH hWm
    have LOz : Hid (w.heap.size + 1 + 1 + 1 < lo) := Nat.lt_of_lt_of_le hS2.out hlo
    have HH := mkH hH
    clear hH hlo hWm hb3 CN
    dsimp only
    go_wp2_with fail
    refine (CW.out w3 U3.out.bel).mono ?_
    rintro e w4 ⟨ua, uc, db, dc, rfl, hOu, hOd, hb4⟩
    have U4' := mkH (U3.out.keep hb4)
    have HW4 := mkH (HW3.out.keep hb4)
    obtain ⟨ul, hul⟩ : ∃ x, U.length = x := ⟨_, rfl⟩
    obtain ⟨dl, hdl⟩ : ∃ x, Dn.length = x := ⟨_, rfl⟩
    rw [hul, hdl]
    rw [hdl] at hOd
    have HUL := mkH hul
    have HDL := mkH hdl
    obtain ⟨q1, hq1⟩ : ∃ x, w3.heap.size = x := ⟨_, rfl⟩
    obtain ⟨q2, hq2⟩ : ∃ x, w4.heap.size = x := ⟨_, rfl⟩
    have RD := mkH hOd
    have HB1 : Hid (∀ g, (Value.slice db dl dc).ownBlock = some g → q1 ≤ g ∧ g < q2) := fun g hg => by have := hOd.lt g hg; omega
    have HP1 : Hid (p < q1 ∧ B < q1) := by unfold Hid; have h1 := HW3.out.box.lt; have h2 := HW3.out.hst.h0; omega
    have HQ2 : Hid (q2 ≤ w4.heap.size) := Nat.le_of_eq hq2.symm
    rw [hq1] at RD HW4
    have HUb : Hid (ul ≤ 4097) := by unfold Hid; have := HPI.out.2.2.1; have := HLe.out; have := HSz.out; omega
    have HDb : Hid (dl ≤ 4097) := by unfold Hid; have := HPI.out.2.2.2.1; have := HLe.out; have := HSz.out; omega
    have HI0 : Hid (StI (Wk.new D (i : Int) m) H0 [] (i : Int) 0 m) := ⟨HH.out, rfl, rfl, rfl, rfl⟩
    clear hOu hOd hb4 hul hdl hq1 hq2 U3 HW3 a3 b3 CW
    dsimp only
    go_wp2_with fail
    go_loopg [49] ul (fun mz x49 wx => ∃ (j : Nat) (H : List Nr) (q vn vc : Nat) (va : Option Addr) (F : List Er) (nw cu : Int) (mm : List Int), x49 = .int .i64 (j : Int) ∧ j + mz = ul ∧ Hid (StI ((U.take j).foldl Wk.up (Wk.new D (i : Int) m)) H F nw cu mm) ∧ Hid (vn ≤ j * 1048576) ∧ Hid (Wm lo q wx p B k H X S va vn vc F nw cu mm) ∧ Hid (U4 w wx (some ⟨g, o, none⟩) n c (i : Int) m Z) ∧ Hid (wx.ownsRow q1 3 1 (.slice db dl dc) dl (iv Dn)) ∧ Hid (∀ g, (Value.slice va vn vc).ownBlock = some g → q2 ≤ g) ∧ Hid (q2 ≤ wx.heap.size))
    case atStart => exact ⟨0, H0, q1, 0, 0, none, [], (i : Int), 0, m, rfl, by omega, HI0.out, Nat.zero_le _, HW4.out, U4'.out, RD.out, (fun g hg => by simp [Value.ownBlock] at hg), HQ2.out⟩
    case round =>
      obtain ⟨j, H, q, vn, vc, va, F, nw, cu, mm, rfl, hjm, KI, KV, KW, KU, KR, KX, KQ⟩ := hrel
      by_cases hj : j < ul
      · have hj' : (j : Int) < (ul : Int) := by omega
        obtain ⟨x, hx⟩ : ∃ x, U[j]? = some x := ⟨_, List.getElem?_eq_getElem (by rw [HUL.out]; omega)⟩
        obtain ⟨cc, hcc⟩ := HPI.out.2.2.2.2
        have hup := (Up.nth hcc hx).1
        have hxr := HPI.out.1 x (List.mem_of_getElem? hx)
        have hnow : ((U.take j).foldl Wk.up (Wk.new D (i : Int) m)).now = (x : Int) := foldU_now (s := Wk.new D (i : Int) m) rfl (by show i < D.length; rw [HLe.out]; exact HIn.out) HHg.out hup
        have hnw : nw = (x : Int) := KI.out.n.symm.trans hnow
        subst hnw
        have hHl : H.length = D.length := by have := congrArg List.length KI.out.g; rw [List.length_map, foldU_len] at this; exact this
        obtain ⟨r, hr⟩ : ∃ r, H[x]? = some r := ⟨_, List.getElem?_eq_getElem (by omega)⟩
        have hen : r.en ≤ 1048576 := by
          have h1 := (KW.out.hst.gow.nz hr).len
          have h2 := KI.out.at hr
          have h3 := ed_sk (foldU_sk (U.take j) (Wk.new D (i : Int) m) x)
          rw [h2] at h3
          have h4 := hbig.out (at' D x) (List.mem_of_getElem? (at'_some hxr.2))
          have h5 : (at' D x).ed = r.E.map Er.d := h3.symm
          rw [h5, List.length_map, h1] at h4
          exact h4
        have CU := mkH (up_any lo q p B k x vn vc wr H X S va F cu mm r KW.out hr (by have := KV.out; have := HUb.out; have h6 : j * 1048576 ≤ 4097 * 1048576 := Nat.mul_le_mul_right _ (by omega); show (vn + r.en) * 56 ≤ _; omega))
        have HT : Hid (U.take (j + 1) = U.take j ++ [x]) := by
          obtain ⟨h1, h2⟩ := List.getElem?_eq_some_iff.1 hx
          unfold Hid
          rw [List.take_succ_eq_append_getElem h1, h2]
        have HR := mkH hr
        have HEn := mkH hen
        have hw1 : IntKind.i64.wrap ((j : Int) + 1) = ((j + 1 : Nat) : Int) := by rw [IntKind.wrap_i64]; have := HUb.out; omega
        clear hx hcc hup hnow hHl hr hen
        go_wp2_with fail
        refine CU.out.mono ?_
        rintro e w5 ⟨⟨u5, rfl⟩, hb5, hf5, va5, vc5, F5, hF5, hF5l, hnx5, hW5⟩
        have U5 := mkH (KU.out.low hb5 LOz.out)
        have HW5 := mkH hW5
        have hI5 := KI.out.up HR.out hF5
        have e5 : (U.take (j + 1)).foldl Wk.up (Wk.new D (i : Int) m) = ((U.take j).foldl Wk.up (Wk.new D (i : Int) m)).up x := by rw [HT.out, List.foldl_append]; rfl
        rw [← e5] at hI5
        have HI5 := mkH hI5
        clear hI5 e5
        have R5 := mkH (own_frm KR.out hf5 HB1.out KX.out HP1.out.1 HP1.out.2)
        have V5 : Hid (vn + r.en ≤ (j + 1) * 1048576) := by have := KV.out; have := HEn.out; show vn + r.en ≤ (j + 1) * 1048576; omega
        have X5 : Hid (∀ g, (Value.slice va5 (vn + r.en) vc5).ownBlock = some g → q2 ≤ g) := fun g hg => by
          rcases hnx5 with e | ⟨q9, e, h9⟩
          · exact KX.out g (e.symm.trans hg)
          · rw [hg] at e; injection e with e; have := KQ.out; omega
        have Q5 : Hid (q2 ≤ w5.heap.size) := Nat.le_trans KQ.out hb5.size
        clear hb5 hf5 hF5 hF5l hnx5 hW5 CU KI KV KW KU KR KX KQ
        dsimp only
        go_wp2_with fail
        go_roundg (gk - 1)
        case measure => omega
        case rel => exact ⟨j + 1, _, _, _, _, _, _, _, _, _, by go_num, by omega, HI5.out, V5.out, HW5.out, U5.out, R5.out, X5.out, Q5.out⟩
      · have hj' : ¬ (j : Int) < (ul : Int) := by omega
        obtain rfl : j = ul := by omega
        have HTu : Hid (U.take j = U) := by unfold Hid; rw [List.take_of_length_le (by rw [HUL.out]; omega)]
        have KI' : Hid (StI (U.foldl Wk.up (Wk.new D (i : Int) m)) H F nw cu mm) := by have := KI.out; rw [HTu.out] at this; exact this
        have KV' : Hid (vn ≤ 4097 * 1048576) := Nat.le_trans KV.out (Nat.mul_le_mul_right _ HUb.out)
        obtain ⟨s1, hs1⟩ : ∃ s, U.foldl Wk.up (Wk.new D (i : Int) m) = s := ⟨_, rfl⟩
        have HSK : Hid ((∀ y, sk (at' s1.G y) = sk (at' D y)) ∧ s1.G.length = D.length) := by unfold Hid; rw [← hs1]; exact ⟨fun y => foldU_sk U _ y, foldU_len U _⟩
        have HS1 := mkH hs1
        rw [hs1] at KI'
        clear hs1 KI KV
        go_wp2_with fail
        go_loopg [14, 56] dl (fun mz x14 x56 wx => ∃ (j : Nat) (H : List Nr) (q vn vc : Nat) (va : Option Addr) (F : List Er) (nw cu : Int) (mm : List Int), x56 = .int .i64 (j : Int) ∧ j + mz = dl ∧ Hid (StI ((Dn.take j).foldl Wk.down s1) H F nw cu mm) ∧ Hid (vn ≤ (4097 + j) * 1048576) ∧ Hid (Wm lo q wx p B k H X S va vn vc F nw cu mm) ∧ Hid (U4 w wx (some ⟨g, o, none⟩) n c (i : Int) m Z) ∧ Hid (wx.ownsRow q1 3 1 (.slice db dl dc) dl (iv Dn)) ∧ Hid (∀ g, (Value.slice va vn vc).ownBlock = some g → q2 ≤ g) ∧ Hid (q2 ≤ wx.heap.size))
        case atStart => exact ⟨0, H, q, vn, vc, va, F, nw, cu, mm, rfl, by omega, KI'.out, KV'.out, KW.out, KU.out, KR.out, KX.out, KQ.out⟩
        case round =>
          clear KI' KV' KW KU KR KX KQ
          obtain ⟨j, H, q, vn, vc, va, F, nw, cu, mm, rfl, hjm2, KI, KV, KW, KU, KR, KX, KQ⟩ := hrel
          by_cases hj : j < dl
          · have hj2 : (j : Int) < (dl : Int) := by omega
            have hj0 : (0 : Int) ≤ (j : Int) := by omega
            obtain ⟨x, hx⟩ : ∃ x, Dn[j]? = some x := ⟨_, List.getElem?_eq_getElem (by rw [HDL.out]; omega)⟩
            have hxr := HPI.out.2.1 x (List.mem_of_getElem? hx)
            obtain ⟨gd, od, e1, c1⟩ := own_ix KR.out j x hx
            subst e1
            have hHl : H.length = D.length := by have := congrArg List.length KI.out.g; rw [List.length_map, foldD_len, HSK.out.2] at this; exact this
            have hsx : ∀ y, sk (at' ((Dn.take j).foldl Wk.down s1).G y) = sk (at' D y) := fun y => (foldD_sk (Dn.take j) s1 y).trans (HSK.out.1 y)
            obtain ⟨r, hr⟩ : ∃ r, H[x]? = some r := ⟨_, List.getElem?_eq_getElem (by omega)⟩
            have hpx := HHg.out x hxr.1 hxr.2
            have h2 := KI.out.at hr
            have hpe : r.par = (at' D x).par := by have := par_sk (hsx x); rw [h2] at this; exact this
            obtain ⟨k0, hk0⟩ : ∃ k0 : Nat, r.par = (k0 : Int) := ⟨r.par.toNat, by omega⟩
            have hkx : k0 < x := by omega
            obtain ⟨s9, hs9⟩ : ∃ r, H[k0]? = some r := ⟨_, List.getElem?_eq_getElem (by omega)⟩
            have hen : r.en ≤ 1048576 := by
              have h1 := (KW.out.hst.gow.nz hr).len
              have h3 := ed_sk (hsx x)
              rw [h2] at h3
              have h4 := hbig.out (at' D x) (List.mem_of_getElem? (at'_some hxr.2))
              have h5 : (at' D x).ed = r.E.map Er.d := h3.symm
              rw [h5, List.length_map, h1] at h4
              exact h4
            have CU := mkH (down_walk lo q p B k x k0 vn vc wr H X S va F nw cu (fst (r.E.map Er.d)) mm (crs mm r.was r.made (r.E.map Er.d)) (r.E.map Er.d) r s9 KW.out hr hs9 hkx hk0 (by have := KV.out; have := HDb.out; have h6 : (4097 + j) * 1048576 ≤ 8194 * 1048576 := Nat.mul_le_mul_right _ (by omega); show (vn + r.en) * 56 ≤ _; omega) rfl rfl rfl)
            have HT : Hid (Dn.take (j + 1) = Dn.take j ++ [x]) := by
              obtain ⟨h1, h2⟩ := List.getElem?_eq_some_iff.1 hx
              unfold Hid
              rw [List.take_succ_eq_append_getElem h1, h2]
            have HR := mkH hr
            have HS9 := mkH hs9
            have HK0 := mkH hk0
            have HKX := mkH hkx
            have HEn := mkH hen
            have hw1 : IntKind.i64.wrap ((j : Int) + 1) = ((j + 1 : Nat) : Int) := by rw [IntKind.wrap_i64]; have := HDb.out; omega
            clear hx hHl hsx hr hpx h2 hpe hk0 hkx hs9 hen
            go_wp2_with fail
            refine CU.out.mono ?_
            rintro e w5 ⟨⟨u5, rfl⟩, hb5, hf5, va5, vc5, F5, hF5, hF5l, hnx5, hW5⟩
            have U5 := mkH (KU.out.low hb5 LOz.out)
            have HW5 := mkH hW5
            have hI5 := KI.out.down HR.out HS9.out (Nat.ne_of_lt HKX.out) HK0.out hF5
            have e5 : (Dn.take (j + 1)).foldl Wk.down s1 = ((Dn.take j).foldl Wk.down s1).down x := by rw [HT.out, List.foldl_append]; rfl
            rw [← e5] at hI5
            have HI5 := mkH hI5
            clear hI5 e5
            have R5 := mkH (own_frm KR.out hf5 HB1.out KX.out HP1.out.1 HP1.out.2)
            have V5 : Hid (vn + r.en ≤ (4097 + (j + 1)) * 1048576) := by have := KV.out; have := HEn.out; show vn + r.en ≤ (4097 + (j + 1)) * 1048576; omega
            have X5 : Hid (∀ g, (Value.slice va5 (vn + r.en) vc5).ownBlock = some g → q2 ≤ g) := fun g hg => by
              rcases hnx5 with e | ⟨q9, e, h9⟩
              · exact KX.out g (e.symm.trans hg)
              · rw [hg] at e; injection e with e; have := KQ.out; omega
            have Q5 : Hid (q2 ≤ w5.heap.size) := Nat.le_trans KQ.out hb5.size
            clear hb5 hf5 hF5 hF5l hnx5 hW5 CU KI KV KW KU KR KX KQ c1
            dsimp only
            go_wp2_with fail
            go_roundg (gk - 1)
            case measure => omega
            case rel => exact ⟨j + 1, _, _, _, _, _, _, _, _, _, by go_num, by omega, HI5.out, V5.out, HW5.out, U5.out, R5.out, X5.out, Q5.out⟩
          · have hj2 : ¬ (j : Int) < (dl : Int) := by omega
            obtain rfl : j = dl := by omega
            have HTd : Hid (Dn.take j = Dn) := by unfold Hid; rw [List.take_of_length_le (by rw [HDL.out]; omega)]
            obtain ⟨HF, hHF⟩ : ∃ x, x = H := ⟨_, rfl⟩
            obtain ⟨FF, hFF⟩ : ∃ x, x = F := ⟨_, rfl⟩
            obtain ⟨cu', mm', wz, hcu, hmmd, hwz⟩ : ∃ x y z, x = cu ∧ y = mm ∧ z = wr := ⟨_, _, _, rfl, rfl, rfl⟩
            have KF : Hid (StI ((Wk.new D (i : Int) m).go U Dn) HF FF nw cu mm) := by
              have := KI.out
              rw [HTd.out] at this
              unfold Hid Wk.go
              rw [HS1.out, hHF, hFF]
              exact this
            have HSG := mkH KF.out.g
            have HSE := mkH KF.out.e
            have HSn := mkH KF.out.n
            have HSc := mkH KF.out.c
            have HSm := mkH KF.out.m
            rw [← hwz] at KW KU ⊢
            have HWy : Hid (Wm lo q wz p B k HF X S va vn vc FF nw cu mm) := by unfold Hid; rw [hHF, hFF]; exact KW.out
            have UY := mkH KU.out
            clear hHF hFF hcu hmmd hwz KI KV KW KU KR KX KQ KF
            obtain ⟨hn, hhn⟩ : ∃ x, HF.length = x := ⟨_, rfl⟩
            have HHN := mkH hhn
            have HWz : Hid (Wm lo q wz.drew p B k HF X S va vn vc FF nw cu mm) := HWy.out.keep (Below.refl _ _).drew
            have WXz : Hid (Wx wz.drew p B hn k va vn vc nw cu mm) := by have := HWz.out.wx; rwa [hhn] at this
            have UZ : Hid (U4 w wz.drew (some ⟨g, o, none⟩) n c (i : Int) m Z) := UY.out.keep (Below.refl _ _).drew
            have hmm : mm.length = 27 := HWy.out.mw.len
            clear hhn HWy UY
            go_upto_region 20 with fail
            refine wp_region_held (S := fun w' => Wx w' p B hn k va vn vc nw cu mm) (by kernel_rfl) ?_
            change wpAnyH _ _ _ _ _ _ _ _ (World.drew _)
            generalize wz.drew = V9 at *
            refine tk 0 (.pointer (some ⟨p, 0, none⟩)) WXz.out ?_
            refine tk 1 (.pointer (some ⟨p, 0, none⟩)) WXz.out ?_
            refine tk 2 (.pointer (some ⟨p, 0, none⟩)) WXz.out ?_
            refine ta 3 (.agg #[.slice (some ⟨B, 0, none⟩) hn k, .int .i64 nw]) rfl (Or.inl ⟨by rfl, fun w9 h9 => by obtain ⟨h1, h2, h3, h4, h5, h6⟩ := h9; go_simp⟩) WXz.out ?_
            try simp only [Act.put, jj1, jj2, jj3, jj4, jj5, jj6]
            refine tk 4 (.pointer (some ⟨p, 0, none⟩)) WXz.out ?_
            refine tk 5 (.pointer (some ⟨p, 0, none⟩)) WXz.out ?_
            refine tk 6 (.pointer (some ⟨p, 2, none⟩)) WXz.out ?_
            refine ta 7 (.agg (cxa (.slice va vn vc) cu mm)) rfl (yi50 rfl (.tmp 70) rfl rfl hmm (fun _ h => h.cc)) WXz.out ?_
            try simp only [Act.put, jj1, jj2, jj3, jj4, jj5, jj6]
            refine wpAnyH_all (rs := [8]) (by kernel_rfl) (by simp) (AllH.cons rfl (fun K hK => ?_) AllH.nil)
            have e0 : V9.cell? ⟨w.heap.size + 1 + 1, 0, none⟩ = some (.slice none 0 0) := UZ.out.b3.cell rfl
            have e1 : V9.cell? ⟨w.heap.size + 1 + 1, 1, none⟩ = some (.int .i64 0) := UZ.out.b3.cell rfl
            have f0 : V9.frozen? ⟨w.heap.size + 1 + 1, 0, none⟩ = false := UZ.out.b3.frozen _
            have f1 : V9.frozen? ⟨w.heap.size + 1 + 1, 1, none⟩ = false := UZ.out.b3.frozen _
            have N3 : Hid (Blk ((V9.setCell ⟨w.heap.size + 1 + 1, 0, none⟩ (.slice (some ⟨B, 0, none⟩) hn k)).setCell ⟨w.heap.size + 1 + 1, 1, none⟩ (.int .i64 nw)) (w.heap.size + 1 + 1) 24 #[.slice (some ⟨B, 0, none⟩) hn k, .int .i64 nw]) := set24 UZ.out.b3
            have G3 : Hid (V9.grownBy ((V9.setCell ⟨w.heap.size + 1 + 1, 0, none⟩ (.slice (some ⟨B, 0, none⟩) hn k)).setCell ⟨w.heap.size + 1 + 1, 1, none⟩ (.int .i64 nw)) (some (w.heap.size + 1 + 1))) := (grown_set _ _ _ _).trans (grown_set _ _ _ _)
            go_simp
            clear e0 e1 f0 f1
            generalize (V9.setCell ⟨w.heap.size + 1 + 1, 0, none⟩ (.slice (some ⟨B, 0, none⟩) hn k)).setCell ⟨w.heap.size + 1 + 1, 1, none⟩ (.int .i64 nw) = w10 at *
            have HWb := mkH (HWz.out.low3 G3.out (by have := LOz.out; omega))
            have WXb : Hid (Wx w10 p B hn k va vn vc nw cu mm) := by have := HWb.out.wx; rwa [HHN.out] at this
            have N4 := mkH (UZ.out.b4.grown G3.out (fun e => by injection e with e; omega))
            have LB : Hid (Below w.heap.size w w10) := UZ.out.bel.grown G3.out UZ.out.bel.size (fun j hj => by injection hj with hj; omega)
            refine hK _ _ ⟨WXb.out, ?_⟩
            clear hK K
            try simp only [Act.put, jj1, jj2, jj3, jj4, jj5, jj6]
            refine wpAnyH_all (rs := [9]) (by kernel_rfl) (by simp) (AllH.cons rfl (fun K hK => ?_) AllH.nil)
            refine do_st ty50 rfl (.tmp 7) (.tmp 71) rfl rfl (cx (.slice va vn vc) cu mm) rfl (cx_len hmm) (by have := there_blk (cs := cx (.slice none 0 0) 0 Z) N4.out; rwa [cx_len hZ] at this) cx_one ?_
            have G4 : Hid (w10.grownBy (w10.setCells (w.heap.size + 1 + 1 + 1) 0 (cx (.slice va vn vc) cu mm)) (some (w.heap.size + 1 + 1 + 1))) := grown_setCells _ _ _
            have N4c : Hid (Blk (w10.setCells (w.heap.size + 1 + 1 + 1) 0 (cx (.slice va vn vc) cu mm)) (w.heap.size + 1 + 1 + 1) 50 (cxa (.slice va vn vc) cu mm)) := put_blk (old := cx (.slice none 0 0) 0 Z) (by rw [cx_len hZ, cx_len hmm]) N4.out
            generalize w10.setCells (w.heap.size + 1 + 1 + 1) 0 (cx (.slice va vn vc) cu mm) = w11 at *
            have HWc := mkH (HWb.out.low3 G4.out (by have := LOz.out; omega))
            have WXc : Hid (Wx w11 p B hn k va vn vc nw cu mm) := by have := HWc.out.wx; rwa [HHN.out] at this
            have N3c := mkH (N3.out.grown G4.out (fun e => by injection e with e; omega))
            have LC : Hid (Below w.heap.size w w11) := LB.out.grown G4.out LB.out.size (fun j hj => by injection hj with hj; omega)
            refine hK _ _ ⟨WXc.out, ?_⟩
            clear hK K
            try simp only [Act.put, jj1, jj2, jj3, jj4, jj5, jj6]
            refine tk 10 (.int .i64 0) WXc.out ?_
            try simp only [Act.put, jj1, jj2, jj3, jj4, jj5, jj6]
            refine wpAnyH_done (by kernel_rfl) ?_ _
            have l24 := ld24v N3c.out
            have l50 := ld50v hmm N4c.out
            clear N3 N4 HWb WXb LB
            go_wp2
            exact bodyPost_ret (v := .tuple #[.agg #[.slice (some ⟨B, 0, none⟩) hn k, .int .i64 nw], .agg (cxa (.slice va vn vc) cu mm), .int .i64 0]) (by simp [results, Try.results26, asAddr, l24, l50]) rfl (CrP.yes ⟨lo, p, B, k, HF, X, S, va, vn, vc, FF, by rw [HHN.out, HSn.out, HSc.out, HSm.out], HSG.out, HSE.out, by have := LOz.out; omega, HWc.out.hst, HWc.out.eds.up' HWc.out.qt, HWc.out.fl, by rw [HSm.out]; exact HWc.out.mw, HWc.out.hk, HWc.out.box.lt, LC.out⟩)
end Go.Proofs.Ytaahklapoppgaaa

