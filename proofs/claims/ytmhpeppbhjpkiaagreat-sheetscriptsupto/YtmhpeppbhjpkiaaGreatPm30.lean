/- The contract of the wood's split. -/
import Derived.Test.YtmhpeppbhjpkiaaGreatPm29
import Derived.Test.YtmhpeppbhjpkiaaGreatPm04
namespace Go.Proofs.YtmhpeppbhjpkiaaGreat
open Go.RowKit

theorem ht_small2 {t : Tr} (h : t.whole) (hz : t.size ≤ 524287) : t.ht ≤ 38 := by
  have h1 := Tr.whole_low h
  have h2 : (t.size + 1) * (t.size + 1) ≤ 524288 * 524288 := Nat.mul_le_mul (by omega) (by omega)
  by_cases h3 : t.ht ≤ 38
  · exact h3
  · have : 2 ^ 39 ≤ 2 ^ t.ht := Nat.pow_le_pow_right (by omega) (by omega)
    omega
theorem blk_size (t : Tr) : t.blk.size = t.size := by rw [← Tr.size_list, Tr.blk_list, Tr.size_list]
theorem blk_fits {t : Tr} (h : t.fits) : t.blk.fits := by rw [Tr.fits_list, Tr.blk_list, ← Tr.fits_list]; exact h
/-- a tree for the wood: right, fit, small -/
structure Gdw (t : Tr) : Prop where
  wh : t.whole
  ft : t.fits
  ht : t.ht ≤ 38
theorem Gdw.of_blk {t : Tr} (hb : t.bal) (hf : t.fits) (hz : t.size ≤ 524287) : Gdw t.blk := ⟨Tr.blk_whole hb, blk_fits hf, ht_small2 (Tr.blk_whole hb) (by rw [blk_size]; exact hz)⟩
theorem split_gdw {t : Tr} (k : Nat) (hb : t.bal) (hf : t.fits) (hz : t.size ≤ 524287) : Gdw (Tr.splitT t k).1 ∧ Gdw (Tr.splitT t k).2 ∧ (Tr.splitT t k).1.size = min k t.size ∧ (Tr.splitT t k).2.size = t.size - k := by
  obtain ⟨w1, w2⟩ := Tr.splitT_whole t k hb
  obtain ⟨l1, l2⟩ := Tr.splitT_list t k
  have f := (Tr.fits_list t).1 hf
  have z1 : (Tr.splitT t k).1.size = min k t.size := by rw [← Tr.size_list, l1, List.length_take, Tr.size_list]
  have z2 : (Tr.splitT t k).2.size = t.size - k := by rw [← Tr.size_list, l2, List.length_drop, Tr.size_list]
  exact ⟨⟨w1, (Tr.fits_list _).2 (fun p hp => f p (by rw [l1] at hp; exact List.mem_of_mem_take hp)), ht_small2 w1 (by rw [z1]; omega)⟩, ⟨w2, (Tr.fits_list _).2 (fun p hp => f p (by rw [l2] at hp; exact List.mem_of_mem_drop hp)), ht_small2 w2 (by rw [z2]; omega)⟩, z1, z2⟩
/-- what split gives -/
def SplG (w : World) (base B : Nat) (v : Value) (N : List Nd) (a b : Tr) (cost : Nat) (e : Ending) (w' : World) : Prop :=
  ∃ (i j : Int) (v' : Value) (M : List Nd), e = .returned (.tuple #[.int .i64 i, .int .i64 j]) ∧ Wd w' base B v' (N ++ M) ∧ Is (N ++ M) a i ∧ Is (N ++ M) b j ∧ Grw w w' B v v' ∧ M.length ≤ cost
/-- what split asks for -/
def Spq (base B : Nat) (t : Tr) : Prop := ∀ (k : Nat) (i : Int) (w : World) (v : Value) (N : List Nd), k ≤ t.size → Wd w base B v N → Is N t.blk i → base ≤ w.heap.size → N.length + 240 * (t.ht + 1) ≤ 2097152 → Calls Tryz.prog 124 #[.pointer (some ⟨B, 0, none⟩), .int .i64 i, .int .i64 (k : Int)] w fun e w' => SplG w base B v N (Tr.splitT t k).1 (Tr.splitT t k).2 (240 * t.ht) e w'
set_option maxHeartbeats 1000000 in
theorem wsplit_nil (B : Nat) (k : Int) (w : World) : Calls Tryz.prog 124 #[.pointer (some ⟨B, 0, none⟩), .int .i64 (-1), .int .i64 k] w fun e w' => e = .returned (.tuple #[.int .i64 (-1), .int .i64 (-1)]) ∧ w' = w := by
  go_enter Tryz.func124, Tryz.ntmps124
  go_wp2
  go_ret2
  exact ⟨rfl, rfl⟩

set_option maxRecDepth 100000 in
set_option maxHeartbeats 4000000 in
theorem wsplit_left (base B : Nat) (l r : Tr) (ps po pl pn : Int) (k : Nat) (i : Int) (w : World) (v : Value) (N : List Nd) (hk : Hid (k ≤ l.size)) (hk2 : Hid (k ≤ l.size + 1 + r.size)) (hbl : Hid l.bal) (hbr : Hid r.bal) (hf : Hid (Pc.fit ⟨ps, po, pl, pn⟩ ∧ l.fits ∧ r.fits)) (hsz : l.size + 1 + r.size ≤ 524287) (hW : Hid (Wd w base B v N)) (hi : Hid (Is N (Tr.mk (some (false, l, ⟨ps, po, pl, pn⟩, r))) i)) (hB : Hid (base ≤ w.heap.size)) (hz : Hid (N.length + 240 * (l.ht + 2) ≤ 2097152)) (IH : Hid (Spq base B l)) :
    Calls Tryz.prog 124 #[.pointer (some ⟨B, 0, none⟩), .int .i64 i, .int .i64 (k : Int)] w fun e w' => SplG w base B v N (Tr.splitT l k).1 (Tr.joinT (Tr.splitT l k).2 ⟨ps, po, pl, pn⟩ r.blk) (240 * (l.ht + 1)) e w' := by
  obtain ⟨j, li, ri, rfl, hj, hli, hri⟩ := hi.out
  obtain ⟨g, cap, hv, x0, y0, y1, y2, y3, y4, y5, y6, y7, y8, y9, y10⟩ := hW.out.eleven hj
  have HL := Hid.mk' hli
  have HR := Hid.mk' hri
  have hlt := (List.getElem?_eq_some_iff.1 hj).1
  have j0 : (0 : Int) ≤ (j : Int) := by omega
  have j1 : (j : Int) < (N.length : Int) := by omega
  have j2 : ¬ ((j : Int) < 0) := by omega
  obtain ⟨k7, h7⟩ : ∃ k : Int, k = ((Tr.mk (some (false, l, ⟨ps, po, pl, pn⟩, r))).size : Nat) := ⟨_, rfl⟩
  obtain ⟨k8, h8⟩ : ∃ k : Int, k = (Tr.mk (some (false, l, ⟨ps, po, pl, pn⟩, r))).byt := ⟨_, rfl⟩
  obtain ⟨k9, h9⟩ : ∃ k : Int, k = (Tr.mk (some (false, l, ⟨ps, po, pl, pn⟩, r))).lin := ⟨_, rfl⟩
  obtain ⟨k10, h10⟩ : ∃ k : Int, k = ((Tr.mk (some (false, l, ⟨ps, po, pl, pn⟩, r))).bh : Nat) := ⟨_, rfl⟩
  rw [← h7] at y7
  rw [← h8] at y8
  rw [← h9] at y9
  rw [← h10] at y10
  have NE := Hid.mk' (blk_new_ne hW.out)
  subst hv
  clear h7 h8 h9 h10 hj hli hri hi hlt
  have hkk : (k : Int) ≤ (l.size : Int) := by have := hk.out; omega
  go_enter Tryz.func124, Tryz.ntmps124
  go_upto_region 4 with fail
  have HBK := Hid.mk' (Blk.new w 151 #[.int .i64 ps, .int .i64 po, .int .i64 pl, .int .i64 pn, .bool false, .int .i64 li, .int .i64 ri, .int .i64 k7, .int .i64 k8, .int .i64 k9, .int .i64 k10])
  have BW := Hid.mk' (bAlloc (Below.refl w.heap.size w) (.cells #[.int .i64 ps, .int .i64 po, .int .i64 pl, .int .i64 pn, .bool false, .int .i64 li, .int .i64 ri, .int .i64 k7, .int .i64 k8, .int .i64 k9, .int .i64 k10] 151))
  generalize hW3 : w.alloc (.cells #[.int .i64 ps, .int .i64 po, .int .i64 pl, .int .i64 pn, .bool false, .int .i64 li, .int .i64 ri, .int .i64 k7, .int .i64 k8, .int .i64 k9, .int .i64 k10] 151) = W3 at *
  clear hW3 y0 y1 y2 y3 y4 y5 y6 y7 y8 y9 y10 x0
  have hqz : w.heap.size < W3.heap.size := HBK.out.lt
  have D3 := Hid.mk' (hW.out.keep BW.out)
  have b3 := Hid.mk' (show base ≤ W3.heap.size by have := hB.out; omega)
  have G3 := Hid.mk' (show Grw w W3 B (.slice (some ⟨g, 0, none⟩) N.length cap) (.slice (some ⟨g, 0, none⟩) N.length cap) from Grw.below BW.out)
  obtain ⟨qb, hqb⟩ : ∃ q, q = w.heap.size := ⟨_, rfl⟩
  rw [← hqb] at HBK hqz NE ⊢
  clear hqb BW
  obtain ⟨v0, hv0⟩ : ∃ v0 : Value, v0 = .slice (some ⟨g, 0, none⟩) N.length cap := ⟨_, rfl⟩
  rw [← hv0] at NE D3 G3 ⊢
  have HV0 := Hid.mk' hv0
  clear hv0
  have s5 := HBK.out.cell (j := 5) (v := .int .i64 li) rfl
  have s6 := HBK.out.cell (j := 6) (v := .int .i64 ri) rfl
  have DZ := Hid.mk' (wsize_any l li base B v0 N W3 (by have := hz.out; omega) D3 HL)
  have D1 := Hid.mk' (wblack_any l li base B v0 N W3 (by have := hz.out; omega) (by omega) hf.out.2.1 D3 HL b3.out)
  go_wp2_with (go_at_call 123; refine DZ.out.mono ?_; rintro e w' ⟨rfl, rfl⟩)
  refine D1.out.mono ?_
  rintro e w4 ⟨i4, v4, M4, rfl, q1, q2, q3, q4⟩
  have K4 := Hid.mk' (q3.blk HBK.out NE.out.1 NE.out.2)
  have E4 := Hid.mk' (q3.ne hqz NE.out.2)
  have b4 := Hid.mk' (show base ≤ w4.heap.size by have := b3.out; have := q3.size; omega)
  have hz4 : qb < w4.heap.size := by have := q3.size; omega
  have G4 := Hid.mk' (G3.out.trans q3)
  have W4 := Hid.mk' q1
  have J4 := Hid.mk' q2
  have C4 := Hid.mk' q4
  clear q1 q2 q3 q4 D1 DZ s5 s6
  have D2 := Hid.mk' (IH.out k i4 w4 v4 (N ++ M4) (by have := hk.out; have := hk2.out; omega) W4.out J4.out b4.out (by have := hz.out; have := C4.out; rw [List.length_append]; omega))
  go_wp2_with fail
  refine D2.out.mono ?_
  rintro e w5 ⟨c5, d5, v5, M5, rfl, q1, q2, q2b, q3, q4⟩
  have K5 := Hid.mk' (q3.blk K4.out NE.out.1 E4.out)
  have E5 := Hid.mk' (q3.ne hz4 E4.out)
  have b5 := Hid.mk' (show base ≤ w5.heap.size by have := b4.out; have := q3.size; omega)
  have hz5 : qb < w5.heap.size := by have := q3.size; omega
  have G5 := Hid.mk' (G4.out.trans q3)
  have W5 := Hid.mk' q1
  have J5 := Hid.mk' q2
  have J5b := Hid.mk' q2b
  have C5 := Hid.mk' q4
  clear q1 q2 q2b q3 q4 D2
  have s6 := K5.out.cell (j := 6) (v := .int .i64 ri) rfl
  have D3' := Hid.mk' (wblack_any r ri base B v5 ((N ++ M4) ++ M5) w5 (by have := hz.out; have := C4.out; have := C5.out; rw [List.length_append, List.length_append]; omega) (by omega) hf.out.2.2 W5.out ((HR.out.more M4).more M5) b5.out)
  go_wp2_with fail
  refine D3'.out.mono ?_
  rintro e w6 ⟨i6, v6, M6, rfl, q1, q2, q3, q4⟩
  have K6 := Hid.mk' (q3.blk K5.out NE.out.1 E5.out)
  have b6 := Hid.mk' (show base ≤ w6.heap.size by have := b5.out; have := q3.size; omega)
  have G6 := Hid.mk' (G5.out.trans q3)
  have W6 := Hid.mk' q1
  have J6 := Hid.mk' q2
  have C6 := Hid.mk' q4
  clear q1 q2 q3 q4 D3' s6
  have SG := Hid.mk' (split_gdw (t := l) k hbl.out hf.out.2.1 (by omega))
  have YG := Hid.mk' (Gdw.of_blk (t := r) hbr.out hf.out.2.2 (by omega))
  have d0 := K6.out.cell (j := 0) (v := .int .i64 ps) rfl
  have d1 := K6.out.cell (j := 1) (v := .int .i64 po) rfl
  have d2 := K6.out.cell (j := 2) (v := .int .i64 pl) rfl
  have d3 := K6.out.cell (j := 3) (v := .int .i64 pn) rfl
  have D4 := Hid.mk' (wjoin_any (Tr.splitT l k).2 r.blk d5 i6 ps po pl pn base B v6 (((N ++ M4) ++ M5) ++ M6) w6 (by have h0 := hz.out; have h1 := C4.out; have h2 := C5.out; have h3 := C6.out; have h4 := SG.out.2.1.ht; have h5 := YG.out.ht; simp only [List.length_append]; omega) (by have h0 := SG.out.2.2.1; have h1 := SG.out.2.2.2; have h2 := blk_size r; have h3 := hk.out; have h4 := hk2.out; omega) hf.out.1 ⟨SG.out.2.1.ft, SG.out.2.1.wh⟩ ⟨YG.out.ft, YG.out.wh⟩ W6.out (J5b.out.more M6) J6.out b6.out)
  go_wp2_with fail
  refine D4.out.mono ?_
  rintro e w7 ⟨i7, v7, M7, rfl, q1, q2, q3, q4⟩
  have W7 := Hid.mk' q1
  have J7 := Hid.mk' q2
  have G7 := Hid.mk' (G6.out.trans q3)
  have C7 := Hid.mk' q4
  clear q1 q2 q3 q4 D4
  go_wp2
  go_ret2
  refine ⟨c5, i7, v7, M4 ++ (M5 ++ (M6 ++ M7)), rfl, by have := W7.out; simpa only [List.append_assoc] using this, ?_, ?_, by rw [← HV0.out]; exact G7.out, ?_⟩
  · have := (J5.out.more M6).more M7; simpa only [List.append_assoc] using this
  · have := J7.out; simpa only [List.append_assoc] using this
  · have h1 := C4.out; have h2 := C5.out; have h3 := C6.out; have h6 := C7.out; have h4 := SG.out.2.1.ht; have h5 := YG.out.ht; simp only [List.length_append]; omega

set_option maxRecDepth 100000 in
set_option maxHeartbeats 4000000 in
theorem wsplit_right (base B : Nat) (l r : Tr) (ps po pl pn : Int) (k : Nat) (i : Int) (w : World) (v : Value) (N : List Nd) (hk : Hid (l.size < k)) (hk2 : Hid (k ≤ l.size + 1 + r.size)) (hbl : Hid l.bal) (hbr : Hid r.bal) (hf : Hid (Pc.fit ⟨ps, po, pl, pn⟩ ∧ l.fits ∧ r.fits)) (hsz : l.size + 1 + r.size ≤ 524287) (hW : Hid (Wd w base B v N)) (hi : Hid (Is N (Tr.mk (some (false, l, ⟨ps, po, pl, pn⟩, r))) i)) (hB : Hid (base ≤ w.heap.size)) (hz : Hid (N.length + 240 * (r.ht + 2) ≤ 2097152)) (IH : Hid (Spq base B r)) :
    Calls Tryz.prog 124 #[.pointer (some ⟨B, 0, none⟩), .int .i64 i, .int .i64 (k : Int)] w fun e w' => SplG w base B v N (Tr.joinT l.blk ⟨ps, po, pl, pn⟩ (Tr.splitT r (k - l.size - 1)).1) (Tr.splitT r (k - l.size - 1)).2 (240 * (r.ht + 1)) e w' := by
  obtain ⟨j, li, ri, rfl, hj, hli, hri⟩ := hi.out
  obtain ⟨g, cap, hv, x0, y0, y1, y2, y3, y4, y5, y6, y7, y8, y9, y10⟩ := hW.out.eleven hj
  have HL := Hid.mk' hli
  have HR := Hid.mk' hri
  have hlt := (List.getElem?_eq_some_iff.1 hj).1
  have j0 : (0 : Int) ≤ (j : Int) := by omega
  have j1 : (j : Int) < (N.length : Int) := by omega
  have j2 : ¬ ((j : Int) < 0) := by omega
  obtain ⟨k7, h7⟩ : ∃ k : Int, k = ((Tr.mk (some (false, l, ⟨ps, po, pl, pn⟩, r))).size : Nat) := ⟨_, rfl⟩
  obtain ⟨k8, h8⟩ : ∃ k : Int, k = (Tr.mk (some (false, l, ⟨ps, po, pl, pn⟩, r))).byt := ⟨_, rfl⟩
  obtain ⟨k9, h9⟩ : ∃ k : Int, k = (Tr.mk (some (false, l, ⟨ps, po, pl, pn⟩, r))).lin := ⟨_, rfl⟩
  obtain ⟨k10, h10⟩ : ∃ k : Int, k = ((Tr.mk (some (false, l, ⟨ps, po, pl, pn⟩, r))).bh : Nat) := ⟨_, rfl⟩
  rw [← h7] at y7
  rw [← h8] at y8
  rw [← h9] at y9
  rw [← h10] at y10
  have NE := Hid.mk' (blk_new_ne hW.out)
  subst hv
  clear h7 h8 h9 h10 hj hli hri hi hlt
  have hkk : ¬ ((k : Int) ≤ (l.size : Int)) := by have := hk.out; omega
  go_enter Tryz.func124, Tryz.ntmps124
  go_upto_region 4 with fail
  have HBK := Hid.mk' (Blk.new w 151 #[.int .i64 ps, .int .i64 po, .int .i64 pl, .int .i64 pn, .bool false, .int .i64 li, .int .i64 ri, .int .i64 k7, .int .i64 k8, .int .i64 k9, .int .i64 k10])
  have BW := Hid.mk' (bAlloc (Below.refl w.heap.size w) (.cells #[.int .i64 ps, .int .i64 po, .int .i64 pl, .int .i64 pn, .bool false, .int .i64 li, .int .i64 ri, .int .i64 k7, .int .i64 k8, .int .i64 k9, .int .i64 k10] 151))
  generalize hW3 : w.alloc (.cells #[.int .i64 ps, .int .i64 po, .int .i64 pl, .int .i64 pn, .bool false, .int .i64 li, .int .i64 ri, .int .i64 k7, .int .i64 k8, .int .i64 k9, .int .i64 k10] 151) = W3 at *
  clear hW3 y0 y1 y2 y3 y4 y5 y6 y7 y8 y9 y10 x0
  have hqz : w.heap.size < W3.heap.size := HBK.out.lt
  have D3 := Hid.mk' (hW.out.keep BW.out)
  have b3 := Hid.mk' (show base ≤ W3.heap.size by have := hB.out; omega)
  have G3 := Hid.mk' (show Grw w W3 B (.slice (some ⟨g, 0, none⟩) N.length cap) (.slice (some ⟨g, 0, none⟩) N.length cap) from Grw.below BW.out)
  obtain ⟨qb, hqb⟩ : ∃ q, q = w.heap.size := ⟨_, rfl⟩
  rw [← hqb] at HBK hqz NE ⊢
  clear hqb BW
  obtain ⟨v0, hv0⟩ : ∃ v0 : Value, v0 = .slice (some ⟨g, 0, none⟩) N.length cap := ⟨_, rfl⟩
  rw [← hv0] at NE D3 G3 ⊢
  have HV0 := Hid.mk' hv0
  clear hv0
  have s5 := HBK.out.cell (j := 5) (v := .int .i64 li) rfl
  have s6 := HBK.out.cell (j := 6) (v := .int .i64 ri) rfl
  have DZ := Hid.mk' (wsize_any l li base B v0 N W3 (by have := hz.out; omega) D3 HL)
  have D1 := Hid.mk' (wblack_any r ri base B v0 N W3 (by have := hz.out; omega) (by omega) hf.out.2.2 D3 HR b3.out)
  go_wp2_with (go_at_call 123; refine DZ.out.mono ?_; rintro e w' ⟨rfl, rfl⟩)
  refine D1.out.mono ?_
  rintro e w4 ⟨i4, v4, M4, rfl, q1, q2, q3, q4⟩
  have K4 := Hid.mk' (q3.blk HBK.out NE.out.1 NE.out.2)
  have E4 := Hid.mk' (q3.ne hqz NE.out.2)
  have b4 := Hid.mk' (show base ≤ w4.heap.size by have := b3.out; have := q3.size; omega)
  have hz4 : qb < w4.heap.size := by have := q3.size; omega
  have G4 := Hid.mk' (G3.out.trans q3)
  have W4 := Hid.mk' q1
  have J4 := Hid.mk' q2
  have C4 := Hid.mk' q4
  clear q1 q2 q3 q4 D1 DZ s5 s6
  have D2 := Hid.mk' (IH.out (k - l.size - 1) i4 w4 v4 (N ++ M4) (by have := hk.out; have := hk2.out; omega) W4.out J4.out b4.out (by have := hz.out; have := C4.out; rw [List.length_append]; omega))
  rw [show ((k - l.size - 1 : Nat) : Int) = (k : Int) - (l.size : Int) - 1 from by have := hk.out; omega] at D2
  have hw1 : IntKind.i64.wrap ((k : Int) - (l.size : Int)) = (k : Int) - (l.size : Int) := by rw [IntKind.wrap_i64]; have := hk2.out; omega
  have hw2 : IntKind.i64.wrap ((k : Int) - (l.size : Int) - 1) = (k : Int) - (l.size : Int) - 1 := by rw [IntKind.wrap_i64]; have := hk2.out; omega
  have hw3 : (k : Int) ≤ 524287 := by have := hk2.out; omega
  have hw4 : (l.size : Int) ≤ 524287 := by omega
  have hw5 : (0 : Int) ≤ (l.size : Int) := by omega
  go_wp2_with fail
  refine D2.out.mono ?_
  rintro e w5 ⟨c5, d5, v5, M5, rfl, q1, q2, q2b, q3, q4⟩
  have K5 := Hid.mk' (q3.blk K4.out NE.out.1 E4.out)
  have E5 := Hid.mk' (q3.ne hz4 E4.out)
  have b5 := Hid.mk' (show base ≤ w5.heap.size by have := b4.out; have := q3.size; omega)
  have hz5 : qb < w5.heap.size := by have := q3.size; omega
  have G5 := Hid.mk' (G4.out.trans q3)
  have W5 := Hid.mk' q1
  have J5 := Hid.mk' q2
  have J5b := Hid.mk' q2b
  have C5 := Hid.mk' q4
  clear q1 q2 q2b q3 q4 D2
  have s5 := K5.out.cell (j := 5) (v := .int .i64 li) rfl
  have D3' := Hid.mk' (wblack_any l li base B v5 ((N ++ M4) ++ M5) w5 (by have := hz.out; have := C4.out; have := C5.out; rw [List.length_append, List.length_append]; omega) (by omega) hf.out.2.1 W5.out ((HL.out.more M4).more M5) b5.out)
  go_wp2_with fail
  refine D3'.out.mono ?_
  rintro e w6 ⟨i6, v6, M6, rfl, q1, q2, q3, q4⟩
  have K6 := Hid.mk' (q3.blk K5.out NE.out.1 E5.out)
  have b6 := Hid.mk' (show base ≤ w6.heap.size by have := b5.out; have := q3.size; omega)
  have G6 := Hid.mk' (G5.out.trans q3)
  have W6 := Hid.mk' q1
  have J6 := Hid.mk' q2
  have C6 := Hid.mk' q4
  clear q1 q2 q3 q4 D3' s5
  have SG := Hid.mk' (split_gdw (t := r) (k - l.size - 1) hbr.out hf.out.2.2 (by omega))
  have YG := Hid.mk' (Gdw.of_blk (t := l) hbl.out hf.out.2.1 (by omega))
  have d0 := K6.out.cell (j := 0) (v := .int .i64 ps) rfl
  have d1 := K6.out.cell (j := 1) (v := .int .i64 po) rfl
  have d2 := K6.out.cell (j := 2) (v := .int .i64 pl) rfl
  have d3 := K6.out.cell (j := 3) (v := .int .i64 pn) rfl
  have D4 := Hid.mk' (wjoin_any l.blk (Tr.splitT r (k - l.size - 1)).1 i6 c5 ps po pl pn base B v6 (((N ++ M4) ++ M5) ++ M6) w6 (by have h0 := hz.out; have h1 := C4.out; have h2 := C5.out; have h3 := C6.out; have h4 := YG.out.ht; have h5 := SG.out.1.ht; simp only [List.length_append]; omega) (by have h0 := SG.out.2.2.1; have h1 := SG.out.2.2.2; have h2 := blk_size l; have h3 := hk.out; have h4 := hk2.out; omega) hf.out.1 ⟨YG.out.ft, YG.out.wh⟩ ⟨SG.out.1.ft, SG.out.1.wh⟩ W6.out J6.out (J5.out.more M6) b6.out)
  go_wp2_with fail
  refine D4.out.mono ?_
  rintro e w7 ⟨i7, v7, M7, rfl, q1, q2, q3, q4⟩
  have W7 := Hid.mk' q1
  have J7 := Hid.mk' q2
  have G7 := Hid.mk' (G6.out.trans q3)
  have C7 := Hid.mk' q4
  clear q1 q2 q3 q4 D4
  go_wp2
  go_ret2
  refine ⟨i7, d5, v7, M4 ++ (M5 ++ (M6 ++ M7)), rfl, by have := W7.out; simpa only [List.append_assoc] using this, ?_, ?_, by rw [← HV0.out]; exact G7.out, ?_⟩
  · have := J7.out; simpa only [List.append_assoc] using this
  · have := (J5b.out.more M6).more M7; simpa only [List.append_assoc] using this
  · have h1 := C4.out; have h2 := C5.out; have h3 := C6.out; have h6 := C7.out; have h4 := YG.out.ht; have h5 := SG.out.1.ht; simp only [List.length_append]; omega

theorem wsplit_any (base B : Nat) : ∀ (t : Tr), t.bal → t.fits → t.size ≤ 524287 → Spq base B t
  | (Tr.mk none), _, _, _ => by
    intro k i w v N hk hW hi hB hz
    have e : i = -1 := hi
    subst e
    refine (wsplit_nil B k w).mono ?_
    rintro e w' ⟨rfl, rfl⟩
    exact ⟨-1, -1, v, [], rfl, by simpa using hW, rfl, rfl, Grw.refl _ _ _, Nat.zero_le _⟩
  | (Tr.mk (some (c, l, ⟨ps, po, pl, pn⟩, r))), hb, hf, hz0 => by
    have I1 := wsplit_any base B l hb.1 hf.1 (by simp only [Tr.size] at hz0; omega)
    have I2 := wsplit_any base B r hb.2.1 hf.2.2 (by simp only [Tr.size] at hz0; omega)
    intro k i w v N hk hW hi hB hz
    have hi' : Is N (Tr.mk (some (false, l, ⟨ps, po, pl, pn⟩, r))) i := by cases c <;> exact hi
    simp only [Tr.size] at hk hz0
    simp only [Tr.ht] at hz
    by_cases h : k ≤ l.size
    · refine (wsplit_left base B l r ps po pl pn k i w v N h hk hb.1 hb.2.1 ⟨hf.2.1, hf.1, hf.2.2⟩ hz0 hW hi' hB (by unfold Hid; omega) I1).mono ?_
      rintro e w' ⟨i1, i2, v', M, rfl, a1, a2, a3, a4, a5⟩
      refine ⟨i1, i2, v', M, rfl, a1, ?_, ?_, a4, by simp only [Tr.ht]; omega⟩
      · simp only [Tr.splitT, if_pos h]; exact a2
      · simp only [Tr.splitT, if_pos h]; exact a3
    · refine (wsplit_right base B l r ps po pl pn k i w v N (by unfold Hid; omega) hk hb.1 hb.2.1 ⟨hf.2.1, hf.1, hf.2.2⟩ hz0 hW hi' hB (by unfold Hid; omega) I2).mono ?_
      rintro e w' ⟨i1, i2, v', M, rfl, a1, a2, a3, a4, a5⟩
      refine ⟨i1, i2, v', M, rfl, a1, ?_, ?_, a4, by simp only [Tr.ht]; omega⟩
      · simp only [Tr.splitT, if_neg h]; exact a2
      · simp only [Tr.splitT, if_neg h]; exact a3
end Go.Proofs.YtmhpeppbhjpkiaaGreat

/- The contract of the wood's get. -/
namespace Go.Proofs.YtmhpeppbhjpkiaaGreat
open Go.RowKit

/-- what get gives -/
def GetG (w : World) (L : List Pc) (k : Nat) (e : Ending) (w' : World) : Prop := ∃ s o n m, L[k]? = some ⟨s, o, n, m⟩ ∧ e = .returned (.agg #[.int .i64 s, .int .i64 o, .int .i64 n, .int .i64 m]) ∧ Below w.heap.size w w'
/-- what get asks for -/
def Gtq (base B : Nat) (v : Value) (N : List Nd) (t : Tr) : Prop := ∀ (k : Nat) (i : Int) (w : World), k < t.size → Wd w base B v N → Is N t i → Calls Tryz.prog 122 #[.pointer (some ⟨B, 0, none⟩), .int .i64 i, .int .i64 (k : Int)] w fun e w' => GetG w t.list k e w'
theorem Blk.four {W : World} {k e : Nat} {v0 v1 v2 v3 : Value} (h : Blk W k e #[v0, v1, v2, v3]) : W.cell? ⟨k, 0, none⟩ = some v0 ∧ W.cell? ⟨k, 1, none⟩ = some v1 ∧ W.cell? ⟨k, 2, none⟩ = some v2 ∧ W.cell? ⟨k, 3, none⟩ = some v3 := ⟨h.cell rfl, h.cell rfl, h.cell rfl, h.cell rfl⟩

set_option maxRecDepth 100000 in
set_option maxHeartbeats 4000000 in
theorem wget_left (base B : Nat) (c : Bool) (l r : Tr) (ps po pl pn : Int) (k : Nat) (i : Int) (w : World) (v : Value) (N : List Nd) (hN : Hid (N.length ≤ 2097152)) (hk : Hid (k < l.size)) (_hk2 : Hid (k < l.size + 1 + r.size)) (_hsz : l.size + 1 + r.size ≤ 1048576) (hW : Hid (Wd w base B v N)) (hi : Hid (Is N (Tr.mk (some (c, l, ⟨ps, po, pl, pn⟩, r))) i)) (IH : Hid (Gtq base B v N l)) :
    Calls Tryz.prog 122 #[.pointer (some ⟨B, 0, none⟩), .int .i64 i, .int .i64 (k : Int)] w fun e w' => GetG w (Tr.mk (some (c, l, ⟨ps, po, pl, pn⟩, r))).list k e w' := by
  obtain ⟨j, li, ri, rfl, hj, hli, hri⟩ := hi.out
  have HL := Hid.mk' hli
  have HR := Hid.mk' hri
  have hlt := (List.getElem?_eq_some_iff.1 hj).1
  have HJ := Hid.mk' hj
  have j0 : (0 : Int) ≤ (j : Int) := by omega
  have j1 : (j : Int) < (N.length : Int) := by omega
  clear hj hli hri hi hlt
  go_enter Tryz.func122, Tryz.ntmps122
  go_upto_region 1 with fail
  have HZ := Hid.mk' (Blk.new w 59 #[.int .i64 0, .int .i64 0, .int .i64 0, .int .i64 0])
  have BZ := Hid.mk' (bAlloc (Below.refl w.heap.size w) (.cells #[.int .i64 0, .int .i64 0, .int .i64 0, .int .i64 0] 59))
  generalize hW1 : w.alloc (.cells #[.int .i64 0, .int .i64 0, .int .i64 0, .int .i64 0] 59) = W1 at *
  clear hW1
  obtain ⟨qz, hqz⟩ : ∃ q, q = w.heap.size := ⟨_, rfl⟩
  rw [← hqz] at HZ ⊢
  have HQZ := Hid.mk' hqz
  clear hqz
  have D1 := Hid.mk' (hW.out.keep BZ.out)
  obtain ⟨g, cap, rfl, x0, y0, y1, y2, y3, y4, y5, y6, y7, y8, y9, y10⟩ := D1.out.eleven HJ.out
  obtain ⟨k7, h7⟩ : ∃ k : Int, k = ((Tr.mk (some (c, l, ⟨ps, po, pl, pn⟩, r))).size : Nat) := ⟨_, rfl⟩
  obtain ⟨k8, h8⟩ : ∃ k : Int, k = (Tr.mk (some (c, l, ⟨ps, po, pl, pn⟩, r))).byt := ⟨_, rfl⟩
  obtain ⟨k9, h9⟩ : ∃ k : Int, k = (Tr.mk (some (c, l, ⟨ps, po, pl, pn⟩, r))).lin := ⟨_, rfl⟩
  obtain ⟨k10, h10⟩ : ∃ k : Int, k = ((Tr.mk (some (c, l, ⟨ps, po, pl, pn⟩, r))).bh : Nat) := ⟨_, rfl⟩
  rw [← h7] at y7
  rw [← h8] at y8
  rw [← h9] at y9
  rw [← h10] at y10
  clear h7 h8 h9 h10
  go_upto_region 2 with fail
  have HBK := Hid.mk' (Blk.new W1 151 #[.int .i64 ps, .int .i64 po, .int .i64 pl, .int .i64 pn, .bool c, .int .i64 li, .int .i64 ri, .int .i64 k7, .int .i64 k8, .int .i64 k9, .int .i64 k10])
  have BW := Hid.mk' (bAlloc (Below.refl W1.heap.size W1) (.cells #[.int .i64 ps, .int .i64 po, .int .i64 pl, .int .i64 pn, .bool c, .int .i64 li, .int .i64 ri, .int .i64 k7, .int .i64 k8, .int .i64 k9, .int .i64 k10] 151))
  generalize hW3 : W1.alloc (.cells #[.int .i64 ps, .int .i64 po, .int .i64 pl, .int .i64 pn, .bool c, .int .i64 li, .int .i64 ri, .int .i64 k7, .int .i64 k8, .int .i64 k9, .int .i64 k10] 151) = W3 at *
  clear hW3 y0 y1 y2 y3 y4 y5 y6 y7 y8 y9 y10 x0
  have D3 := Hid.mk' (D1.out.keep BW.out)
  have Z3 := Hid.mk' (HZ.out.keep BW.out)
  have B3 := Hid.mk' (bT BZ.out BW.out)
  obtain ⟨qb, hqb⟩ : ∃ q, q = W1.heap.size := ⟨_, rfl⟩
  rw [← hqb] at HBK ⊢
  clear hqb BW BZ HZ D1
  have s5 := HBK.out.cell (j := 5) (v := .int .i64 li) rfl
  have DZ := Hid.mk' (wsize_any l li base B _ N W3 hN.out D3 HL)
  have hkk : (k : Int) < (l.size : Int) := by have := hk.out; omega
  have DG := Hid.mk' (IH.out k li W3 hk.out D3.out HL.out)
  go_wp2_with (go_at_call 123; refine DZ.out.mono ?_; rintro e w' ⟨rfl, rfl⟩)
  refine DG.out.mono ?_
  rintro e w5 ⟨s, o, n, m, hg, rfl, hb5⟩
  have HG := Hid.mk' hg
  have Z5 := Hid.mk' (Z3.out.keep hb5)
  have B5 := Hid.mk' (bT B3.out hb5)
  clear hg hb5 DG DZ
  obtain ⟨c0, c1, c2, c3⟩ := Z5.out.four
  have fz := Z5.out.frozen
  go_wp2
  refine bodyPost_ret (v := .agg #[.int .i64 s, .int .i64 o, .int .i64 n, .int .i64 m]) (by simp [results, Tryz.results122, go_sem, c0, c1, c2, c3]) rfl ⟨s, o, n, m, ?_, rfl, below_put4 B5.out (by have := HQZ.out; omega) _ _ _ _⟩
  simp only [Tr.list]
  rw [List.getElem?_append_left (by rw [Tr.size_list]; exact hk.out)]
  exact HG.out

set_option maxRecDepth 100000 in
set_option maxHeartbeats 4000000 in
theorem wget_here (base B : Nat) (c : Bool) (l r : Tr) (ps po pl pn : Int) (k : Nat) (i : Int) (w : World) (v : Value) (N : List Nd) (hN : Hid (N.length ≤ 2097152)) (hk : Hid (k = l.size)) (_hk2 : Hid (k < l.size + 1 + r.size)) (_hsz : l.size + 1 + r.size ≤ 1048576) (hW : Hid (Wd w base B v N)) (hi : Hid (Is N (Tr.mk (some (c, l, ⟨ps, po, pl, pn⟩, r))) i))  :
    Calls Tryz.prog 122 #[.pointer (some ⟨B, 0, none⟩), .int .i64 i, .int .i64 (k : Int)] w fun e w' => GetG w (Tr.mk (some (c, l, ⟨ps, po, pl, pn⟩, r))).list k e w' := by
  obtain ⟨j, li, ri, rfl, hj, hli, hri⟩ := hi.out
  have HL := Hid.mk' hli
  have HR := Hid.mk' hri
  have hlt := (List.getElem?_eq_some_iff.1 hj).1
  have HJ := Hid.mk' hj
  have j0 : (0 : Int) ≤ (j : Int) := by omega
  have j1 : (j : Int) < (N.length : Int) := by omega
  clear hj hli hri hi hlt
  go_enter Tryz.func122, Tryz.ntmps122
  go_upto_region 1 with fail
  have HZ := Hid.mk' (Blk.new w 59 #[.int .i64 0, .int .i64 0, .int .i64 0, .int .i64 0])
  have BZ := Hid.mk' (bAlloc (Below.refl w.heap.size w) (.cells #[.int .i64 0, .int .i64 0, .int .i64 0, .int .i64 0] 59))
  generalize hW1 : w.alloc (.cells #[.int .i64 0, .int .i64 0, .int .i64 0, .int .i64 0] 59) = W1 at *
  clear hW1
  obtain ⟨qz, hqz⟩ : ∃ q, q = w.heap.size := ⟨_, rfl⟩
  rw [← hqz] at HZ ⊢
  have HQZ := Hid.mk' hqz
  clear hqz
  have D1 := Hid.mk' (hW.out.keep BZ.out)
  obtain ⟨g, cap, rfl, x0, y0, y1, y2, y3, y4, y5, y6, y7, y8, y9, y10⟩ := D1.out.eleven HJ.out
  obtain ⟨k7, h7⟩ : ∃ k : Int, k = ((Tr.mk (some (c, l, ⟨ps, po, pl, pn⟩, r))).size : Nat) := ⟨_, rfl⟩
  obtain ⟨k8, h8⟩ : ∃ k : Int, k = (Tr.mk (some (c, l, ⟨ps, po, pl, pn⟩, r))).byt := ⟨_, rfl⟩
  obtain ⟨k9, h9⟩ : ∃ k : Int, k = (Tr.mk (some (c, l, ⟨ps, po, pl, pn⟩, r))).lin := ⟨_, rfl⟩
  obtain ⟨k10, h10⟩ : ∃ k : Int, k = ((Tr.mk (some (c, l, ⟨ps, po, pl, pn⟩, r))).bh : Nat) := ⟨_, rfl⟩
  rw [← h7] at y7
  rw [← h8] at y8
  rw [← h9] at y9
  rw [← h10] at y10
  clear h7 h8 h9 h10
  go_upto_region 2 with fail
  have HBK := Hid.mk' (Blk.new W1 151 #[.int .i64 ps, .int .i64 po, .int .i64 pl, .int .i64 pn, .bool c, .int .i64 li, .int .i64 ri, .int .i64 k7, .int .i64 k8, .int .i64 k9, .int .i64 k10])
  have BW := Hid.mk' (bAlloc (Below.refl W1.heap.size W1) (.cells #[.int .i64 ps, .int .i64 po, .int .i64 pl, .int .i64 pn, .bool c, .int .i64 li, .int .i64 ri, .int .i64 k7, .int .i64 k8, .int .i64 k9, .int .i64 k10] 151))
  generalize hW3 : W1.alloc (.cells #[.int .i64 ps, .int .i64 po, .int .i64 pl, .int .i64 pn, .bool c, .int .i64 li, .int .i64 ri, .int .i64 k7, .int .i64 k8, .int .i64 k9, .int .i64 k10] 151) = W3 at *
  clear hW3 y0 y1 y2 y3 y4 y5 y6 y7 y8 y9 y10 x0
  have D3 := Hid.mk' (D1.out.keep BW.out)
  have Z3 := Hid.mk' (HZ.out.keep BW.out)
  have B3 := Hid.mk' (bT BZ.out BW.out)
  obtain ⟨qb, hqb⟩ : ∃ q, q = W1.heap.size := ⟨_, rfl⟩
  rw [← hqb] at HBK ⊢
  clear hqb BW BZ HZ D1
  have s5 := HBK.out.cell (j := 5) (v := .int .i64 li) rfl
  have DZ := Hid.mk' (wsize_any l li base B _ N W3 hN.out D3 HL)
  have hkk : ¬ ((k : Int) < (l.size : Int)) := by have := hk.out; omega
  have hke : (k : Int) = (l.size : Int) := by have := hk.out; omega
  have s0 := HBK.out.cell (j := 0) (v := .int .i64 ps) rfl
  have s1 := HBK.out.cell (j := 1) (v := .int .i64 po) rfl
  have s2 := HBK.out.cell (j := 2) (v := .int .i64 pl) rfl
  have s3 := HBK.out.cell (j := 3) (v := .int .i64 pn) rfl
  obtain ⟨c0, c1, c2, c3⟩ := Z3.out.four
  have fz := Z3.out.frozen
  go_wp2_with (go_at_call 123; refine DZ.out.mono ?_; rintro e w' ⟨rfl, rfl⟩)
  refine bodyPost_ret (v := .agg #[.int .i64 ps, .int .i64 po, .int .i64 pl, .int .i64 pn]) (by simp [results, Tryz.results122, go_sem, c0, c1, c2, c3]) rfl ⟨ps, po, pl, pn, ?_, rfl, below_put4 B3.out (by have := HQZ.out; omega) _ _ _ _⟩
  simp only [Tr.list]
  rw [List.getElem?_append_right (by rw [Tr.size_list]; have := hk.out; omega), Tr.size_list, show k - l.size = 0 from by have := hk.out; omega]
  rfl

set_option maxRecDepth 100000 in
set_option maxHeartbeats 4000000 in
theorem wget_right (base B : Nat) (c : Bool) (l r : Tr) (ps po pl pn : Int) (k : Nat) (i : Int) (w : World) (v : Value) (N : List Nd) (hN : Hid (N.length ≤ 2097152)) (hk : Hid (l.size < k)) (hk2 : Hid (k < l.size + 1 + r.size)) (hsz : l.size + 1 + r.size ≤ 1048576) (hW : Hid (Wd w base B v N)) (hi : Hid (Is N (Tr.mk (some (c, l, ⟨ps, po, pl, pn⟩, r))) i)) (IH : Hid (Gtq base B v N r)) :
    Calls Tryz.prog 122 #[.pointer (some ⟨B, 0, none⟩), .int .i64 i, .int .i64 (k : Int)] w fun e w' => GetG w (Tr.mk (some (c, l, ⟨ps, po, pl, pn⟩, r))).list k e w' := by
  obtain ⟨j, li, ri, rfl, hj, hli, hri⟩ := hi.out
  have HL := Hid.mk' hli
  have HR := Hid.mk' hri
  have hlt := (List.getElem?_eq_some_iff.1 hj).1
  have HJ := Hid.mk' hj
  have j0 : (0 : Int) ≤ (j : Int) := by omega
  have j1 : (j : Int) < (N.length : Int) := by omega
  clear hj hli hri hi hlt
  go_enter Tryz.func122, Tryz.ntmps122
  go_upto_region 1 with fail
  have HZ := Hid.mk' (Blk.new w 59 #[.int .i64 0, .int .i64 0, .int .i64 0, .int .i64 0])
  have BZ := Hid.mk' (bAlloc (Below.refl w.heap.size w) (.cells #[.int .i64 0, .int .i64 0, .int .i64 0, .int .i64 0] 59))
  generalize hW1 : w.alloc (.cells #[.int .i64 0, .int .i64 0, .int .i64 0, .int .i64 0] 59) = W1 at *
  clear hW1
  obtain ⟨qz, hqz⟩ : ∃ q, q = w.heap.size := ⟨_, rfl⟩
  rw [← hqz] at HZ ⊢
  have HQZ := Hid.mk' hqz
  clear hqz
  have D1 := Hid.mk' (hW.out.keep BZ.out)
  obtain ⟨g, cap, rfl, x0, y0, y1, y2, y3, y4, y5, y6, y7, y8, y9, y10⟩ := D1.out.eleven HJ.out
  obtain ⟨k7, h7⟩ : ∃ k : Int, k = ((Tr.mk (some (c, l, ⟨ps, po, pl, pn⟩, r))).size : Nat) := ⟨_, rfl⟩
  obtain ⟨k8, h8⟩ : ∃ k : Int, k = (Tr.mk (some (c, l, ⟨ps, po, pl, pn⟩, r))).byt := ⟨_, rfl⟩
  obtain ⟨k9, h9⟩ : ∃ k : Int, k = (Tr.mk (some (c, l, ⟨ps, po, pl, pn⟩, r))).lin := ⟨_, rfl⟩
  obtain ⟨k10, h10⟩ : ∃ k : Int, k = ((Tr.mk (some (c, l, ⟨ps, po, pl, pn⟩, r))).bh : Nat) := ⟨_, rfl⟩
  rw [← h7] at y7
  rw [← h8] at y8
  rw [← h9] at y9
  rw [← h10] at y10
  clear h7 h8 h9 h10
  go_upto_region 2 with fail
  have HBK := Hid.mk' (Blk.new W1 151 #[.int .i64 ps, .int .i64 po, .int .i64 pl, .int .i64 pn, .bool c, .int .i64 li, .int .i64 ri, .int .i64 k7, .int .i64 k8, .int .i64 k9, .int .i64 k10])
  have BW := Hid.mk' (bAlloc (Below.refl W1.heap.size W1) (.cells #[.int .i64 ps, .int .i64 po, .int .i64 pl, .int .i64 pn, .bool c, .int .i64 li, .int .i64 ri, .int .i64 k7, .int .i64 k8, .int .i64 k9, .int .i64 k10] 151))
  generalize hW3 : W1.alloc (.cells #[.int .i64 ps, .int .i64 po, .int .i64 pl, .int .i64 pn, .bool c, .int .i64 li, .int .i64 ri, .int .i64 k7, .int .i64 k8, .int .i64 k9, .int .i64 k10] 151) = W3 at *
  clear hW3 y0 y1 y2 y3 y4 y5 y6 y7 y8 y9 y10 x0
  have D3 := Hid.mk' (D1.out.keep BW.out)
  have Z3 := Hid.mk' (HZ.out.keep BW.out)
  have B3 := Hid.mk' (bT BZ.out BW.out)
  obtain ⟨qb, hqb⟩ : ∃ q, q = W1.heap.size := ⟨_, rfl⟩
  rw [← hqb] at HBK ⊢
  clear hqb BW BZ HZ D1
  have s5 := HBK.out.cell (j := 5) (v := .int .i64 li) rfl
  have DZ := Hid.mk' (wsize_any l li base B _ N W3 hN.out D3 HL)
  have hkk : ¬ ((k : Int) < (l.size : Int)) := by have := hk.out; omega
  have hke : ((k : Int) == (l.size : Int)) = false := by rw [beq_eq_false_iff_ne]; have := hk.out; omega
  have DG := Hid.mk' (IH.out (k - l.size - 1) ri W3 (by have := hk.out; have := hk2.out; omega) D3.out HR.out)
  rw [show ((k - l.size - 1 : Nat) : Int) = (k : Int) - (l.size : Int) - 1 from by have := hk.out; omega] at DG
  have hw1 : IntKind.i64.wrap ((k : Int) - (l.size : Int)) = (k : Int) - (l.size : Int) := by rw [IntKind.wrap_i64]; have := hk2.out; omega
  have hw2 : IntKind.i64.wrap ((k : Int) - (l.size : Int) - 1) = (k : Int) - (l.size : Int) - 1 := by rw [IntKind.wrap_i64]; have := hk2.out; omega
  have hw3 : (k : Int) ≤ 1048576 := by have := hk2.out; omega
  have hw4 : (l.size : Int) ≤ 1048576 := by omega
  have hw5 : (0 : Int) ≤ (l.size : Int) := by omega
  have s6 := HBK.out.cell (j := 6) (v := .int .i64 ri) rfl
  go_wp2_with (go_at_call 123; refine DZ.out.mono ?_; rintro e w' ⟨rfl, rfl⟩)
  refine DG.out.mono ?_
  rintro e w5 ⟨s, o, n, m, hg, rfl, hb5⟩
  have HG := Hid.mk' hg
  have Z5 := Hid.mk' (Z3.out.keep hb5)
  have B5 := Hid.mk' (bT B3.out hb5)
  clear hg hb5 DG DZ
  obtain ⟨c0, c1, c2, c3⟩ := Z5.out.four
  have fz := Z5.out.frozen
  go_wp2
  refine bodyPost_ret (v := .agg #[.int .i64 s, .int .i64 o, .int .i64 n, .int .i64 m]) (by simp [results, Tryz.results122, go_sem, c0, c1, c2, c3]) rfl ⟨s, o, n, m, ?_, rfl, below_put4 B5.out (by have := HQZ.out; omega) _ _ _ _⟩
  simp only [Tr.list]
  rw [List.getElem?_append_right (by rw [Tr.size_list]; have := hk.out; omega), Tr.size_list, show k - l.size = (k - l.size - 1) + 1 from by have := hk.out; omega, List.getElem?_cons_succ]
  exact HG.out

theorem wget_any (base B : Nat) (v : Value) (N : List Nd) (hN : N.length ≤ 2097152) : ∀ (t : Tr), t.size ≤ 1048576 → Gtq base B v N t
  | (Tr.mk none), _ => fun k i w hk => by simp [Tr.size] at hk
  | (Tr.mk (some (c, l, ⟨ps, po, pl, pn⟩, r))), hz => by
    simp only [Tr.size] at hz
    have I1 := wget_any base B v N hN l (by omega)
    have I2 := wget_any base B v N hN r (by omega)
    intro k i w hk hW hi
    simp only [Tr.size] at hk
    rcases Nat.lt_trichotomy k l.size with h | h | h
    · exact wget_left base B c l r ps po pl pn k i w v N hN h hk hz hW hi I1
    · exact wget_here base B c l r ps po pl pn k i w v N hN h hk hz hW hi
    · exact wget_right base B c l r ps po pl pn k i w v N hN h hk hz hW hi I2
end Go.Proofs.YtmhpeppbhjpkiaaGreat

/- The contract of the wood's set. -/
namespace Go.Proofs.YtmhpeppbhjpkiaaGreat
open Go.RowKit

theorem setT_fits {t : Tr} (h : t.fits) (hz : t.size ≤ 1048576) (k : Nat) {p : Pc} (hp : p.fit) : (t.setT k p).fits := (setT_fine ⟨h, hz⟩ k hp).1

end Go.Proofs.YtmhpeppbhjpkiaaGreat

/- The contracts of the wood's glue, and of its join at a piece that is not fit. -/
namespace Go.Proofs.YtmhpeppbhjpkiaaGreat
open Go.RowKit

set_option maxHeartbeats 1000000 in
theorem wglue_l (B : Nat) (ri : Int) (w : World) : Calls Tryz.prog 96 #[.pointer (some ⟨B, 0, none⟩), .int .i64 (-1), .int .i64 ri] w fun e w' => e = .returned (.int .i64 ri) ∧ w' = w := by
  go_enter Tryz.func96, Tryz.ntmps96
  go_wp2
  go_ret
  exact ⟨rfl, rfl⟩
set_option maxHeartbeats 1000000 in
theorem wglue_r (B : Nat) (j : Nat) (w : World) : Calls Tryz.prog 96 #[.pointer (some ⟨B, 0, none⟩), .int .i64 (j : Int), .int .i64 (-1)] w fun e w' => e = .returned (.int .i64 (j : Int)) ∧ w' = w := by
  have h0 : ¬ ((j : Int) < 0) := by omega
  go_enter Tryz.func96, Tryz.ntmps96
  go_wp2
  go_ret
  exact ⟨rfl, rfl⟩

set_option maxRecDepth 100000 in
set_option maxHeartbeats 4000000 in
theorem wglue_two (l r : Tr) (lj rj : Nat) (base B : Nat) (v : Value) (N : List Nd) (w : World) (h0 : 1 ≤ l.size) (hz : Hid (N.length + 240 * (l.ht + 2) ≤ 2097152)) (hs : l.size + r.size ≤ 524287) (gl : Hid (Gdw l)) (gr : Hid (Gdw r)) (hW : Hid (Wd w base B v N)) (h1 : Hid (Is N l (lj : Int))) (h2 : Hid (Is N r (rj : Int))) (hB : Hid (base ≤ w.heap.size)) :
    Calls Tryz.prog 96 #[.pointer (some ⟨B, 0, none⟩), .int .i64 (lj : Int), .int .i64 (rj : Int)] w fun e w' => ∃ p, l.list[l.size - 1]? = some p ∧ Mades w base B v N (Tr.joinT (Tr.splitT l (l.size - 1)).1 p r) (240 * (l.ht + 1)) e w' := by
  have n1 : ¬ ((lj : Int) < 0) := by omega
  have n2 : ¬ ((rj : Int) < 0) := by omega
  have hNz : Hid (N.length ≤ 2097152) := by have := hz.out; unfold Hid; omega
  have DS1 := Hid.mk' (wsize_any l lj base B v N w hNz.out hW h1)
  have DG := Hid.mk' (wget_any base B v N hNz.out l (by omega) (l.size - 1) lj w (by omega) hW.out h1.out)
  have hc : Hid (((l.size - 1 : Nat) : Int) = (l.size : Int) - 1) := by unfold Hid; omega
  rw [hc.out] at DG
  have hw1 : IntKind.i64.wrap ((l.size : Int) - 1) = (l.size : Int) - 1 := by rw [IntKind.wrap_i64]; omega
  have hw3 : (l.size : Int) ≤ 524287 := by omega
  have hw4 : (1 : Int) ≤ (l.size : Int) := by omega
  go_enter Tryz.func96, Tryz.ntmps96
  go_wp2_with (go_at_call 123; refine DS1.out.mono ?_; rintro e w' ⟨rfl, hq⟩; (have hq' := hq.symm); clear hq; subst hq')
  refine DG.out.mono ?_
  rintro e w2 ⟨s, o, n, m, hg, rfl, hb2⟩
  have HG := Hid.mk' hg
  have B2 := Hid.mk' hb2
  clear hg hb2 DG DS1
  go_upto_region 6 with fail
  have HBK := Hid.mk' (Blk.new w2 59 #[.int .i64 s, .int .i64 o, .int .i64 n, .int .i64 m])
  have BW := Hid.mk' (bAlloc B2.out (.cells #[.int .i64 s, .int .i64 o, .int .i64 n, .int .i64 m] 59))
  have NE := Hid.mk' (blk_new_ne (hW.out.keep B2.out))
  generalize hW3 : w2.alloc (.cells #[.int .i64 s, .int .i64 o, .int .i64 n, .int .i64 m] 59) = W3 at *
  clear hW3
  have hqz : w2.heap.size < W3.heap.size := HBK.out.lt
  obtain ⟨qb, hqb⟩ : ∃ q, q = w2.heap.size := ⟨_, rfl⟩
  rw [← hqb] at HBK hqz NE ⊢
  clear hqb B2
  have D3 := Hid.mk' (hW.out.keep BW.out)
  have b3 := Hid.mk' (show base ≤ W3.heap.size by have := hB.out; have := BW.out.size; omega)
  have G3 := Hid.mk' (show Grw w W3 B v v from Grw.below BW.out)
  have DS2 := Hid.mk' (wsize_any l lj base B v N W3 hNz.out D3 h1)
  have DP := Hid.mk' (wsplit_any base B l gl.out.wh.1 gl.out.ft (by omega) (l.size - 1) lj W3 v N (by omega) D3.out (by rw [Tr.blk_black gl.out.wh.2]; exact h1.out) b3.out (by have := hz.out; omega))
  rw [hc.out] at DP
  go_wp2_with (go_at_call 123; refine DS2.out.mono ?_; rintro e w' ⟨rfl, rfl⟩)
  refine DP.out.mono ?_
  rintro e w4 ⟨c4, d4, v4, M4, rfl, q1, q2, q2b, q3, q4⟩
  have K4 := Hid.mk' (q3.blk HBK.out NE.out.1 NE.out.2)
  have b4 := Hid.mk' (show base ≤ w4.heap.size by have := b3.out; have := q3.size; omega)
  have G4 := Hid.mk' (G3.out.trans q3)
  have W4 := Hid.mk' q1
  have J4 := Hid.mk' q2
  have C4 := Hid.mk' q4
  clear q1 q2 q2b q3 q4 DP DS2
  obtain ⟨z0, z1, z2, z3⟩ := K4.out.four
  have SG := Hid.mk' (split_gdw (t := l) (l.size - 1) gl.out.wh.1 gl.out.ft (by omega))
  have DJ := Hid.mk' (wjoin_any (Tr.splitT l (l.size - 1)).1 r c4 rj s o n m base B v4 (N ++ M4) w4 (by have x0 := hz.out; have x1 := C4.out; have x2 := SG.out.1.ht; have x3 := gr.out.ht; rw [List.length_append]; omega) (by have x1 := SG.out.2.2.1; omega) ((Tr.fits_list l).1 gl.out.ft _ (List.mem_of_getElem? HG.out)) ⟨SG.out.1.ft, SG.out.1.wh⟩ ⟨gr.out.ft, gr.out.wh⟩ W4.out J4.out (h2.out.more M4) b4.out)
  go_wp2_with fail
  refine DJ.out.mono ?_
  rintro e w5 ⟨i5, v5, M5, rfl, q1, q2, q3, q4⟩
  have FIN := Hid.mk' (And.intro q1 (And.intro q2 (And.intro (G4.out.trans q3) q4)))
  clear q1 q2 q3 q4 DJ
  go_wp2
  go_ret
  exact ⟨_, HG.out, i5, v5, M4 ++ M5, rfl, by have := FIN.out.1; simpa only [List.append_assoc] using this, by have := FIN.out.2.1; simpa only [List.append_assoc] using this, FIN.out.2.2.1, by have x1 := FIN.out.2.2.2; have x2 := C4.out; have x3 := SG.out.1.ht; have x4 := gr.out.ht; rw [List.length_append]; omega⟩

theorem wglue_any (l r : Tr) (li ri : Int) (base B : Nat) (v : Value) (N : List Nd) (w : World) (hz : N.length + 240 * (l.ht + 2) ≤ 2097152) (hs : l.size + r.size ≤ 524287) (gl : Gdw l) (gr : Gdw r) (hW : Wd w base B v N) (h1 : Is N l li) (h2 : Is N r ri) (hB : base ≤ w.heap.size) :
    Calls Tryz.prog 96 #[.pointer (some ⟨B, 0, none⟩), .int .i64 li, .int .i64 ri] w fun e w' => Mades w base B v N (Tr.gluT l r) (240 * (l.ht + 1)) e w' := by
  cases l using Tr.el with
  | nil =>
    have e : li = -1 := h1
    subst e
    refine (wglue_l B ri w).mono ?_
    rintro e w' ⟨rfl, rfl⟩
    exact ⟨ri, v, [], rfl, by simpa using hW, by simpa [Tr.gluT] using h2, Grw.refl _ _ _, Nat.zero_le _⟩
  | node c a p b =>
    cases r using Tr.el with
    | nil =>
      have e : ri = -1 := h2
      subst e
      have hh := h1
      obtain ⟨j, _, _, rfl, _⟩ := hh
      refine (wglue_r B j w).mono ?_
      rintro e w' ⟨rfl, rfl⟩
      exact ⟨j, v, [], rfl, by simpa using hW, by simpa [Tr.gluT] using h1, Grw.refl _ _ _, Nat.zero_le _⟩
    | node c' a' p' b' =>
      have hh := h1
      obtain ⟨j, _, _, rfl, _⟩ := hh
      have hh := h2
      obtain ⟨j', _, _, rfl, _⟩ := hh
      refine (wglue_two _ _ j j' base B v N w (by simp only [Tr.size]; omega) hz hs gl gr hW h1 h2 hB).mono ?_
      rintro e w' ⟨q, hq, hm⟩
      have : Tr.gluT (Tr.mk (some (c, a, p, b))) (Tr.mk (some (c', a', p', b'))) = Tr.joinT (Tr.splitT (Tr.mk (some (c, a, p, b))) ((Tr.mk (some (c, a, p, b))).size - 1)).1 q (Tr.mk (some (c', a', p', b'))) := by
        unfold Tr.gluT
        simp only [hq]
      rw [this]
      exact hm

set_option maxHeartbeats 2000000 in
theorem wjoin_un (l r : Tr) (li ri ps po pl pn : Int) (base B : Nat) (v : Value) (N : List Nd) (w : World) (hz : N.length + 240 * (l.ht + 2) ≤ 2097152) (hs : l.size + r.size ≤ 524287) (hp : fitB pl pn = false) (gl : Hid (Gdw l)) (gr : Hid (Gdw r)) (hW : Hid (Wd w base B v N)) (h1 : Hid (Is N l li)) (h2 : Hid (Is N r ri)) (hB : Hid (base ≤ w.heap.size)) :
    Calls Tryz.prog 55 #[.pointer (some ⟨B, 0, none⟩), .int .i64 li, .agg #[.int .i64 ps, .int .i64 po, .int .i64 pl, .int .i64 pn], .int .i64 ri] w fun e w' => Mades w base B v N (Tr.gluT l r) (240 * (l.ht + 1)) e w' := by
  have BW := Hid.mk' (bAlloc (bAlloc (Below.refl w.heap.size w) (.cells #[.int .i64 ps, .int .i64 po, .int .i64 pl, .int .i64 pn] 59)) (.cells #[.int .i64 ps, .int .i64 po, .int .i64 pl, .int .i64 pn] 59))
  have DG := Hid.mk' (wglue_any l r li ri base B v N _ hz hs gl.out gr.out (hW.out.keep BW.out) h1.out h2.out (by have := hB.out; have := BW.out.size; omega))
  go_enter Tryz.func55, Tryz.ntmps55
  go_wp2_with (go_at_call 95; refine (refFit_any ps po pl pn _).mono ?_; rintro e w5 ⟨rfl, rfl⟩; rw [hp])
  refine DG.out.mono ?_
  rintro e w5 ⟨i5, v5, M5, rfl, q1, q2, q3, q4⟩
  have FIN := Hid.mk' (And.intro q1 (And.intro q2 (And.intro ((Grw.below BW.out).trans q3) q4)))
  clear q1 q2 q3 q4 DG
  go_wp2
  go_ret
  exact ⟨i5, v5, M5, rfl, FIN.out.1, FIN.out.2.1, FIN.out.2.2.1, FIN.out.2.2.2⟩
end Go.Proofs.YtmhpeppbhjpkiaaGreat

