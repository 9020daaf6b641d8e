/- The contract of the wood's set. -/
import Derived.Test.YtcaegdfbbjfgpaaSm02
import Derived.Test.YtcaegdfbbjfgpaaSm03
namespace Go.Proofs.Ytcaegdfbbjfgpaa
open Go.RowKit

/-- what set asks for -/
def Stq (base B : Nat) (t : Tr) (ss so sl sn : Int) : Prop := ∀ (k : Nat) (i : Int) (w : World) (v : Value) (N : List Nd), k < t.size → Wd w base B v N → Is N t i → base ≤ w.heap.size → N.length + t.ht ≤ 2097152 → Calls Try.prog 74 #[.pointer (some ⟨B, 0, none⟩), .int .i64 i, .int .i64 (k : Int), .agg #[.int .i64 ss, .int .i64 so, .int .i64 sl, .int .i64 sn]] w fun e w' => Mades w base B v N (t.setT k ⟨ss, so, sl, sn⟩) t.ht e w'
theorem setT_fits {t : Tr} (h : t.fits) (hz : t.size ≤ 1048576) (k : Nat) {p : Pc} (hp : p.fit) : (t.setT k p).fits := (setT_fine ⟨h, hz⟩ k hp).1

set_option maxRecDepth 100000 in
set_option maxHeartbeats 4000000 in
theorem wset_left (base B : Nat) (c : Bool) (l r : Tr) (ps po pl pn ss so sl sn : Int) (k : Nat) (i : Int) (w : World) (v : Value) (N : List Nd) (hk : Hid (k < l.size)) (_hk2 : Hid (k < l.size + 1 + r.size)) (hsz : l.size + 1 + r.size ≤ 1048576) (hf : Hid (Pc.fit ⟨ps, po, pl, pn⟩ ∧ l.fits ∧ r.fits)) (hp : Hid (Pc.fit ⟨ss, so, sl, sn⟩)) (hW : Hid (Wd w base B v N)) (hi : Hid (Is N (Tr.mk (some (c, l, ⟨ps, po, pl, pn⟩, r))) i)) (hB : Hid (base ≤ w.heap.size)) (hz : Hid (N.length + (1 + max l.ht r.ht) ≤ 2097152)) (IH : Hid (Stq base B l ss so sl sn)) :
    Calls Try.prog 74 #[.pointer (some ⟨B, 0, none⟩), .int .i64 i, .int .i64 (k : Int), .agg #[.int .i64 ss, .int .i64 so, .int .i64 sl, .int .i64 sn]] w fun e w' => Mades w base B v N (Tr.mk (some (c, l.setT k ⟨ss, so, sl, sn⟩, ⟨ps, po, pl, pn⟩, r))) (1 + max l.ht r.ht) e w' := by
  obtain ⟨j, li, ri, rfl, hj, hli, hri⟩ := hi.out
  have HL := Hid.mk' hli
  have HR := Hid.mk' hri
  have hlt := (List.getElem?_eq_some_iff.1 hj).1
  have HJ := Hid.mk' hj
  have j0 : (0 : Int) ≤ (j : Int) := by omega
  have j1 : (j : Int) < (N.length : Int) := by omega
  clear hj hli hri hi hlt
  go_enter Try.func74, Try.ntmps74
  go_upto_region 1 with fail
  have HZ := Hid.mk' (Blk.new w 32 #[.int .i64 ss, .int .i64 so, .int .i64 sl, .int .i64 sn])
  have BZ := Hid.mk' (bAlloc (Below.refl w.heap.size w) (.cells #[.int .i64 ss, .int .i64 so, .int .i64 sl, .int .i64 sn] 32))
  generalize hW1 : w.alloc (.cells #[.int .i64 ss, .int .i64 so, .int .i64 sl, .int .i64 sn] 32) = W1 at *
  clear hW1
  obtain ⟨qz, hqz⟩ : ∃ q, q = w.heap.size := ⟨_, rfl⟩
  rw [← hqz] at HZ ⊢
  clear hqz
  have D1 := Hid.mk' (hW.out.keep BZ.out)
  have NE := Hid.mk' (blk_new_ne D1.out)
  obtain ⟨g, cap, hv, x0, y0, y1, y2, y3, y4, y5, y6, y7, y8, y9, y10⟩ := D1.out.eleven HJ.out
  obtain ⟨k7, h7⟩ : ∃ k : Int, k = ((Tr.mk (some (c, l, ⟨ps, po, pl, pn⟩, r))).size : Nat) := ⟨_, rfl⟩
  obtain ⟨k8, h8⟩ : ∃ k : Int, k = (Tr.mk (some (c, l, ⟨ps, po, pl, pn⟩, r))).byt := ⟨_, rfl⟩
  obtain ⟨k9, h9⟩ : ∃ k : Int, k = (Tr.mk (some (c, l, ⟨ps, po, pl, pn⟩, r))).lin := ⟨_, rfl⟩
  obtain ⟨k10, h10⟩ : ∃ k : Int, k = ((Tr.mk (some (c, l, ⟨ps, po, pl, pn⟩, r))).bh : Nat) := ⟨_, rfl⟩
  rw [← h7] at y7
  rw [← h8] at y8
  rw [← h9] at y9
  rw [← h10] at y10
  clear h7 h8 h9 h10
  have HV := Hid.mk' hv
  rw [hv] at x0
  clear hv
  go_upto_region 2 with fail
  have HBK := Hid.mk' (Blk.new W1 118 #[.int .i64 ps, .int .i64 po, .int .i64 pl, .int .i64 pn, .bool c, .int .i64 li, .int .i64 ri, .int .i64 k7, .int .i64 k8, .int .i64 k9, .int .i64 k10])
  have BW := Hid.mk' (bAlloc (Below.refl W1.heap.size W1) (.cells #[.int .i64 ps, .int .i64 po, .int .i64 pl, .int .i64 pn, .bool c, .int .i64 li, .int .i64 ri, .int .i64 k7, .int .i64 k8, .int .i64 k9, .int .i64 k10] 118))
  generalize hW3 : W1.alloc (.cells #[.int .i64 ps, .int .i64 po, .int .i64 pl, .int .i64 pn, .bool c, .int .i64 li, .int .i64 ri, .int .i64 k7, .int .i64 k8, .int .i64 k9, .int .i64 k10] 118) = W3 at *
  clear hW3 y0 y1 y2 y3 y4 y5 y6 y7 y8 y9 y10 x0
  have hqz3 : W1.heap.size < W3.heap.size := HBK.out.lt
  have D3 := Hid.mk' (D1.out.keep BW.out)
  have Z3 := Hid.mk' (HZ.out.keep BW.out)
  have G3 := Hid.mk' (show Grw w W3 B v v from Grw.below (bT BZ.out BW.out))
  have b3 := Hid.mk' (show base ≤ W3.heap.size by have := hB.out; have := G3.out.size; omega)
  obtain ⟨qb, hqb⟩ : ∃ q, q = W1.heap.size := ⟨_, rfl⟩
  rw [← hqb] at HBK NE hqz3 ⊢
  clear hqb BW BZ HZ D1
  obtain ⟨z0, z1, z2, z3⟩ := Z3.out.four
  have s5 := HBK.out.cell (j := 5) (v := .int .i64 li) rfl
  have DZ := Hid.mk' (wsize_any l li base B v N W3 (by have := hz.out; omega) D3 HL)
  have hke : ((k : Int) == (l.size : Int)) = false := by rw [beq_eq_false_iff_ne]; have := hk.out; omega
  have hkk : (k : Int) < (l.size : Int) := by have := hk.out; omega
  have DG := Hid.mk' (IH.out k li W3 v N hk.out D3.out HL.out b3.out (by have := hz.out; omega))
  go_wp2_with (go_at_call 90; refine DZ.out.mono ?_; rintro e w' ⟨rfl, rfl⟩)
  refine DG.out.mono ?_
  rintro e w5 ⟨i5, v5, M5, rfl, q1, q2, q3, q4⟩
  have K5 := Hid.mk' (q3.blk HBK.out NE.out.1 NE.out.2)
  have b5 := Hid.mk' (show base ≤ w5.heap.size by have := b3.out; have := q3.size; omega)
  have G5 := Hid.mk' (G3.out.trans q3)
  have W5 := Hid.mk' q1
  have J5 := Hid.mk' q2
  have C5 := Hid.mk' q4
  clear q1 q2 q3 q4 DG DZ s5  z0 z1 z2 z3
  have d0 := K5.out.cell (j := 0) (v := .int .i64 ps) rfl
  have d1 := K5.out.cell (j := 1) (v := .int .i64 po) rfl
  have d2 := K5.out.cell (j := 2) (v := .int .i64 pl) rfl
  have d3 := K5.out.cell (j := 3) (v := .int .i64 pn) rfl
  have d4 := K5.out.cell (j := 4) (v := .bool c) rfl
  have d5 := K5.out.cell (j := 5) (v := .int .i64 li) rfl
  have d6 := K5.out.cell (j := 6) (v := .int .i64 ri) rfl
  have DA := Hid.mk' (wadd_made (l.setT k ⟨ss, so, sl, sn⟩) r i5 ri ⟨ps, po, pl, pn⟩ c base B v5 (N ++ M5) w5 (by have h0 := hz.out; have h1 := C5.out; rw [List.length_append]; omega) (by rw [(setT_size l k _).1]; omega) hf.out.1 (setT_fits hf.out.2.1 (by omega) k hp.out) hf.out.2.2 W5.out J5.out (HR.out.more M5) b5.out)
  go_wp2_with fail
  refine DA.out.mono ?_
  rintro e w6 ⟨i6, v6, M6, rfl, q1, q2, q3, q4⟩
  have FIN := Hid.mk' (And.intro q1 (And.intro q2 (And.intro (G5.out.trans q3) q4)))
  clear q1 q2 q3 q4 DA
  go_wp2
  go_ret
  exact ⟨i6, v6, M5 ++ M6, rfl, by have := FIN.out.1; simpa only [List.append_assoc] using this, by have := FIN.out.2.1; simpa only [List.append_assoc] using this, FIN.out.2.2.1, by have := FIN.out.2.2.2; have := C5.out; rw [List.length_append]; omega⟩

set_option maxRecDepth 100000 in
set_option maxHeartbeats 4000000 in
theorem wset_here (base B : Nat) (c : Bool) (l r : Tr) (ps po pl pn ss so sl sn : Int) (k : Nat) (i : Int) (w : World) (v : Value) (N : List Nd) (hk : Hid (k = l.size)) (_hk2 : Hid (k < l.size + 1 + r.size)) (hsz : l.size + 1 + r.size ≤ 1048576) (hf : Hid (Pc.fit ⟨ps, po, pl, pn⟩ ∧ l.fits ∧ r.fits)) (hp : Hid (Pc.fit ⟨ss, so, sl, sn⟩)) (hW : Hid (Wd w base B v N)) (hi : Hid (Is N (Tr.mk (some (c, l, ⟨ps, po, pl, pn⟩, r))) i)) (hB : Hid (base ≤ w.heap.size)) (hz : Hid (N.length + (1 + max l.ht r.ht) ≤ 2097152))  :
    Calls Try.prog 74 #[.pointer (some ⟨B, 0, none⟩), .int .i64 i, .int .i64 (k : Int), .agg #[.int .i64 ss, .int .i64 so, .int .i64 sl, .int .i64 sn]] w fun e w' => Mades w base B v N (Tr.mk (some (c, l, ⟨ss, so, sl, sn⟩, r))) (1 + max l.ht r.ht) e w' := by
  obtain ⟨j, li, ri, rfl, hj, hli, hri⟩ := hi.out
  have HL := Hid.mk' hli
  have HR := Hid.mk' hri
  have hlt := (List.getElem?_eq_some_iff.1 hj).1
  have HJ := Hid.mk' hj
  have j0 : (0 : Int) ≤ (j : Int) := by omega
  have j1 : (j : Int) < (N.length : Int) := by omega
  clear hj hli hri hi hlt
  go_enter Try.func74, Try.ntmps74
  go_upto_region 1 with fail
  have HZ := Hid.mk' (Blk.new w 32 #[.int .i64 ss, .int .i64 so, .int .i64 sl, .int .i64 sn])
  have BZ := Hid.mk' (bAlloc (Below.refl w.heap.size w) (.cells #[.int .i64 ss, .int .i64 so, .int .i64 sl, .int .i64 sn] 32))
  generalize hW1 : w.alloc (.cells #[.int .i64 ss, .int .i64 so, .int .i64 sl, .int .i64 sn] 32) = W1 at *
  clear hW1
  obtain ⟨qz, hqz⟩ : ∃ q, q = w.heap.size := ⟨_, rfl⟩
  rw [← hqz] at HZ ⊢
  clear hqz
  have D1 := Hid.mk' (hW.out.keep BZ.out)
  have NE := Hid.mk' (blk_new_ne D1.out)
  obtain ⟨g, cap, hv, x0, y0, y1, y2, y3, y4, y5, y6, y7, y8, y9, y10⟩ := D1.out.eleven HJ.out
  obtain ⟨k7, h7⟩ : ∃ k : Int, k = ((Tr.mk (some (c, l, ⟨ps, po, pl, pn⟩, r))).size : Nat) := ⟨_, rfl⟩
  obtain ⟨k8, h8⟩ : ∃ k : Int, k = (Tr.mk (some (c, l, ⟨ps, po, pl, pn⟩, r))).byt := ⟨_, rfl⟩
  obtain ⟨k9, h9⟩ : ∃ k : Int, k = (Tr.mk (some (c, l, ⟨ps, po, pl, pn⟩, r))).lin := ⟨_, rfl⟩
  obtain ⟨k10, h10⟩ : ∃ k : Int, k = ((Tr.mk (some (c, l, ⟨ps, po, pl, pn⟩, r))).bh : Nat) := ⟨_, rfl⟩
  rw [← h7] at y7
  rw [← h8] at y8
  rw [← h9] at y9
  rw [← h10] at y10
  clear h7 h8 h9 h10
  have HV := Hid.mk' hv
  rw [hv] at x0
  clear hv
  go_upto_region 2 with fail
  have HBK := Hid.mk' (Blk.new W1 118 #[.int .i64 ps, .int .i64 po, .int .i64 pl, .int .i64 pn, .bool c, .int .i64 li, .int .i64 ri, .int .i64 k7, .int .i64 k8, .int .i64 k9, .int .i64 k10])
  have BW := Hid.mk' (bAlloc (Below.refl W1.heap.size W1) (.cells #[.int .i64 ps, .int .i64 po, .int .i64 pl, .int .i64 pn, .bool c, .int .i64 li, .int .i64 ri, .int .i64 k7, .int .i64 k8, .int .i64 k9, .int .i64 k10] 118))
  generalize hW3 : W1.alloc (.cells #[.int .i64 ps, .int .i64 po, .int .i64 pl, .int .i64 pn, .bool c, .int .i64 li, .int .i64 ri, .int .i64 k7, .int .i64 k8, .int .i64 k9, .int .i64 k10] 118) = W3 at *
  clear hW3 y0 y1 y2 y3 y4 y5 y6 y7 y8 y9 y10 x0
  have hqz3 : W1.heap.size < W3.heap.size := HBK.out.lt
  have D3 := Hid.mk' (D1.out.keep BW.out)
  have Z3 := Hid.mk' (HZ.out.keep BW.out)
  have G3 := Hid.mk' (show Grw w W3 B v v from Grw.below (bT BZ.out BW.out))
  have b3 := Hid.mk' (show base ≤ W3.heap.size by have := hB.out; have := G3.out.size; omega)
  obtain ⟨qb, hqb⟩ : ∃ q, q = W1.heap.size := ⟨_, rfl⟩
  rw [← hqb] at HBK NE hqz3 ⊢
  clear hqb BW BZ HZ D1
  obtain ⟨z0, z1, z2, z3⟩ := Z3.out.four
  have s5 := HBK.out.cell (j := 5) (v := .int .i64 li) rfl
  have DZ := Hid.mk' (wsize_any l li base B v N W3 (by have := hz.out; omega) D3 HL)
  have hke : (k : Int) = (l.size : Int) := by have := hk.out; omega
  have s6 := HBK.out.cell (j := 6) (v := .int .i64 ri) rfl
  have s4 := HBK.out.cell (j := 4) (v := .bool c) rfl
  have DA := Hid.mk' (wadd_made l r li ri ⟨ss, so, sl, sn⟩ c base B v N W3 (by have h0 := hz.out; omega) (by omega) hp.out hf.out.2.1 hf.out.2.2 D3.out HL.out HR.out b3.out)
  go_wp2_with (go_at_call 90; refine DZ.out.mono ?_; rintro e w' ⟨rfl, rfl⟩)
  refine DA.out.mono ?_
  rintro e w6 ⟨i6, v6, M6, rfl, q1, q2, q3, q4⟩
  have FIN := Hid.mk' (And.intro q1 (And.intro q2 (And.intro (G3.out.trans q3) q4)))
  clear q1 q2 q3 q4 DA DZ
  go_wp2
  go_ret
  exact ⟨i6, v6, M6, rfl, FIN.out.1, FIN.out.2.1, FIN.out.2.2.1, by have := FIN.out.2.2.2; omega⟩

set_option maxRecDepth 100000 in
set_option maxHeartbeats 4000000 in
theorem wset_right (base B : Nat) (c : Bool) (l r : Tr) (ps po pl pn ss so sl sn : Int) (k : Nat) (i : Int) (w : World) (v : Value) (N : List Nd) (hk : Hid (l.size < k)) (hk2 : Hid (k < l.size + 1 + r.size)) (hsz : l.size + 1 + r.size ≤ 1048576) (hf : Hid (Pc.fit ⟨ps, po, pl, pn⟩ ∧ l.fits ∧ r.fits)) (hp : Hid (Pc.fit ⟨ss, so, sl, sn⟩)) (hW : Hid (Wd w base B v N)) (hi : Hid (Is N (Tr.mk (some (c, l, ⟨ps, po, pl, pn⟩, r))) i)) (hB : Hid (base ≤ w.heap.size)) (hz : Hid (N.length + (1 + max l.ht r.ht) ≤ 2097152)) (IH : Hid (Stq base B r ss so sl sn)) :
    Calls Try.prog 74 #[.pointer (some ⟨B, 0, none⟩), .int .i64 i, .int .i64 (k : Int), .agg #[.int .i64 ss, .int .i64 so, .int .i64 sl, .int .i64 sn]] w fun e w' => Mades w base B v N (Tr.mk (some (c, l, ⟨ps, po, pl, pn⟩, r.setT (k - l.size - 1) ⟨ss, so, sl, sn⟩))) (1 + max l.ht r.ht) e w' := by
  obtain ⟨j, li, ri, rfl, hj, hli, hri⟩ := hi.out
  have HL := Hid.mk' hli
  have HR := Hid.mk' hri
  have hlt := (List.getElem?_eq_some_iff.1 hj).1
  have HJ := Hid.mk' hj
  have j0 : (0 : Int) ≤ (j : Int) := by omega
  have j1 : (j : Int) < (N.length : Int) := by omega
  clear hj hli hri hi hlt
  go_enter Try.func74, Try.ntmps74
  go_upto_region 1 with fail
  have HZ := Hid.mk' (Blk.new w 32 #[.int .i64 ss, .int .i64 so, .int .i64 sl, .int .i64 sn])
  have BZ := Hid.mk' (bAlloc (Below.refl w.heap.size w) (.cells #[.int .i64 ss, .int .i64 so, .int .i64 sl, .int .i64 sn] 32))
  generalize hW1 : w.alloc (.cells #[.int .i64 ss, .int .i64 so, .int .i64 sl, .int .i64 sn] 32) = W1 at *
  clear hW1
  obtain ⟨qz, hqz⟩ : ∃ q, q = w.heap.size := ⟨_, rfl⟩
  rw [← hqz] at HZ ⊢
  clear hqz
  have D1 := Hid.mk' (hW.out.keep BZ.out)
  have NE := Hid.mk' (blk_new_ne D1.out)
  obtain ⟨g, cap, hv, x0, y0, y1, y2, y3, y4, y5, y6, y7, y8, y9, y10⟩ := D1.out.eleven HJ.out
  obtain ⟨k7, h7⟩ : ∃ k : Int, k = ((Tr.mk (some (c, l, ⟨ps, po, pl, pn⟩, r))).size : Nat) := ⟨_, rfl⟩
  obtain ⟨k8, h8⟩ : ∃ k : Int, k = (Tr.mk (some (c, l, ⟨ps, po, pl, pn⟩, r))).byt := ⟨_, rfl⟩
  obtain ⟨k9, h9⟩ : ∃ k : Int, k = (Tr.mk (some (c, l, ⟨ps, po, pl, pn⟩, r))).lin := ⟨_, rfl⟩
  obtain ⟨k10, h10⟩ : ∃ k : Int, k = ((Tr.mk (some (c, l, ⟨ps, po, pl, pn⟩, r))).bh : Nat) := ⟨_, rfl⟩
  rw [← h7] at y7
  rw [← h8] at y8
  rw [← h9] at y9
  rw [← h10] at y10
  clear h7 h8 h9 h10
  have HV := Hid.mk' hv
  rw [hv] at x0
  clear hv
  go_upto_region 2 with fail
  have HBK := Hid.mk' (Blk.new W1 118 #[.int .i64 ps, .int .i64 po, .int .i64 pl, .int .i64 pn, .bool c, .int .i64 li, .int .i64 ri, .int .i64 k7, .int .i64 k8, .int .i64 k9, .int .i64 k10])
  have BW := Hid.mk' (bAlloc (Below.refl W1.heap.size W1) (.cells #[.int .i64 ps, .int .i64 po, .int .i64 pl, .int .i64 pn, .bool c, .int .i64 li, .int .i64 ri, .int .i64 k7, .int .i64 k8, .int .i64 k9, .int .i64 k10] 118))
  generalize hW3 : W1.alloc (.cells #[.int .i64 ps, .int .i64 po, .int .i64 pl, .int .i64 pn, .bool c, .int .i64 li, .int .i64 ri, .int .i64 k7, .int .i64 k8, .int .i64 k9, .int .i64 k10] 118) = W3 at *
  clear hW3 y0 y1 y2 y3 y4 y5 y6 y7 y8 y9 y10 x0
  have hqz3 : W1.heap.size < W3.heap.size := HBK.out.lt
  have D3 := Hid.mk' (D1.out.keep BW.out)
  have Z3 := Hid.mk' (HZ.out.keep BW.out)
  have G3 := Hid.mk' (show Grw w W3 B v v from Grw.below (bT BZ.out BW.out))
  have b3 := Hid.mk' (show base ≤ W3.heap.size by have := hB.out; have := G3.out.size; omega)
  obtain ⟨qb, hqb⟩ : ∃ q, q = W1.heap.size := ⟨_, rfl⟩
  rw [← hqb] at HBK NE hqz3 ⊢
  clear hqb BW BZ HZ D1
  obtain ⟨z0, z1, z2, z3⟩ := Z3.out.four
  have s5 := HBK.out.cell (j := 5) (v := .int .i64 li) rfl
  have DZ := Hid.mk' (wsize_any l li base B v N W3 (by have := hz.out; omega) D3 HL)
  have hkk : ¬ ((k : Int) < (l.size : Int)) := by have := hk.out; omega
  have hke : ((k : Int) == (l.size : Int)) = false := by rw [beq_eq_false_iff_ne]; have := hk.out; omega
  have DG := Hid.mk' (IH.out (k - l.size - 1) ri W3 v N (by have := hk.out; have := hk2.out; omega) D3.out HR.out b3.out (by have := hz.out; omega))
  rw [show ((k - l.size - 1 : Nat) : Int) = (k : Int) - (l.size : Int) - 1 from by have := hk.out; omega] at DG
  have hw1 : IntKind.i64.wrap ((k : Int) - (l.size : Int)) = (k : Int) - (l.size : Int) := by rw [IntKind.wrap_i64]; have := hk2.out; omega
  have hw2 : IntKind.i64.wrap ((k : Int) - (l.size : Int) - 1) = (k : Int) - (l.size : Int) - 1 := by rw [IntKind.wrap_i64]; have := hk2.out; omega
  have hw3 : (k : Int) ≤ 1048576 := by have := hk2.out; omega
  have hw4 : (l.size : Int) ≤ 1048576 := by omega
  have hw5 : (0 : Int) ≤ (l.size : Int) := by omega
  have s6 := HBK.out.cell (j := 6) (v := .int .i64 ri) rfl
  go_wp2_with (go_at_call 90; refine DZ.out.mono ?_; rintro e w' ⟨rfl, rfl⟩)
  refine DG.out.mono ?_
  rintro e w5 ⟨i5, v5, M5, rfl, q1, q2, q3, q4⟩
  have K5 := Hid.mk' (q3.blk HBK.out NE.out.1 NE.out.2)
  have b5 := Hid.mk' (show base ≤ w5.heap.size by have := b3.out; have := q3.size; omega)
  have G5 := Hid.mk' (G3.out.trans q3)
  have W5 := Hid.mk' q1
  have J5 := Hid.mk' q2
  have C5 := Hid.mk' q4
  clear q1 q2 q3 q4 DG DZ s5 s6 z0 z1 z2 z3
  have d0 := K5.out.cell (j := 0) (v := .int .i64 ps) rfl
  have d1 := K5.out.cell (j := 1) (v := .int .i64 po) rfl
  have d2 := K5.out.cell (j := 2) (v := .int .i64 pl) rfl
  have d3 := K5.out.cell (j := 3) (v := .int .i64 pn) rfl
  have d4 := K5.out.cell (j := 4) (v := .bool c) rfl
  have d5 := K5.out.cell (j := 5) (v := .int .i64 li) rfl
  have d6 := K5.out.cell (j := 6) (v := .int .i64 ri) rfl
  have DA := Hid.mk' (wadd_made l (r.setT (k - l.size - 1) ⟨ss, so, sl, sn⟩) li i5 ⟨ps, po, pl, pn⟩ c base B v5 (N ++ M5) w5 (by have h0 := hz.out; have h1 := C5.out; rw [List.length_append]; omega) (by rw [(setT_size r _ _).1]; omega) hf.out.1 hf.out.2.1 (setT_fits hf.out.2.2 (by omega) _ hp.out) W5.out (HL.out.more M5) J5.out b5.out)
  go_wp2_with fail
  refine DA.out.mono ?_
  rintro e w6 ⟨i6, v6, M6, rfl, q1, q2, q3, q4⟩
  have FIN := Hid.mk' (And.intro q1 (And.intro q2 (And.intro (G5.out.trans q3) q4)))
  clear q1 q2 q3 q4 DA
  go_wp2
  go_ret
  exact ⟨i6, v6, M5 ++ M6, rfl, by have := FIN.out.1; simpa only [List.append_assoc] using this, by have := FIN.out.2.1; simpa only [List.append_assoc] using this, FIN.out.2.2.1, by have := FIN.out.2.2.2; have := C5.out; rw [List.length_append]; omega⟩

theorem wset_any (base B : Nat) (ss so sl sn : Int) (hp : Pc.fit ⟨ss, so, sl, sn⟩) : ∀ (t : Tr), t.fits → t.size ≤ 1048576 → Stq base B t ss so sl sn
  | (Tr.mk none), _, _ => fun k i w v N hk => by simp [Tr.size] at hk
  | (Tr.mk (some (c, l, ⟨ps, po, pl, pn⟩, r))), hf, hz => by
    simp only [Tr.size] at hz
    have I1 := wset_any base B ss so sl sn hp l hf.1 (by omega)
    have I2 := wset_any base B ss so sl sn hp r hf.2.2 (by omega)
    intro k i w v N hk hW hi hB hN
    simp only [Tr.size] at hk
    simp only [Tr.ht] at hN
    have hf' : Pc.fit ⟨ps, po, pl, pn⟩ ∧ l.fits ∧ r.fits := ⟨hf.2.1, hf.1, hf.2.2⟩
    rcases Nat.lt_trichotomy k l.size with h | h | h
    · simp only [Tr.setT, if_pos h]
      exact wset_left base B c l r ps po pl pn ss so sl sn k i w v N h hk hz hf' hp hW hi hB hN I1
    · simp only [Tr.setT, if_neg (show ¬ k < l.size by omega), if_pos h]
      exact wset_here base B c l r ps po pl pn ss so sl sn k i w v N h hk hz hf' hp hW hi hB hN
    · simp only [Tr.setT, if_neg (show ¬ k < l.size by omega), if_neg (show ¬ k = l.size by omega)]
      exact wset_right base B c l r ps po pl pn ss so sl sn k i w v N h hk hz hf' hp hW hi hB hN I2
end Go.Proofs.Ytcaegdfbbjfgpaa
