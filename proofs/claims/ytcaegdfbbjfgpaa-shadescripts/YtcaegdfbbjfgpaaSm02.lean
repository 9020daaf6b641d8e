/- The contract of the wood's get. -/
import Derived.Test.YtcaegdfbbjfgpaaSm01
namespace Go.Proofs.Ytcaegdfbbjfgpaa
open Go.RowKit

/-- what get gives -/
def GetG (w : World) (L : List Pc) (k : Nat) (e : Ending) (w' : World) : Prop := ∃ s o n m, L[k]? = some ⟨s, o, n, m⟩ ∧ e = .returned (.agg #[.int .i64 s, .int .i64 o, .int .i64 n, .int .i64 m]) ∧ Below w.heap.size w w'
/-- what get asks for -/
def Gtq (base B : Nat) (v : Value) (N : List Nd) (t : Tr) : Prop := ∀ (k : Nat) (i : Int) (w : World), k < t.size → Wd w base B v N → Is N t i → Calls Try.prog 91 #[.pointer (some ⟨B, 0, none⟩), .int .i64 i, .int .i64 (k : Int)] w fun e w' => GetG w t.list k e w'
theorem Blk.four {W : World} {k e : Nat} {v0 v1 v2 v3 : Value} (h : Blk W k e #[v0, v1, v2, v3]) : W.cell? ⟨k, 0, none⟩ = some v0 ∧ W.cell? ⟨k, 1, none⟩ = some v1 ∧ W.cell? ⟨k, 2, none⟩ = some v2 ∧ W.cell? ⟨k, 3, none⟩ = some v3 := ⟨h.cell rfl, h.cell rfl, h.cell rfl, h.cell rfl⟩

set_option maxRecDepth 100000 in
set_option maxHeartbeats 4000000 in
theorem wget_left (base B : Nat) (c : Bool) (l r : Tr) (ps po pl pn : Int) (k : Nat) (i : Int) (w : World) (v : Value) (N : List Nd) (hN : Hid (N.length ≤ 2097152)) (hk : Hid (k < l.size)) (_hk2 : Hid (k < l.size + 1 + r.size)) (_hsz : l.size + 1 + r.size ≤ 1048576) (hW : Hid (Wd w base B v N)) (hi : Hid (Is N (Tr.mk (some (c, l, ⟨ps, po, pl, pn⟩, r))) i)) (IH : Hid (Gtq base B v N l)) :
    Calls Try.prog 91 #[.pointer (some ⟨B, 0, none⟩), .int .i64 i, .int .i64 (k : Int)] w fun e w' => GetG w (Tr.mk (some (c, l, ⟨ps, po, pl, pn⟩, r))).list k e w' := by
  obtain ⟨j, li, ri, rfl, hj, hli, hri⟩ := hi.out
  have HL := Hid.mk' hli
  have HR := Hid.mk' hri
  have hlt := (List.getElem?_eq_some_iff.1 hj).1
  have HJ := Hid.mk' hj
  have j0 : (0 : Int) ≤ (j : Int) := by omega
  have j1 : (j : Int) < (N.length : Int) := by omega
  clear hj hli hri hi hlt
  go_enter Try.func91, Try.ntmps91
  go_upto_region 1 with fail
  have HZ := Hid.mk' (Blk.new w 32 #[.int .i64 0, .int .i64 0, .int .i64 0, .int .i64 0])
  have BZ := Hid.mk' (bAlloc (Below.refl w.heap.size w) (.cells #[.int .i64 0, .int .i64 0, .int .i64 0, .int .i64 0] 32))
  generalize hW1 : w.alloc (.cells #[.int .i64 0, .int .i64 0, .int .i64 0, .int .i64 0] 32) = W1 at *
  clear hW1
  obtain ⟨qz, hqz⟩ : ∃ q, q = w.heap.size := ⟨_, rfl⟩
  rw [← hqz] at HZ ⊢
  have HQZ := Hid.mk' hqz
  clear hqz
  have D1 := Hid.mk' (hW.out.keep BZ.out)
  obtain ⟨g, cap, rfl, x0, y0, y1, y2, y3, y4, y5, y6, y7, y8, y9, y10⟩ := D1.out.eleven HJ.out
  obtain ⟨k7, h7⟩ : ∃ k : Int, k = ((Tr.mk (some (c, l, ⟨ps, po, pl, pn⟩, r))).size : Nat) := ⟨_, rfl⟩
  obtain ⟨k8, h8⟩ : ∃ k : Int, k = (Tr.mk (some (c, l, ⟨ps, po, pl, pn⟩, r))).byt := ⟨_, rfl⟩
  obtain ⟨k9, h9⟩ : ∃ k : Int, k = (Tr.mk (some (c, l, ⟨ps, po, pl, pn⟩, r))).lin := ⟨_, rfl⟩
  obtain ⟨k10, h10⟩ : ∃ k : Int, k = ((Tr.mk (some (c, l, ⟨ps, po, pl, pn⟩, r))).bh : Nat) := ⟨_, rfl⟩
  rw [← h7] at y7
  rw [← h8] at y8
  rw [← h9] at y9
  rw [← h10] at y10
  clear h7 h8 h9 h10
  go_upto_region 2 with fail
  have HBK := Hid.mk' (Blk.new W1 118 #[.int .i64 ps, .int .i64 po, .int .i64 pl, .int .i64 pn, .bool c, .int .i64 li, .int .i64 ri, .int .i64 k7, .int .i64 k8, .int .i64 k9, .int .i64 k10])
  have BW := Hid.mk' (bAlloc (Below.refl W1.heap.size W1) (.cells #[.int .i64 ps, .int .i64 po, .int .i64 pl, .int .i64 pn, .bool c, .int .i64 li, .int .i64 ri, .int .i64 k7, .int .i64 k8, .int .i64 k9, .int .i64 k10] 118))
  generalize hW3 : W1.alloc (.cells #[.int .i64 ps, .int .i64 po, .int .i64 pl, .int .i64 pn, .bool c, .int .i64 li, .int .i64 ri, .int .i64 k7, .int .i64 k8, .int .i64 k9, .int .i64 k10] 118) = W3 at *
  clear hW3 y0 y1 y2 y3 y4 y5 y6 y7 y8 y9 y10 x0
  have D3 := Hid.mk' (D1.out.keep BW.out)
  have Z3 := Hid.mk' (HZ.out.keep BW.out)
  have B3 := Hid.mk' (bT BZ.out BW.out)
  obtain ⟨qb, hqb⟩ : ∃ q, q = W1.heap.size := ⟨_, rfl⟩
  rw [← hqb] at HBK ⊢
  clear hqb BW BZ HZ D1
  have s5 := HBK.out.cell (j := 5) (v := .int .i64 li) rfl
  have DZ := Hid.mk' (wsize_any l li base B _ N W3 hN.out D3 HL)
  have hkk : (k : Int) < (l.size : Int) := by have := hk.out; omega
  have DG := Hid.mk' (IH.out k li W3 hk.out D3.out HL.out)
  go_wp2_with (go_at_call 90; refine DZ.out.mono ?_; rintro e w' ⟨rfl, rfl⟩)
  refine DG.out.mono ?_
  rintro e w5 ⟨s, o, n, m, hg, rfl, hb5⟩
  have HG := Hid.mk' hg
  have Z5 := Hid.mk' (Z3.out.keep hb5)
  have B5 := Hid.mk' (bT B3.out hb5)
  clear hg hb5 DG DZ
  obtain ⟨c0, c1, c2, c3⟩ := Z5.out.four
  have fz := Z5.out.frozen
  go_wp2
  refine bodyPost_ret (v := .agg #[.int .i64 s, .int .i64 o, .int .i64 n, .int .i64 m]) (by simp [results, Try.results91, go_sem, c0, c1, c2, c3]) rfl ⟨s, o, n, m, ?_, rfl, below_put4 B5.out (by have := HQZ.out; omega) _ _ _ _⟩
  simp only [Tr.list]
  rw [List.getElem?_append_left (by rw [Tr.size_list]; exact hk.out)]
  exact HG.out

set_option maxRecDepth 100000 in
set_option maxHeartbeats 4000000 in
theorem wget_here (base B : Nat) (c : Bool) (l r : Tr) (ps po pl pn : Int) (k : Nat) (i : Int) (w : World) (v : Value) (N : List Nd) (hN : Hid (N.length ≤ 2097152)) (hk : Hid (k = l.size)) (_hk2 : Hid (k < l.size + 1 + r.size)) (_hsz : l.size + 1 + r.size ≤ 1048576) (hW : Hid (Wd w base B v N)) (hi : Hid (Is N (Tr.mk (some (c, l, ⟨ps, po, pl, pn⟩, r))) i))  :
    Calls Try.prog 91 #[.pointer (some ⟨B, 0, none⟩), .int .i64 i, .int .i64 (k : Int)] w fun e w' => GetG w (Tr.mk (some (c, l, ⟨ps, po, pl, pn⟩, r))).list k e w' := by
  obtain ⟨j, li, ri, rfl, hj, hli, hri⟩ := hi.out
  have HL := Hid.mk' hli
  have HR := Hid.mk' hri
  have hlt := (List.getElem?_eq_some_iff.1 hj).1
  have HJ := Hid.mk' hj
  have j0 : (0 : Int) ≤ (j : Int) := by omega
  have j1 : (j : Int) < (N.length : Int) := by omega
  clear hj hli hri hi hlt
  go_enter Try.func91, Try.ntmps91
  go_upto_region 1 with fail
  have HZ := Hid.mk' (Blk.new w 32 #[.int .i64 0, .int .i64 0, .int .i64 0, .int .i64 0])
  have BZ := Hid.mk' (bAlloc (Below.refl w.heap.size w) (.cells #[.int .i64 0, .int .i64 0, .int .i64 0, .int .i64 0] 32))
  generalize hW1 : w.alloc (.cells #[.int .i64 0, .int .i64 0, .int .i64 0, .int .i64 0] 32) = W1 at *
  clear hW1
  obtain ⟨qz, hqz⟩ : ∃ q, q = w.heap.size := ⟨_, rfl⟩
  rw [← hqz] at HZ ⊢
  have HQZ := Hid.mk' hqz
  clear hqz
  have D1 := Hid.mk' (hW.out.keep BZ.out)
  obtain ⟨g, cap, rfl, x0, y0, y1, y2, y3, y4, y5, y6, y7, y8, y9, y10⟩ := D1.out.eleven HJ.out
  obtain ⟨k7, h7⟩ : ∃ k : Int, k = ((Tr.mk (some (c, l, ⟨ps, po, pl, pn⟩, r))).size : Nat) := ⟨_, rfl⟩
  obtain ⟨k8, h8⟩ : ∃ k : Int, k = (Tr.mk (some (c, l, ⟨ps, po, pl, pn⟩, r))).byt := ⟨_, rfl⟩
  obtain ⟨k9, h9⟩ : ∃ k : Int, k = (Tr.mk (some (c, l, ⟨ps, po, pl, pn⟩, r))).lin := ⟨_, rfl⟩
  obtain ⟨k10, h10⟩ : ∃ k : Int, k = ((Tr.mk (some (c, l, ⟨ps, po, pl, pn⟩, r))).bh : Nat) := ⟨_, rfl⟩
  rw [← h7] at y7
  rw [← h8] at y8
  rw [← h9] at y9
  rw [← h10] at y10
  clear h7 h8 h9 h10
  go_upto_region 2 with fail
  have HBK := Hid.mk' (Blk.new W1 118 #[.int .i64 ps, .int .i64 po, .int .i64 pl, .int .i64 pn, .bool c, .int .i64 li, .int .i64 ri, .int .i64 k7, .int .i64 k8, .int .i64 k9, .int .i64 k10])
  have BW := Hid.mk' (bAlloc (Below.refl W1.heap.size W1) (.cells #[.int .i64 ps, .int .i64 po, .int .i64 pl, .int .i64 pn, .bool c, .int .i64 li, .int .i64 ri, .int .i64 k7, .int .i64 k8, .int .i64 k9, .int .i64 k10] 118))
  generalize hW3 : W1.alloc (.cells #[.int .i64 ps, .int .i64 po, .int .i64 pl, .int .i64 pn, .bool c, .int .i64 li, .int .i64 ri, .int .i64 k7, .int .i64 k8, .int .i64 k9, .int .i64 k10] 118) = W3 at *
  clear hW3 y0 y1 y2 y3 y4 y5 y6 y7 y8 y9 y10 x0
  have D3 := Hid.mk' (D1.out.keep BW.out)
  have Z3 := Hid.mk' (HZ.out.keep BW.out)
  have B3 := Hid.mk' (bT BZ.out BW.out)
  obtain ⟨qb, hqb⟩ : ∃ q, q = W1.heap.size := ⟨_, rfl⟩
  rw [← hqb] at HBK ⊢
  clear hqb BW BZ HZ D1
  have s5 := HBK.out.cell (j := 5) (v := .int .i64 li) rfl
  have DZ := Hid.mk' (wsize_any l li base B _ N W3 hN.out D3 HL)
  have hkk : ¬ ((k : Int) < (l.size : Int)) := by have := hk.out; omega
  have hke : (k : Int) = (l.size : Int) := by have := hk.out; omega
  have s0 := HBK.out.cell (j := 0) (v := .int .i64 ps) rfl
  have s1 := HBK.out.cell (j := 1) (v := .int .i64 po) rfl
  have s2 := HBK.out.cell (j := 2) (v := .int .i64 pl) rfl
  have s3 := HBK.out.cell (j := 3) (v := .int .i64 pn) rfl
  obtain ⟨c0, c1, c2, c3⟩ := Z3.out.four
  have fz := Z3.out.frozen
  go_wp2_with (go_at_call 90; refine DZ.out.mono ?_; rintro e w' ⟨rfl, rfl⟩)
  refine bodyPost_ret (v := .agg #[.int .i64 ps, .int .i64 po, .int .i64 pl, .int .i64 pn]) (by simp [results, Try.results91, go_sem, c0, c1, c2, c3]) rfl ⟨ps, po, pl, pn, ?_, rfl, below_put4 B3.out (by have := HQZ.out; omega) _ _ _ _⟩
  simp only [Tr.list]
  rw [List.getElem?_append_right (by rw [Tr.size_list]; have := hk.out; omega), Tr.size_list, show k - l.size = 0 from by have := hk.out; omega]
  rfl

set_option maxRecDepth 100000 in
set_option maxHeartbeats 4000000 in
theorem wget_right (base B : Nat) (c : Bool) (l r : Tr) (ps po pl pn : Int) (k : Nat) (i : Int) (w : World) (v : Value) (N : List Nd) (hN : Hid (N.length ≤ 2097152)) (hk : Hid (l.size < k)) (hk2 : Hid (k < l.size + 1 + r.size)) (hsz : l.size + 1 + r.size ≤ 1048576) (hW : Hid (Wd w base B v N)) (hi : Hid (Is N (Tr.mk (some (c, l, ⟨ps, po, pl, pn⟩, r))) i)) (IH : Hid (Gtq base B v N r)) :
    Calls Try.prog 91 #[.pointer (some ⟨B, 0, none⟩), .int .i64 i, .int .i64 (k : Int)] w fun e w' => GetG w (Tr.mk (some (c, l, ⟨ps, po, pl, pn⟩, r))).list k e w' := by
  obtain ⟨j, li, ri, rfl, hj, hli, hri⟩ := hi.out
  have HL := Hid.mk' hli
  have HR := Hid.mk' hri
  have hlt := (List.getElem?_eq_some_iff.1 hj).1
  have HJ := Hid.mk' hj
  have j0 : (0 : Int) ≤ (j : Int) := by omega
  have j1 : (j : Int) < (N.length : Int) := by omega
  clear hj hli hri hi hlt
  go_enter Try.func91, Try.ntmps91
  go_upto_region 1 with fail
  have HZ := Hid.mk' (Blk.new w 32 #[.int .i64 0, .int .i64 0, .int .i64 0, .int .i64 0])
  have BZ := Hid.mk' (bAlloc (Below.refl w.heap.size w) (.cells #[.int .i64 0, .int .i64 0, .int .i64 0, .int .i64 0] 32))
  generalize hW1 : w.alloc (.cells #[.int .i64 0, .int .i64 0, .int .i64 0, .int .i64 0] 32) = W1 at *
  clear hW1
  obtain ⟨qz, hqz⟩ : ∃ q, q = w.heap.size := ⟨_, rfl⟩
  rw [← hqz] at HZ ⊢
  have HQZ := Hid.mk' hqz
  clear hqz
  have D1 := Hid.mk' (hW.out.keep BZ.out)
  obtain ⟨g, cap, rfl, x0, y0, y1, y2, y3, y4, y5, y6, y7, y8, y9, y10⟩ := D1.out.eleven HJ.out
  obtain ⟨k7, h7⟩ : ∃ k : Int, k = ((Tr.mk (some (c, l, ⟨ps, po, pl, pn⟩, r))).size : Nat) := ⟨_, rfl⟩
  obtain ⟨k8, h8⟩ : ∃ k : Int, k = (Tr.mk (some (c, l, ⟨ps, po, pl, pn⟩, r))).byt := ⟨_, rfl⟩
  obtain ⟨k9, h9⟩ : ∃ k : Int, k = (Tr.mk (some (c, l, ⟨ps, po, pl, pn⟩, r))).lin := ⟨_, rfl⟩
  obtain ⟨k10, h10⟩ : ∃ k : Int, k = ((Tr.mk (some (c, l, ⟨ps, po, pl, pn⟩, r))).bh : Nat) := ⟨_, rfl⟩
  rw [← h7] at y7
  rw [← h8] at y8
  rw [← h9] at y9
  rw [← h10] at y10
  clear h7 h8 h9 h10
  go_upto_region 2 with fail
  have HBK := Hid.mk' (Blk.new W1 118 #[.int .i64 ps, .int .i64 po, .int .i64 pl, .int .i64 pn, .bool c, .int .i64 li, .int .i64 ri, .int .i64 k7, .int .i64 k8, .int .i64 k9, .int .i64 k10])
  have BW := Hid.mk' (bAlloc (Below.refl W1.heap.size W1) (.cells #[.int .i64 ps, .int .i64 po, .int .i64 pl, .int .i64 pn, .bool c, .int .i64 li, .int .i64 ri, .int .i64 k7, .int .i64 k8, .int .i64 k9, .int .i64 k10] 118))
  generalize hW3 : W1.alloc (.cells #[.int .i64 ps, .int .i64 po, .int .i64 pl, .int .i64 pn, .bool c, .int .i64 li, .int .i64 ri, .int .i64 k7, .int .i64 k8, .int .i64 k9, .int .i64 k10] 118) = W3 at *
  clear hW3 y0 y1 y2 y3 y4 y5 y6 y7 y8 y9 y10 x0
  have D3 := Hid.mk' (D1.out.keep BW.out)
  have Z3 := Hid.mk' (HZ.out.keep BW.out)
  have B3 := Hid.mk' (bT BZ.out BW.out)
  obtain ⟨qb, hqb⟩ : ∃ q, q = W1.heap.size := ⟨_, rfl⟩
  rw [← hqb] at HBK ⊢
  clear hqb BW BZ HZ D1
  have s5 := HBK.out.cell (j := 5) (v := .int .i64 li) rfl
  have DZ := Hid.mk' (wsize_any l li base B _ N W3 hN.out D3 HL)
  have hkk : ¬ ((k : Int) < (l.size : Int)) := by have := hk.out; omega
  have hke : ((k : Int) == (l.size : Int)) = false := by rw [beq_eq_false_iff_ne]; have := hk.out; omega
  have DG := Hid.mk' (IH.out (k - l.size - 1) ri W3 (by have := hk.out; have := hk2.out; omega) D3.out HR.out)
  rw [show ((k - l.size - 1 : Nat) : Int) = (k : Int) - (l.size : Int) - 1 from by have := hk.out; omega] at DG
  have hw1 : IntKind.i64.wrap ((k : Int) - (l.size : Int)) = (k : Int) - (l.size : Int) := by rw [IntKind.wrap_i64]; have := hk2.out; omega
  have hw2 : IntKind.i64.wrap ((k : Int) - (l.size : Int) - 1) = (k : Int) - (l.size : Int) - 1 := by rw [IntKind.wrap_i64]; have := hk2.out; omega
  have hw3 : (k : Int) ≤ 1048576 := by have := hk2.out; omega
  have hw4 : (l.size : Int) ≤ 1048576 := by omega
  have hw5 : (0 : Int) ≤ (l.size : Int) := by omega
  have s6 := HBK.out.cell (j := 6) (v := .int .i64 ri) rfl
  go_wp2_with (go_at_call 90; refine DZ.out.mono ?_; rintro e w' ⟨rfl, rfl⟩)
  refine DG.out.mono ?_
  rintro e w5 ⟨s, o, n, m, hg, rfl, hb5⟩
  have HG := Hid.mk' hg
  have Z5 := Hid.mk' (Z3.out.keep hb5)
  have B5 := Hid.mk' (bT B3.out hb5)
  clear hg hb5 DG DZ
  obtain ⟨c0, c1, c2, c3⟩ := Z5.out.four
  have fz := Z5.out.frozen
  go_wp2
  refine bodyPost_ret (v := .agg #[.int .i64 s, .int .i64 o, .int .i64 n, .int .i64 m]) (by simp [results, Try.results91, go_sem, c0, c1, c2, c3]) rfl ⟨s, o, n, m, ?_, rfl, below_put4 B5.out (by have := HQZ.out; omega) _ _ _ _⟩
  simp only [Tr.list]
  rw [List.getElem?_append_right (by rw [Tr.size_list]; have := hk.out; omega), Tr.size_list, show k - l.size = (k - l.size - 1) + 1 from by have := hk.out; omega, List.getElem?_cons_succ]
  exact HG.out

theorem wget_any (base B : Nat) (v : Value) (N : List Nd) (hN : N.length ≤ 2097152) : ∀ (t : Tr), t.size ≤ 1048576 → Gtq base B v N t
  | (Tr.mk none), _ => fun k i w hk => by simp [Tr.size] at hk
  | (Tr.mk (some (c, l, ⟨ps, po, pl, pn⟩, r))), hz => by
    simp only [Tr.size] at hz
    have I1 := wget_any base B v N hN l (by omega)
    have I2 := wget_any base B v N hN r (by omega)
    intro k i w hk hW hi
    simp only [Tr.size] at hk
    rcases Nat.lt_trichotomy k l.size with h | h | h
    · exact wget_left base B c l r ps po pl pn k i w v N hN h hk hz hW hi I1
    · exact wget_here base B c l r ps po pl pn k i w v N hN h hk hz hW hi
    · exact wget_right base B c l r ps po pl pn k i w v N hN h hk hz hW hi I2
end Go.Proofs.Ytcaegdfbbjfgpaa
