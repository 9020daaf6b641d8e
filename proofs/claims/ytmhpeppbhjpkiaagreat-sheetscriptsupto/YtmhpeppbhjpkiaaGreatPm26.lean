/- The contract of the wood's right. -/
import Derived.Test.YtmhpeppbhjpkiaaGreatPm25
namespace Go.Proofs.YtmhpeppbhjpkiaaGreat
open Go.RowKit

theorem Mades.mono {w w' : World} {base B : Nat} {v : Value} {N : List Nd} {t : Tr} {c c' : Nat} {e : Ending} (h : Mades w base B v N t c e w') (hc : c ≤ c') : Mades w base B v N t c' e w' := by
  obtain ⟨i, v', M, h1, h2, h3, h4, h5⟩ := h
  exact ⟨i, v', M, h1, h2, h3, h4, by omega⟩
theorem jr_fit {p : Pc} {l r : Tr} (hp : p.fit) (hl : l.fits) (hr : r.fits) : (Tr.jr p r l).fits ∧ (Tr.jr p r l).size = l.size + 1 + r.size := by
  have e := Tr.jr_list p r l
  refine ⟨(Tr.fits_list _).2 ?_, ?_⟩
  · rw [e]
    intro q hq
    rcases List.mem_append.1 hq with h | h
    · exact (Tr.fits_list _).1 hl q h
    · rcases List.mem_cons.1 h with rfl | h
      · exact hp
      · exact (Tr.fits_list _).1 hr q h
  · rw [← Tr.size_list, e, List.length_append, List.length_cons, Tr.size_list, Tr.size_list]; omega

theorem wright_any (base B : Nat) (ps po pl pn : Int) (r : Tr) (ri : Int) (hp : Pc.fit ⟨ps, po, pl, pn⟩) (hrf : r.fits) (hr0 : r.bal) (hr1 : r.red = false) : ∀ (l : Tr) (li : Int) (v : Value) (N : List Nd) (w : World), N.length + 3 * (l.ht + 1) ≤ 2097152 → l.size + r.size + 1 ≤ 1048576 → l.fits → l.bal → r.bh ≤ l.bh → Wd w base B v N → Is N l li → Is N r ri → base ≤ w.heap.size →
    Calls Tryz.prog 99 #[.pointer (some ⟨B, 0, none⟩), .int .i64 li, .agg #[.int .i64 ps, .int .i64 po, .int .i64 pl, .int .i64 pn], .int .i64 ri] w fun e w' => Mades w base B v N (Tr.jr ⟨ps, po, pl, pn⟩ r l) (3 * (l.ht + 1)) e w'
  | (Tr.mk none), li, v, N, w, hz, hs, hf, hb, hbh, hw, hi, hri, hB => by
    rw [Tr.jr]
    exact (wright_base (Tr.mk none) r li ri ps po pl pn base B v N w (by omega) (by omega) hp hf hrf hw hi hri hB rfl (by simp only [Tr.bh] at *; omega)).mono fun e w' h => h.mono (by omega)
  | (Tr.mk (some (true, a, ⟨qs, qo, ql, qn⟩, b))), li, v, N, w, hz, hs, hf, hb, hbh, hw, hi, hri, hB => by
    have hbb : r.bh ≤ b.bh := by have := hb.2.2.1; simp only [Tr.bh, if_true] at hbh; omega
    have hht : b.ht + 1 ≤ (Tr.mk (some (true, a, ⟨qs, qo, ql, qn⟩, b))).ht := by simp only [Tr.ht]; omega
    have hss : a.size + 1 + b.size + r.size + 1 ≤ 1048576 := by simpa only [Tr.size] using hs
    have ih : ∀ bi, Is N b bi → Down base B v N bi ps po pl pn ri (Tr.jr ⟨ps, po, pl, pn⟩ r b) (3 * (b.ht + 1)) := fun bi hbi w2 hw2 hB2 =>
      wright_any base B ps po pl pn r ri hp hrf hr0 hr1 b bi v N w2 (by omega) (by omega) hf.2.2 hb.2.1 hbb hw2 hbi hri hB2
    obtain ⟨m1, m2⟩ := jr_fit hp hf.2.2 hrf
    rw [Tr.jr, if_neg (by simp), Tr.fixR_true]
    exact (wright_red a b _ qs qo ql qn li ri ps po pl pn (3 * (b.ht + 1)) base B v N w (by omega) (by omega) hf.2.1 hf.1 m1 hw hi hB ih).mono fun e w' h => h.mono (by omega)
  | (Tr.mk (some (false, a, ⟨qs, qo, ql, qn⟩, b))), li, v, N, w, hz, hs, hf, hb, hbh, hw, hi, hri, hB => by
    have hss : a.size + 1 + b.size + r.size + 1 ≤ 1048576 := by simpa only [Tr.size] using hs
    by_cases he : ((Tr.mk (some (false, a, ⟨qs, qo, ql, qn⟩, b)))).bh = r.bh
    · rw [Tr.jr, if_pos ⟨rfl, he⟩]
      exact (wright_base _ r li ri ps po pl pn base B v N w (by omega) (by omega) hp hf hrf hw hi hri hB rfl he).mono fun e w' h => h.mono (by omega)
    · have hbb : r.bh ≤ b.bh := by have := hb.2.2.1; simp [Tr.bh] at hbh he; omega
      have hht : b.ht + 1 ≤ (Tr.mk (some (false, a, ⟨qs, qo, ql, qn⟩, b))).ht := by simp only [Tr.ht]; omega
      have ih : ∀ bi, Is N b bi → Down base B v N bi ps po pl pn ri (Tr.jr ⟨ps, po, pl, pn⟩ r b) (3 * (b.ht + 1)) := fun bi hbi w2 hw2 hB2 =>
        wright_any base B ps po pl pn r ri hp hrf hr0 hr1 b bi v N w2 (by omega) (by omega) hf.2.2 hb.2.1 hbb hw2 hbi hri hB2
      obtain ⟨m1, m2⟩ := jr_fit hp hf.2.2 hrf
      have hne := ne_bh he
      have hz2 : N.length + 3 * (b.ht + 1) + 3 ≤ 2097152 := by omega
      rw [Tr.jr, if_neg (by simp [he])]
      generalize Tr.jr ⟨ps, po, pl, pn⟩ r b = m at ih m1 m2
      have hm3 : a.size + m.size ≤ 2097152 := by omega
      clear m2
      match m, ih, m1, hm3 with
      | (Tr.mk none), ih, m1, hm3 => exact (wright_flat a b r (Tr.mk none) qs qo ql qn li ri ps po pl pn _ base B v N w hz2 hm3 hf.2.1 hf.1 m1 hw hi hri hB hne rfl ih).mono fun e w' h => h.mono (by omega)
      | (Tr.mk (some (false, x, t, y))), ih, m1, hm3 =>
        have e : Tr.fixR false a ⟨qs, qo, ql, qn⟩ ((Tr.mk (some (false, x, t, y)))) = (Tr.mk (some (false, a, ⟨qs, qo, ql, qn⟩, ((Tr.mk (some (false, x, t, y))))))) := by cases y <;> rfl
        rw [e]
        exact (wright_flat a b r _ qs qo ql qn li ri ps po pl pn _ base B v N w hz2 hm3 hf.2.1 hf.1 m1 hw hi hri hB hne rfl ih).mono fun e w' h => h.mono (by omega)
      | (Tr.mk (some (true, x, ⟨ns, no, nl, nn⟩, (Tr.mk none)))), ih, m1, hm3 => exact (wright_calm a b r x (Tr.mk none) ns no nl nn qs qo ql qn li ri ps po pl pn _ base B v N w hz2 hm3 hf.2.1 hf.1 m1 hw hi hri hB hne rfl ih).mono fun e w' h => h.mono (by omega)
      | (Tr.mk (some (true, x, ⟨ns, no, nl, nn⟩, ((Tr.mk (some (false, y, u, z))))))), ih, m1, hm3 => exact (wright_calm a b r x _ ns no nl nn qs qo ql qn li ri ps po pl pn _ base B v N w hz2 hm3 hf.2.1 hf.1 m1 hw hi hri hB hne rfl ih).mono fun e w' h => h.mono (by omega)
      | (Tr.mk (some (true, x, ⟨ns, no, nl, nn⟩, ((Tr.mk (some (true, y, u, z))))))), ih, m1, hm3 => exact (wright_turn a b r x _ ns no nl nn qs qo ql qn li ri ps po pl pn _ base B v N w hz2 hm3 hf.2.1 hf.1 m1 hw hi hri hB hne rfl ih).mono fun e w' h => h.mono (by omega)
end Go.Proofs.YtmhpeppbhjpkiaaGreat

/- The contract of the wood's left: case by case. -/
namespace Go.Proofs.YtmhpeppbhjpkiaaGreat
open Go.RowKit

set_option maxRecDepth 100000 in
set_option maxHeartbeats 4000000 in
theorem wleft_base (l r : Tr) (li ri ps po pl pn : Int) (base B : Nat) (v : Value) (N : List Nd) (w : World) (hz : N.length ≤ 2097152) (hs : l.size + r.size ≤ 2097152) (hp : Hid (Pc.fit ⟨ps, po, pl, pn⟩)) (hl : Hid l.fits) (hr : Hid r.fits)
    (h : Hid (Wd w base B v N)) (h1 : Hid (Is N l li)) (h2 : Hid (Is N r ri)) (hB : base ≤ w.heap.size) (hred : r.red = false) (hbh : l.bh = r.bh) :
    Calls Tryz.prog 100 #[.pointer (some ⟨B, 0, none⟩), .int .i64 li, .agg #[.int .i64 ps, .int .i64 po, .int .i64 pl, .int .i64 pn], .int .i64 ri] w fun e w' => Mades w base B v N (Tr.mk (some (true, l, ⟨ps, po, pl, pn⟩, r))) 1 e w' := by
  have hk := Hid.mk' (h.out.keep (bAlloc (Below.refl w.heap.size w) (.cells #[.int .i64 ps, .int .i64 po, .int .i64 pl, .int .i64 pn] 59)))
  go_enter Tryz.func100, Tryz.ntmps100
  go_wp2_with (first | (go_at_call 125; refine (wred_any r ri base B v N _ hz hk h2).mono ?_; rw [hred]; rintro e w' ⟨rfl, rfl⟩)
                     | (go_at_call_of 97 (Value.int .i64 ri); refine (wbh_any r ri base B v N _ hz hk h2).mono ?_; rintro e w' ⟨rfl, rfl⟩)
                     | (go_at_call_of 97 (Value.int .i64 li); refine (wbh_any l li base B v N _ hz hk h1).mono ?_; rw [hbh]; rintro e w' ⟨rfl, rfl⟩)
                     | (go_at_call 98; refine (wadd_made l r li ri ⟨ps, po, pl, pn⟩ true base B v N _ hz hs hp.out hl.out hr.out hk.out h1.out h2.out (by simp; omega)).mono ?_; rintro e w9 ⟨i9, v9, M9, rfl, a1, a2, a3, a4⟩; have FIN := Hid.mk' (And.intro a1 (And.intro a2 (And.intro a3 a4))); clear a1 a2 a3 a4))
  go_ret
  exact ⟨i9, v9, M9, rfl, FIN.out.1, FIN.out.2.1, (Grw.below (bAlloc (Below.refl _ _) _)).trans FIN.out.2.2.1, FIN.out.2.2.2⟩

/-- what the call further down gives, in whatever world -/
def DownL (base B : Nat) (v : Value) (N : List Nd) (li : Int) (ps po pl pn : Int) (ai : Int) (m : Tr) (cost : Nat) : Prop :=
  ∀ w2 : World, Wd w2 base B v N → base ≤ w2.heap.size → Calls Tryz.prog 100 #[.pointer (some ⟨B, 0, none⟩), .int .i64 li, .agg #[.int .i64 ps, .int .i64 po, .int .i64 pl, .int .i64 pn], .int .i64 ai] w2 fun e w' => Mades w2 base B v N m cost e w'

set_option maxRecDepth 100000 in
set_option maxHeartbeats 4000000 in
/-- r is red -/
theorem wleft_red (a b m : Tr) (qs qo ql qn : Int) (li ri ps po pl pn : Int) (cost base B : Nat) (v : Value) (N : List Nd) (w : World) (hz : N.length + cost ≤ 2097152) (hs : m.size + b.size ≤ 2097152) (hq : Hid (Pc.fit ⟨qs, qo, ql, qn⟩)) (ha : Hid b.fits) (hm : Hid m.fits)
    (h : Hid (Wd w base B v N)) (h1 : Hid (Is N (Tr.mk (some (true, a, ⟨qs, qo, ql, qn⟩, b))) ri)) (hB : base ≤ w.heap.size)
    (ih : Hid (∀ ai, Is N a ai → DownL base B v N li ps po pl pn ai m cost)) :
    Calls Tryz.prog 100 #[.pointer (some ⟨B, 0, none⟩), .int .i64 li, .agg #[.int .i64 ps, .int .i64 po, .int .i64 pl, .int .i64 pn], .int .i64 ri] w fun e w' => Mades w base B v N (Tr.mk (some (true, m, ⟨qs, qo, ql, qn⟩, b))) (cost + 1) e w' := by
  obtain ⟨j, g, cap, ai, bi, k7, k8, k9, k10, e, hj, hv, hai, hbi, y0, y1, y2, y3, y4, y5, y6, y7, y8, y9, y10⟩ := h.out.root h1.out
  subst e hv
  have x0 := h.out.cell1
  have j0 : (0 : Int) ≤ (j : Int) := by omega
  have j1 : (j : Int) < (N.length : Int) := by omega
  have HA := Hid.mk' hbi
  have HD := Hid.mk' (ih.out ai hai)
  have hk := Hid.mk' (h.out.keep (bAlloc (Below.refl w.heap.size w) (.cells #[.int .i64 ps, .int .i64 po, .int .i64 pl, .int .i64 pn] 59)))
  have hlB : B < w.heap.size := h.out.blk.lt
  have hlg : g < w.heap.size := (h.out.own.lt g rfl).2
  clear hai hbi ih
  go_enter Tryz.func100, Tryz.ntmps100
  go_wp2_with (first | (go_at_call 125; refine (wred_any _ _ base B _ N _ (by omega) hk h1).mono ?_; rintro e w' ⟨rfl, rfl⟩; rw [show (Tr.mk (some (true, a, ⟨qs, qo, ql, qn⟩, b))).red = true from rfl])
                     | (go_at_call 100; refine (HD.out _ (hk.out.keep (bAlloc (Below.refl _ _) _)) (by simp; omega)).mono ?_; rintro e w3 ⟨mi, v3, M3, rfl, a1, a2, a3, a4⟩; (obtain ⟨z0, z1, z2, z3, z4, z5, z6, z7, z8, z9, z10⟩ := local9 hlB hlg a3); (have H3 : Hid (Wd w3 base B v3 (N ++ M3) ∧ Is (N ++ M3) m mi ∧ Grw w w3 B _ v3 ∧ M3.length ≤ cost ∧ (N ++ M3).length ≤ 2097152 ∧ base ≤ w3.heap.size) := ⟨a1, a2, (Grw.below (bAlloc (bAlloc (Below.refl _ _) _) _)).trans a3, a4, by rw [List.length_append]; omega, by have := a3.size; simp at this; omega⟩); clear a1 a2 a3 a4)
                     | (go_at_call 98; refine (wadd_made m b mi bi ⟨qs, qo, ql, qn⟩ true base B v3 (N ++ M3) _ H3.out.2.2.2.2.1 hs hq.out hm.out ha.out H3.out.1 H3.out.2.1 (HA.out.more _) H3.out.2.2.2.2.2).mono ?_; rintro e w9 ⟨i9, v9, M9, rfl, a1, a2, a3, a4⟩; have FIN := Hid.mk' (And.intro a1 (And.intro a2 (And.intro a3 a4))); clear a1 a2 a3 a4))
  go_ret
  exact made_two H3.out.2.2.1 H3.out.2.2.2.1 FIN.out.1 FIN.out.2.1 FIN.out.2.2.1 FIN.out.2.2.2
end Go.Proofs.YtmhpeppbhjpkiaaGreat

/- The contract of the wood's left: r is black, and higher. -/
namespace Go.Proofs.YtmhpeppbhjpkiaaGreat
open Go.RowKit

set_option maxRecDepth 100000 in
set_option maxHeartbeats 4000000 in
theorem wleft_flat (a b l m : Tr) (qs qo ql qn : Int) (li ri ps po pl pn : Int) (cost base B : Nat) (v : Value) (N : List Nd) (w : World) (hz : N.length + cost + 3 ≤ 2097152) (hs : m.size + b.size ≤ 2097152) (hq : Hid (Pc.fit ⟨qs, qo, ql, qn⟩)) (ha : Hid b.fits) (hm : Hid (m).fits)
    (h : Hid (Wd w base B v N)) (h1 : Hid (Is N (Tr.mk (some (false, a, ⟨qs, qo, ql, qn⟩, b))) ri)) (h2 : Hid (Is N l li)) (hB : base ≤ w.heap.size) (hne : ((l.bh : Int) == ((Tr.mk (some (false, a, ⟨qs, qo, ql, qn⟩, b))).bh : Int)) = false) (hmr : m.red = false)
    (ih : Hid (∀ ai, Is N a ai → DownL base B v N li ps po pl pn ai (m) cost)) :
    Calls Tryz.prog 100 #[.pointer (some ⟨B, 0, none⟩), .int .i64 li, .agg #[.int .i64 ps, .int .i64 po, .int .i64 pl, .int .i64 pn], .int .i64 ri] w fun e w' => Mades w base B v N (Tr.mk (some (false, m, ⟨qs, qo, ql, qn⟩, b))) (cost + 1) e w' := by
  obtain ⟨j, g, cap, ai, bi, k7, k8, k9, k10, e, hj, hv, hai, hbi, y0, y1, y2, y3, y4, y5, y6, y7, y8, y9, y10⟩ := h.out.root h1.out
  subst e hv
  have x0 := h.out.cell1
  have j0 : (0 : Int) ≤ (j : Int) := by omega
  have j1 : (j : Int) < (N.length : Int) := by omega
  have HA := Hid.mk' hbi
  have HD := Hid.mk' (ih.out ai hai)
  have hk := Hid.mk' (h.out.keep (bAlloc (Below.refl w.heap.size w) (.cells #[.int .i64 ps, .int .i64 po, .int .i64 pl, .int .i64 pn] 59)))
  have hlB : B < w.heap.size := h.out.blk.lt
  have hlg : g < w.heap.size := (h.out.own.lt g rfl).2
  clear hai hbi ih
  generalize hBH : ((Tr.mk (some (false, a, ⟨qs, qo, ql, qn⟩, b))).bh : Int) = BH at *
  have HBH := Hid.mk' hBH
  clear hBH
  go_enter Tryz.func100, Tryz.ntmps100
  go_wp2_with (first | (go_at_call_of 125 (Value.int .i64 (j : Int)); refine (wred_any _ _ base B _ N _ (by omega) hk h1).mono ?_; rintro e w' ⟨rfl, rfl⟩; rw [show (Tr.mk (some (false, a, ⟨qs, qo, ql, qn⟩, b))).red = false from rfl])
                     | (go_at_call_of 97 (Value.int .i64 li); refine (wbh_any l li base B _ N _ (by omega) hk h2).mono ?_; rintro e w' ⟨rfl, rfl⟩)
                     | (go_at_call_of 97 (Value.int .i64 (j : Int)); (have Q := wbh_any _ _ base B _ N _ (by omega) hk h1); rw [HBH.out] at Q; refine Q.mono ?_; clear Q; rintro e w' ⟨rfl, rfl⟩)
                     | (go_at_call 100; refine (HD.out _ (hk.out.keep (bAlloc (Below.refl _ _) _)) (by simp; omega)).mono ?_; rintro e w3 ⟨mi, v3, M3, rfl, a1, a2, a3, a4⟩; (obtain ⟨z0, z1, z2, z3, z4, z5, z6, z7, z8, z9, z10⟩ := local9 hlB hlg a3); (have H3 : Hid (Wd w3 base B v3 (N ++ M3) ∧ Is (N ++ M3) (m) mi ∧ Grw w w3 B _ v3 ∧ M3.length ≤ cost ∧ (N ++ M3).length + 3 ≤ 2097152 ∧ base ≤ w3.heap.size) := ⟨a1, a2, (Grw.below (bAlloc (bAlloc (Below.refl _ _) _) _)).trans a3, a4, by rw [List.length_append]; omega, by have := a3.size; simp at this; omega⟩); clear a1 a2 a3 a4)
                     | (go_at_call_of 125 (Value.int .i64 mi); refine (wred_any m mi base B v3 (N ++ M3) _ (by have := H3.out.2.2.2.2.1; omega) H3.out.1 H3.out.2.1).mono ?_; rw [hmr]; rintro e w' ⟨rfl, rfl⟩)
                     | (go_at_call 98; refine (wadd_made m b mi bi ⟨qs, qo, ql, qn⟩ false base B v3 (N ++ M3) _ (by have := H3.out.2.2.2.2.1; omega) hs hq.out hm.out ha.out H3.out.1 H3.out.2.1 (HA.out.more _) H3.out.2.2.2.2.2).mono ?_; rintro e w9 ⟨i9, v9, M9, rfl, a1, a2, a3, a4⟩; have FIN := Hid.mk' (And.intro a1 (And.intro a2 (And.intro a3 a4))); clear a1 a2 a3 a4))
  go_ret
  exact made_two H3.out.2.2.1 H3.out.2.2.2.1 FIN.out.1 FIN.out.2.1 FIN.out.2.2.1 FIN.out.2.2.2

set_option maxRecDepth 100000 in
set_option maxHeartbeats 4000000 in
theorem wleft_calm (a b l x y : Tr) (ns no nl nn qs qo ql qn : Int) (li ri ps po pl pn : Int) (cost base B : Nat) (v : Value) (N : List Nd) (w : World) (hz : N.length + cost + 3 ≤ 2097152) (hs : (Tr.mk (some (true, x, ⟨ns, no, nl, nn⟩, y))).size + b.size ≤ 2097152) (hq : Hid (Pc.fit ⟨qs, qo, ql, qn⟩)) (ha : Hid b.fits) (hm : Hid (Tr.mk (some (true, x, ⟨ns, no, nl, nn⟩, y))).fits)
    (h : Hid (Wd w base B v N)) (h1 : Hid (Is N (Tr.mk (some (false, a, ⟨qs, qo, ql, qn⟩, b))) ri)) (h2 : Hid (Is N l li)) (hB : base ≤ w.heap.size) (hne : ((l.bh : Int) == ((Tr.mk (some (false, a, ⟨qs, qo, ql, qn⟩, b))).bh : Int)) = false) (hyr : x.red = false)
    (ih : Hid (∀ ai, Is N a ai → DownL base B v N li ps po pl pn ai (Tr.mk (some (true, x, ⟨ns, no, nl, nn⟩, y))) cost)) :
    Calls Tryz.prog 100 #[.pointer (some ⟨B, 0, none⟩), .int .i64 li, .agg #[.int .i64 ps, .int .i64 po, .int .i64 pl, .int .i64 pn], .int .i64 ri] w fun e w' => Mades w base B v N (Tr.mk (some (false, Tr.mk (some (true, x, ⟨ns, no, nl, nn⟩, y)), ⟨qs, qo, ql, qn⟩, b))) (cost + 1) e w' := by
  obtain ⟨j, g, cap, ai, bi, k7, k8, k9, k10, e, hj, hv, hai, hbi, y0, y1, y2, y3, y4, y5, y6, y7, y8, y9, y10⟩ := h.out.root h1.out
  subst e hv
  have x0 := h.out.cell1
  have j0 : (0 : Int) ≤ (j : Int) := by omega
  have j1 : (j : Int) < (N.length : Int) := by omega
  have HA := Hid.mk' hbi
  have HD := Hid.mk' (ih.out ai hai)
  have hk := Hid.mk' (h.out.keep (bAlloc (Below.refl w.heap.size w) (.cells #[.int .i64 ps, .int .i64 po, .int .i64 pl, .int .i64 pn] 59)))
  have hlB : B < w.heap.size := h.out.blk.lt
  have hlg : g < w.heap.size := (h.out.own.lt g rfl).2
  clear hai hbi ih
  generalize hBH : ((Tr.mk (some (false, a, ⟨qs, qo, ql, qn⟩, b))).bh : Int) = BH at *
  have HBH := Hid.mk' hBH
  clear hBH
  go_enter Tryz.func100, Tryz.ntmps100
  go_wp2_with (first | (go_at_call_of 125 (Value.int .i64 (j : Int)); refine (wred_any _ _ base B _ N _ (by omega) hk h1).mono ?_; rintro e w' ⟨rfl, rfl⟩; rw [show (Tr.mk (some (false, a, ⟨qs, qo, ql, qn⟩, b))).red = false from rfl])
                     | (go_at_call_of 97 (Value.int .i64 li); refine (wbh_any l li base B _ N _ (by omega) hk h2).mono ?_; rintro e w' ⟨rfl, rfl⟩)
                     | (go_at_call_of 97 (Value.int .i64 (j : Int)); (have Q := wbh_any _ _ base B _ N _ (by omega) hk h1); rw [HBH.out] at Q; refine Q.mono ?_; clear Q; rintro e w' ⟨rfl, rfl⟩)
                     | (go_at_call 100; refine (HD.out _ (hk.out.keep (bAlloc (Below.refl _ _) _)) (by simp; omega)).mono ?_; rintro e w3 ⟨mi, v3, M3, rfl, a1, a2, a3, a4⟩; (obtain ⟨N3, hN3⟩ : ∃ N3, N3 = N ++ M3 := ⟨_, rfl⟩); (rw [← hN3] at a1 a2); (have HN3 := Hid.mk' hN3); clear hN3; (obtain ⟨z0, z1, z2, z3, z4, z5, z6, z7, z8, z9, z10⟩ := local9 hlB hlg a3); (obtain ⟨jm, gm, capm, xi, yi, e7, e8, e9, e10, em, hjm, hvm, hxi, hyi, s0, s1, s2, s3, s4, s5, s6, s7, s8, s9, s10⟩ := a1.root a2); (subst em hvm); (have xm := a1.cell1); (have jm0 : (0 : Int) ≤ (jm : Int) := by omega); (have jm1 : (jm : Int) < (N3.length : Int) := by omega); (have HX := Hid.mk' (And.intro hxi hyi)); (have H3 : Hid (Wd w3 base B (.slice (some ⟨gm, 0, none⟩) N3.length capm) N3 ∧ Is N3 (Tr.mk (some (true, x, ⟨ns, no, nl, nn⟩, y))) (jm : Int) ∧ Grw w w3 B _ (.slice (some ⟨gm, 0, none⟩) N3.length capm) ∧ M3.length ≤ cost ∧ N3.length + 3 ≤ 2097152 ∧ base ≤ w3.heap.size) := ⟨a1, a2, (Grw.below (bAlloc (bAlloc (Below.refl _ _) _) _)).trans a3, a4, by rw [HN3.out, List.length_append]; omega, by have := a3.size; simp at this; omega⟩); clear a1 a2 a3 a4)
                     | (go_at_call_of 125 (Value.int .i64 (jm : Int)); refine (wred_any (Tr.mk (some (true, x, ⟨ns, no, nl, nn⟩, y))) _ base B _ N3 _ (by have := H3.out.2.2.2.2.1; omega) H3.out.1 H3.out.2.1).mono ?_; rintro e w' ⟨rfl, rfl⟩; rw [show (Tr.mk (some (true, x, ⟨ns, no, nl, nn⟩, y))).red = true from rfl])
                     | (go_at_call_of 125 (Value.int .i64 xi); refine (wred_any x xi base B _ N3 _ (by have := H3.out.2.2.2.2.1; omega) H3.out.1 HX.out.1).mono ?_; rw [hyr]; rintro e w' ⟨rfl, rfl⟩)
                     | (go_at_call 98; refine (wadd_made (Tr.mk (some (true, x, ⟨ns, no, nl, nn⟩, y))) b (jm : Int) bi ⟨qs, qo, ql, qn⟩ false base B (.slice (some ⟨gm, 0, none⟩) N3.length capm) N3 _ (by have := H3.out.2.2.2.2.1; omega) hs hq.out hm.out ha.out H3.out.1 H3.out.2.1 (by rw [HN3.out]; exact HA.out.more _) H3.out.2.2.2.2.2).mono ?_; rintro e w9 ⟨i9, v9, M9, rfl, a1, a2, a3, a4⟩; have FIN := Hid.mk' (And.intro a1 (And.intro a2 (And.intro a3 a4))); clear a1 a2 a3 a4))
  go_ret
  have hN := HN3.out
  subst hN
  exact made_two H3.out.2.2.1 H3.out.2.2.2.1 FIN.out.1 FIN.out.2.1 FIN.out.2.2.1 FIN.out.2.2.2
end Go.Proofs.YtmhpeppbhjpkiaaGreat

/- The contract of the wood's left: two reds one below the other. -/
namespace Go.Proofs.YtmhpeppbhjpkiaaGreat
open Go.RowKit

set_option maxRecDepth 100000 in
set_option maxHeartbeats 4000000 in
theorem wleft_turn (a b l x y : Tr) (ns no nl nn qs qo ql qn : Int) (li ri ps po pl pn : Int) (cost base B : Nat) (v : Value) (N : List Nd) (w : World) (hz : N.length + cost + 3 ≤ 2097152) (hs : (Tr.mk (some (true, x, ⟨ns, no, nl, nn⟩, y))).size + b.size ≤ 2097152) (hq : Hid (Pc.fit ⟨qs, qo, ql, qn⟩)) (ha : Hid b.fits) (hm : Hid (Tr.mk (some (true, x, ⟨ns, no, nl, nn⟩, y))).fits)
    (h : Hid (Wd w base B v N)) (h1 : Hid (Is N (Tr.mk (some (false, a, ⟨qs, qo, ql, qn⟩, b))) ri)) (h2 : Hid (Is N l li)) (hB : base ≤ w.heap.size) (hne : ((l.bh : Int) == ((Tr.mk (some (false, a, ⟨qs, qo, ql, qn⟩, b))).bh : Int)) = false) (hyr : x.red = true)
    (ih : Hid (∀ ai, Is N a ai → DownL base B v N li ps po pl pn ai (Tr.mk (some (true, x, ⟨ns, no, nl, nn⟩, y))) cost)) :
    Calls Tryz.prog 100 #[.pointer (some ⟨B, 0, none⟩), .int .i64 li, .agg #[.int .i64 ps, .int .i64 po, .int .i64 pl, .int .i64 pn], .int .i64 ri] w fun e w' => Mades w base B v N (Tr.mk (some (true, x.blk, ⟨ns, no, nl, nn⟩, Tr.mk (some (false, y, ⟨qs, qo, ql, qn⟩, b))))) (cost + 3) e w' := by
  obtain ⟨j, g, cap, ai, bi, k7, k8, k9, k10, e, hj, hv, hai, hbi, y0, y1, y2, y3, y4, y5, y6, y7, y8, y9, y10⟩ := h.out.root h1.out
  subst e hv
  have x0 := h.out.cell1
  have j0 : (0 : Int) ≤ (j : Int) := by omega
  have j1 : (j : Int) < (N.length : Int) := by omega
  have HA := Hid.mk' hbi
  have HD := Hid.mk' (ih.out ai hai)
  have hk := Hid.mk' (h.out.keep (bAlloc (Below.refl w.heap.size w) (.cells #[.int .i64 ps, .int .i64 po, .int .i64 pl, .int .i64 pn] 59)))
  have hlB : B < w.heap.size := h.out.blk.lt
  have hlg : g < w.heap.size := (h.out.own.lt g rfl).2
  clear hai hbi ih
  generalize hBH : ((Tr.mk (some (false, a, ⟨qs, qo, ql, qn⟩, b))).bh : Int) = BH at *
  have HBH := Hid.mk' hBH
  clear hBH
  have hsz : y.size + b.size ≤ 2097152 ∧ x.size ≤ 2097152 ∧ x.blk.size + (Tr.mk (some (false, y, ⟨qs, qo, ql, qn⟩, b))).size ≤ 2097152 := by rw [blk_size']; simp only [Tr.size] at hs ⊢; omega
  go_enter Tryz.func100, Tryz.ntmps100
  go_wp2_with (first | (go_at_call_of 125 (Value.int .i64 (j : Int)); refine (wred_any _ _ base B _ N _ (by omega) hk h1).mono ?_; rintro e w' ⟨rfl, rfl⟩; rw [show (Tr.mk (some (false, a, ⟨qs, qo, ql, qn⟩, b))).red = false from rfl])
                     | (go_at_call_of 97 (Value.int .i64 li); refine (wbh_any l li base B _ N _ (by omega) hk h2).mono ?_; rintro e w' ⟨rfl, rfl⟩)
                     | (go_at_call_of 97 (Value.int .i64 (j : Int)); (have Q := wbh_any _ _ base B _ N _ (by omega) hk h1); rw [HBH.out] at Q; refine Q.mono ?_; clear Q; rintro e w' ⟨rfl, rfl⟩)
                     | (go_at_call 100; refine (HD.out _ (hk.out.keep (bAlloc (Below.refl _ _) _)) (by simp; omega)).mono ?_; rintro e w3 ⟨mi, v3, M3, rfl, a1, a2, a3, a4⟩; (obtain ⟨N3, hN3⟩ : ∃ N3, N3 = N ++ M3 := ⟨_, rfl⟩); (rw [← hN3] at a1 a2); (have HN3 := Hid.mk' hN3); clear hN3; (obtain ⟨z0, z1, z2, z3, z4, z5, z6, z7, z8, z9, z10⟩ := local9 hlB hlg a3); (obtain ⟨jm, gm, capm, xi, yi, e7, e8, e9, e10, em, hjm, hvm, hxi, hyi, s0, s1, s2, s3, s4, s5, s6, s7, s8, s9, s10⟩ := a1.root a2); (subst em hvm); (have xm := a1.cell1); (have jm0 : (0 : Int) ≤ (jm : Int) := by omega); (have jm1 : (jm : Int) < (N3.length : Int) := by omega); (have HX := Hid.mk' (And.intro hxi hyi)); (have HL3 : Hid (Blk w3 (w.heap.size + 1) 151 (ndA qs qo ql qn false ai bi k7 k8 k9 k10) ∧ (Value.slice (some ⟨gm, 0, none⟩) N3.length capm).ownBlock ≠ some (w.heap.size + 1)) := ⟨a3.blk (blk2 w _ 151 _) (by omega) (by simp [Value.ownBlock]; omega), a3.own_ne (by simp) (by simp [Value.ownBlock]; omega)⟩); (have hl9 : w.heap.size + 1 < w3.heap.size := by (have := a3.size; simp at this; omega)); (have H3 : Hid (Wd w3 base B (.slice (some ⟨gm, 0, none⟩) N3.length capm) N3 ∧ Is N3 (Tr.mk (some (true, x, ⟨ns, no, nl, nn⟩, y))) (jm : Int) ∧ Grw w w3 B _ (.slice (some ⟨gm, 0, none⟩) N3.length capm) ∧ M3.length ≤ cost ∧ N3.length + 3 ≤ 2097152 ∧ base ≤ w3.heap.size) := ⟨a1, a2, (Grw.below (bAlloc (bAlloc (Below.refl _ _) _) _)).trans a3, a4, by rw [HN3.out, List.length_append]; omega, by have := a3.size; simp at this; omega⟩); clear a1 a2 a3 a4)
                     | (go_at_call_of 125 (Value.int .i64 (jm : Int)); refine (wred_any (Tr.mk (some (true, x, ⟨ns, no, nl, nn⟩, y))) _ base B _ N3 _ (by have := H3.out.2.2.2.2.1; omega) H3.out.1 H3.out.2.1).mono ?_; rintro e w' ⟨rfl, hw⟩; (have hw2 := hw.symm); subst hw2; clear hw; rw [show (Tr.mk (some (true, x, ⟨ns, no, nl, nn⟩, y))).red = true from rfl])
                     | (go_at_call_of 125 (Value.int .i64 xi); refine (wred_any x xi base B _ N3 _ (by have := H3.out.2.2.2.2.1; omega) H3.out.1 HX.out.1).mono ?_; rw [hyr]; rintro e w' ⟨rfl, hw⟩; (have hw2 := hw.symm); subst hw2; clear hw)
                     | (go_at_call 101; refine (wblack_any x xi base B _ N3 _ (by have := H3.out.2.2.2.2.1; omega) hsz.2.1 hm.out.1 (H3.out.1.keep (bAlloc (Below.refl _ _) _)) HX.out.1 (by have := H3.out.2.2.2.2.2; simp; omega)).mono ?_; rintro e w5 ⟨i5, v5, M5, rfl, a1, a2, a3, a4⟩; (have hl3 : gm < w3.heap.size := (H3.out.1.own.lt gm rfl).2); (have hl4 : B < w3.heap.size := H3.out.1.blk.lt); (have b5 : Blk w5 w3.heap.size 151 (ndA ns no nl nn true xi yi e7 e8 e9 e10) := a3.blk (Blk.new w3 151 _) (by omega) (by simp [Value.ownBlock]; omega)); (have n5 : v5.ownBlock ≠ some w3.heap.size := a3.own_ne (by simp) (by simp [Value.ownBlock]; omega)); (have l5 : Blk w5 (w.heap.size + 1) 151 (ndA qs qo ql qn false ai bi k7 k8 k9 k10) := a3.blk (HL3.out.1.alloc _) (by omega) (fun e => HL3.out.2 e.symm)); (obtain ⟨r0, r1, r2, r3, r4, r5, r6, r7, r8, r9, r10⟩ := ndA_cells b5); (obtain ⟨p0, p1, p2, p3, p4, p5, p6, p7, p8, p9, p10⟩ := ndA_cells l5); (have H5 : Hid (Wd w5 base B v5 (N3 ++ M5) ∧ Is (N3 ++ M5) x.blk i5 ∧ Grw w w5 B _ v5 ∧ M5.length ≤ 1 ∧ base ≤ w5.heap.size ∧ Blk w5 w3.heap.size 151 (ndA ns no nl nn true xi yi e7 e8 e9 e10) ∧ v5.ownBlock ≠ some w3.heap.size ∧ ¬ w3.heap.size = B) := ⟨a1, a2, H3.out.2.2.1.trans ((Grw.below (bAlloc (Below.refl _ _) _)).trans a3), a4, by have := a3.size; simp at this; have := H3.out.2.2.2.2.2; omega, b5, n5, by omega⟩); clear a1 a2 a3 a4 b5 n5 hl3 hl4 l5)
                     | (go_at_call_of 98 (Value.int .i64 bi); refine (wadd_made y b yi bi ⟨qs, qo, ql, qn⟩ false base B v5 (N3 ++ M5) _ (by have := H3.out.2.2.2.2.1; have := H5.out.2.2.2.1; rw [List.length_append]; omega) hsz.1 hq.out hm.out.2.2 ha.out H5.out.1 (HX.out.2.more _) (by rw [HN3.out, List.append_assoc]; exact HA.out.more _) H5.out.2.2.2.2.1).mono ?_; rintro e w6 ⟨i6, v6, M6, rfl, a1, a2, a3, a4⟩; (obtain ⟨t0, t1, t2, t3, t4, t5, t6, t7, t8, t9, t10⟩ := ndA_cells (a3.blk H5.out.2.2.2.2.2.1 H5.out.2.2.2.2.2.2.2 (fun e => H5.out.2.2.2.2.2.2.1 e.symm))); (have H6 : Hid (Wd w6 base B v6 (N3 ++ M5 ++ M6) ∧ Is (N3 ++ M5 ++ M6) (Tr.mk (some (false, y, ⟨qs, qo, ql, qn⟩, b))) i6 ∧ Grw w w6 B _ v6 ∧ M6.length ≤ 1 ∧ base ≤ w6.heap.size) := ⟨a1, a2, H5.out.2.2.1.trans a3, a4, by have := a3.size; have := H5.out.2.2.2.2.1; omega⟩); clear a1 a2 a3 a4)
                     | (go_at_call 98; refine (wadd_made x.blk (Tr.mk (some (false, y, ⟨qs, qo, ql, qn⟩, b))) i5 i6 ⟨ns, no, nl, nn⟩ true base B v6 (N3 ++ M5 ++ M6) _ (by have := H3.out.2.2.2.2.1; have := H5.out.2.2.2.1; have := H6.out.2.2.2.1; rw [List.length_append, List.length_append]; omega) hsz.2.2 hm.out.2.1 (blk_fits' hm.out.1) ⟨hm.out.2.2, hq.out, ha.out⟩ H6.out.1 (H5.out.2.1.more _) H6.out.2.1 H6.out.2.2.2.2).mono ?_; rintro e w9 ⟨i9, v9, M9, rfl, a1, a2, a3, a4⟩; have FIN := Hid.mk' (And.intro a1 (And.intro a2 (And.intro a3 a4))); clear a1 a2 a3 a4))
  go_ret
  have hN := HN3.out
  subst hN
  have l5 := H5.out.2.2.2.1
  have l6 := H6.out.2.2.2.1
  have l3 := H3.out.2.2.2.1
  exact ⟨i9, v9, M3 ++ (M5 ++ (M6 ++ M9)), rfl, by simpa [List.append_assoc] using FIN.out.1, by simpa [List.append_assoc] using FIN.out.2.1, H6.out.2.2.1.trans FIN.out.2.2.1, by have := FIN.out.2.2.2; simp only [List.length_append]; omega⟩
end Go.Proofs.YtmhpeppbhjpkiaaGreat

