/- The contract of the wood's left. -/
import Derived.Test.YtmhpeppbhjpkiaaGreatPm26
import Derived.Test.YtmhpeppbhjpkiaaGreatPm04
import Derived.Deep.CutRange
namespace Go.Proofs.YtmhpeppbhjpkiaaGreat
open Go.RowKit

theorem jl_fit {p : Pc} {l r : Tr} (hp : p.fit) (hl : l.fits) (hr : r.fits) : (Tr.jl l p r).fits ∧ (Tr.jl l p r).size = l.size + 1 + r.size := by
  have e := Tr.jl_list l p r
  refine ⟨(Tr.fits_list _).2 ?_, ?_⟩
  · rw [e]
    intro q hq
    rcases List.mem_append.1 hq with h | h
    · exact (Tr.fits_list _).1 hl q h
    · rcases List.mem_cons.1 h with rfl | h
      · exact hp
      · exact (Tr.fits_list _).1 hr q h
  · rw [← Tr.size_list, e, List.length_append, List.length_cons, Tr.size_list, Tr.size_list]; omega

theorem wleft_any (base B : Nat) (ps po pl pn : Int) (l : Tr) (li : Int) (hp : Pc.fit ⟨ps, po, pl, pn⟩) (hlf : l.fits) (hl0 : l.bal) (hl1 : l.red = false) : ∀ (r : Tr) (ri : Int) (v : Value) (N : List Nd) (w : World), N.length + 3 * (r.ht + 1) ≤ 2097152 → l.size + r.size + 1 ≤ 1048576 → r.fits → r.bal → l.bh ≤ r.bh → Wd w base B v N → Is N l li → Is N r ri → base ≤ w.heap.size →
    Calls Tryz.prog 100 #[.pointer (some ⟨B, 0, none⟩), .int .i64 li, .agg #[.int .i64 ps, .int .i64 po, .int .i64 pl, .int .i64 pn], .int .i64 ri] w fun e w' => Mades w base B v N (Tr.jl l ⟨ps, po, pl, pn⟩ r) (3 * (r.ht + 1)) e w'
  | (Tr.mk none), ri, v, N, w, hz, hs, hf, hb, hbh, hw, hi, hri, hB => by
    rw [Tr.jl]
    exact (wleft_base l (Tr.mk none) li ri ps po pl pn base B v N w (by omega) (by omega) hp hlf hf hw hi hri hB rfl (by simp only [Tr.bh] at *; omega)).mono fun e w' h => h.mono (by omega)
  | (Tr.mk (some (true, a, ⟨qs, qo, ql, qn⟩, b))), ri, v, N, w, hz, hs, hf, hb, hbh, hw, hi, hri, hB => by
    have hbb : l.bh ≤ a.bh := by simp only [Tr.bh, if_true] at hbh; omega
    have hht : a.ht + 1 ≤ (Tr.mk (some (true, a, ⟨qs, qo, ql, qn⟩, b))).ht := by simp only [Tr.ht]; omega
    have hss : l.size + (a.size + 1 + b.size) + 1 ≤ 1048576 := by simpa only [Tr.size] using hs
    have ih : ∀ ai, Is N a ai → DownL base B v N li ps po pl pn ai (Tr.jl l ⟨ps, po, pl, pn⟩ a) (3 * (a.ht + 1)) := fun ai hai w2 hw2 hB2 =>
      wleft_any base B ps po pl pn l li hp hlf hl0 hl1 a ai v N w2 (by omega) (by omega) hf.1 hb.1 hbb hw2 hi hai hB2
    obtain ⟨m1, m2⟩ := jl_fit hp hlf hf.1
    rw [Tr.jl, if_neg (by simp), Tr.fixL_true]
    exact (wleft_red a b _ qs qo ql qn li ri ps po pl pn (3 * (a.ht + 1)) base B v N w (by omega) (by omega) hf.2.1 hf.2.2 m1 hw hri hB ih).mono fun e w' h => h.mono (by omega)
  | (Tr.mk (some (false, a, ⟨qs, qo, ql, qn⟩, b))), ri, v, N, w, hz, hs, hf, hb, hbh, hw, hi, hri, hB => by
    have hss : l.size + (a.size + 1 + b.size) + 1 ≤ 1048576 := by simpa only [Tr.size] using hs
    by_cases he : l.bh = ((Tr.mk (some (false, a, ⟨qs, qo, ql, qn⟩, b)))).bh
    · rw [Tr.jl, if_pos ⟨rfl, he⟩]
      exact (wleft_base l _ li ri ps po pl pn base B v N w (by omega) (by omega) hp hlf hf hw hi hri hB rfl he).mono fun e w' h => h.mono (by omega)
    · have hbb : l.bh ≤ a.bh := by simp [Tr.bh] at hbh he; omega
      have hht : a.ht + 1 ≤ (Tr.mk (some (false, a, ⟨qs, qo, ql, qn⟩, b))).ht := by simp only [Tr.ht]; omega
      have ih : ∀ ai, Is N a ai → DownL base B v N li ps po pl pn ai (Tr.jl l ⟨ps, po, pl, pn⟩ a) (3 * (a.ht + 1)) := fun ai hai w2 hw2 hB2 =>
        wleft_any base B ps po pl pn l li hp hlf hl0 hl1 a ai v N w2 (by omega) (by omega) hf.1 hb.1 hbb hw2 hi hai hB2
      obtain ⟨m1, m2⟩ := jl_fit hp hlf hf.1
      have hne := ne_bh he
      have hz2 : N.length + 3 * (a.ht + 1) + 3 ≤ 2097152 := by omega
      rw [Tr.jl, if_neg (by simp [he])]
      generalize Tr.jl l ⟨ps, po, pl, pn⟩ a = m at ih m1 m2
      have hm3 : m.size + b.size ≤ 2097152 := by omega
      clear m2
      match m, ih, m1, hm3 with
      | (Tr.mk none), ih, m1, hm3 => exact (wleft_flat a b l (Tr.mk none) qs qo ql qn li ri ps po pl pn _ base B v N w hz2 hm3 hf.2.1 hf.2.2 m1 hw hri hi hB hne rfl ih).mono fun e w' h => h.mono (by omega)
      | (Tr.mk (some (false, x, t, y))), ih, m1, hm3 =>
        have e : Tr.fixL false ((Tr.mk (some (false, x, t, y)))) ⟨qs, qo, ql, qn⟩ b = (Tr.mk (some (false, ((Tr.mk (some (false, x, t, y)))), ⟨qs, qo, ql, qn⟩, b))) := by cases x <;> rfl
        rw [e]
        exact (wleft_flat a b l _ qs qo ql qn li ri ps po pl pn _ base B v N w hz2 hm3 hf.2.1 hf.2.2 m1 hw hri hi hB hne rfl ih).mono fun e w' h => h.mono (by omega)
      | (Tr.mk (some (true, (Tr.mk none), ⟨ns, no, nl, nn⟩, y))), ih, m1, hm3 => exact (wleft_calm a b l (Tr.mk none) y ns no nl nn qs qo ql qn li ri ps po pl pn _ base B v N w hz2 hm3 hf.2.1 hf.2.2 m1 hw hri hi hB hne rfl ih).mono fun e w' h => h.mono (by omega)
      | (Tr.mk (some (true, (Tr.mk (some (false, x, u, z))), ⟨ns, no, nl, nn⟩, y))), ih, m1, hm3 => exact (wleft_calm a b l _ y ns no nl nn qs qo ql qn li ri ps po pl pn _ base B v N w hz2 hm3 hf.2.1 hf.2.2 m1 hw hri hi hB hne rfl ih).mono fun e w' h => h.mono (by omega)
      | (Tr.mk (some (true, (Tr.mk (some (true, x, u, z))), ⟨ns, no, nl, nn⟩, y))), ih, m1, hm3 => exact (wleft_turn a b l _ y ns no nl nn qs qo ql qn li ri ps po pl pn _ base B v N w hz2 hm3 hf.2.1 hf.2.2 m1 hw hri hi hB hne rfl ih).mono fun e w' h => h.mono (by omega)
end Go.Proofs.YtmhpeppbhjpkiaaGreat

/- The contract of the wood's join, at a fit piece. -/
namespace Go.Proofs.YtmhpeppbhjpkiaaGreat
open Go.RowKit

set_option maxRecDepth 100000 in
set_option maxHeartbeats 4000000 in
theorem wjoin_eq (l r : Tr) (li ri ps po pl pn : Int) (base B : Nat) (v : Value) (N : List Nd) (w : World) (hz : N.length + 3 * (l.ht + r.ht + 1) + 1 ≤ 2097152) (hs : l.size + r.size + 1 ≤ 1048576) (hp : Hid (Pc.fit ⟨ps, po, pl, pn⟩)) (hl : Hid (l.fits ∧ l.whole)) (hr : Hid (r.fits ∧ r.whole))
    (h : Hid (Wd w base B v N)) (h1 : Hid (Is N l li)) (h2 : Hid (Is N r ri)) (hB : base ≤ w.heap.size) (hbh : l.bh = r.bh) :
    Calls Tryz.prog 55 #[.pointer (some ⟨B, 0, none⟩), .int .i64 li, .agg #[.int .i64 ps, .int .i64 po, .int .i64 pl, .int .i64 pn], .int .i64 ri] w fun e w' => Mades w base B v N (Tr.joinT l ⟨ps, po, pl, pn⟩ r) (3 * (l.ht + r.ht + 1) + 1) e w' := by
  have hk := Hid.mk' (h.out.keep (bAlloc (bAlloc (Below.refl w.heap.size w) (.cells #[.int .i64 ps, .int .i64 po, .int .i64 pl, .int .i64 pn] 59)) (.cells #[.int .i64 ps, .int .i64 po, .int .i64 pl, .int .i64 pn] 59)))
  have hfit : fitB pl pn = true := (fitB_iff ps po pl pn).2 hp.out
  have hsz : N.length ≤ 2097152 := by omega
  have hJ : Hid (Tr.joinT l ⟨ps, po, pl, pn⟩ r = Tr.mk (some (false, l, ⟨ps, po, pl, pn⟩, r))) := by unfold Hid Tr.joinT; rw [if_pos hbh]
  go_enter Tryz.func55, Tryz.ntmps55
  go_wp2_with (first | (go_at_call 95; refine (refFit_any ps po pl pn _).mono ?_; rintro e w5 ⟨rfl, rfl⟩; rw [hfit])
                     | (go_at_call_of 97 (Value.int .i64 li); refine (wbh_any l li base B v N _ hsz hk h1).mono ?_; rw [hbh]; rintro e w' ⟨rfl, rfl⟩)
                     | (go_at_call_of 97 (Value.int .i64 ri); refine (wbh_any r ri base B v N _ hsz hk h2).mono ?_; rintro e w' ⟨rfl, rfl⟩)
                     | (go_at_call 98; refine (wadd_made l r li ri ⟨ps, po, pl, pn⟩ false base B v N _ hsz (by omega) hp.out hl.out.1 hr.out.1 hk.out h1.out h2.out (by simp; omega)).mono ?_; rintro e w9 ⟨i9, v9, M9, rfl, a1, a2, a3, a4⟩; have FIN := Hid.mk' (And.intro a1 (And.intro a2 (And.intro a3 a4))); clear a1 a2 a3 a4))
  go_ret
  rw [hJ.out]
  exact ⟨i9, v9, M9, rfl, FIN.out.1, FIN.out.2.1, (Grw.below (bAlloc (bAlloc (Below.refl _ _) _) _)).trans FIN.out.2.2.1, by have := FIN.out.2.2.2; omega⟩

set_option maxRecDepth 100000 in
set_option maxHeartbeats 4000000 in
theorem wjoin_right (l r : Tr) (li ri ps po pl pn : Int) (base B : Nat) (v : Value) (N : List Nd) (w : World) (hz : N.length + 3 * (l.ht + r.ht + 1) + 1 ≤ 2097152) (hs : l.size + r.size + 1 ≤ 1048576) (hp : Hid (Pc.fit ⟨ps, po, pl, pn⟩)) (hl : Hid (l.fits ∧ l.whole)) (hr : Hid (r.fits ∧ r.whole))
    (h : Hid (Wd w base B v N)) (h1 : Hid (Is N l li)) (h2 : Hid (Is N r ri)) (hB : base ≤ w.heap.size) (hbh : r.bh < l.bh) :
    Calls Tryz.prog 55 #[.pointer (some ⟨B, 0, none⟩), .int .i64 li, .agg #[.int .i64 ps, .int .i64 po, .int .i64 pl, .int .i64 pn], .int .i64 ri] w fun e w' => Mades w base B v N (Tr.joinT l ⟨ps, po, pl, pn⟩ r) (3 * (l.ht + r.ht + 1) + 1) e w' := by
  have hk := Hid.mk' (h.out.keep (bAlloc (bAlloc (Below.refl w.heap.size w) (.cells #[.int .i64 ps, .int .i64 po, .int .i64 pl, .int .i64 pn] 59)) (.cells #[.int .i64 ps, .int .i64 po, .int .i64 pl, .int .i64 pn] 59)))
  have hfit : fitB pl pn = true := (fitB_iff ps po pl pn).2 hp.out
  have hsz : N.length ≤ 2097152 := by omega
  have hne := ne_bh (show l.bh ≠ r.bh by omega)
  have hlt : (r.bh : Int) < (l.bh : Int) := by omega
  have hJ : Hid (Tr.joinT l ⟨ps, po, pl, pn⟩ r = (Tr.jr ⟨ps, po, pl, pn⟩ r l).blk) := by unfold Hid Tr.joinT; rw [if_neg (by omega), if_pos hbh]
  obtain ⟨m1, m2⟩ := jr_fit (l := l) hp.out hl.out.1 hr.out.1
  have M1 := Hid.mk' m1
  clear m1
  generalize hm : Tr.jr ⟨ps, po, pl, pn⟩ r l = m at *
  have HM := Hid.mk' hm
  clear hm
  go_enter Tryz.func55, Tryz.ntmps55
  go_wp2_with (first | (go_at_call 95; refine (refFit_any ps po pl pn _).mono ?_; rintro e w5 ⟨rfl, rfl⟩; rw [hfit])
                     | (go_at_call_of 97 (Value.int .i64 li); refine (wbh_any l li base B v N _ hsz hk h1).mono ?_; rintro e w' ⟨rfl, rfl⟩)
                     | (go_at_call_of 97 (Value.int .i64 ri); refine (wbh_any r ri base B v N _ hsz hk h2).mono ?_; rintro e w' ⟨rfl, rfl⟩)
                     | (go_at_call 99; (have Q := wright_any base B ps po pl pn r ri hp.out hr.out.1 hr.out.2.1 hr.out.2.2 l li v N _ (by omega) hs hl.out.1 hl.out.2.1 (by omega) hk.out h1.out h2.out (by simp; omega)); rw [HM.out] at Q; refine Q.mono ?_; clear Q; rintro e w3 ⟨mi, v3, M3, rfl, a1, a2, a3, a4⟩; (have H3 : Hid (Wd w3 base B v3 (N ++ M3) ∧ Is (N ++ M3) m mi ∧ Grw w w3 B _ v3 ∧ M3.length ≤ 3 * (l.ht + 1) ∧ (N ++ M3).length ≤ 2097152 ∧ base ≤ w3.heap.size) := ⟨a1, a2, (Grw.below (bAlloc (bAlloc (Below.refl _ _) _) _)).trans a3, a4, by rw [List.length_append]; omega, by have := a3.size; simp at this; omega⟩); clear a1 a2 a3 a4)
                     | (go_at_call 101; refine (wblack_any m mi base B v3 (N ++ M3) _ H3.out.2.2.2.2.1 (by omega) M1.out H3.out.1 H3.out.2.1 H3.out.2.2.2.2.2).mono ?_; rintro e w9 ⟨i9, v9, M9, rfl, a1, a2, a3, a4⟩; have FIN := Hid.mk' (And.intro a1 (And.intro a2 (And.intro a3 a4))); clear a1 a2 a3 a4))
  go_ret
  rw [hJ.out]
  exact (made_two H3.out.2.2.1 H3.out.2.2.2.1 FIN.out.1 FIN.out.2.1 FIN.out.2.2.1 FIN.out.2.2.2).mono (by omega)

set_option maxRecDepth 100000 in
set_option maxHeartbeats 4000000 in
theorem wjoin_left (l r : Tr) (li ri ps po pl pn : Int) (base B : Nat) (v : Value) (N : List Nd) (w : World) (hz : N.length + 3 * (l.ht + r.ht + 1) + 1 ≤ 2097152) (hs : l.size + r.size + 1 ≤ 1048576) (hp : Hid (Pc.fit ⟨ps, po, pl, pn⟩)) (hl : Hid (l.fits ∧ l.whole)) (hr : Hid (r.fits ∧ r.whole))
    (h : Hid (Wd w base B v N)) (h1 : Hid (Is N l li)) (h2 : Hid (Is N r ri)) (hB : base ≤ w.heap.size) (hbh : l.bh < r.bh) :
    Calls Tryz.prog 55 #[.pointer (some ⟨B, 0, none⟩), .int .i64 li, .agg #[.int .i64 ps, .int .i64 po, .int .i64 pl, .int .i64 pn], .int .i64 ri] w fun e w' => Mades w base B v N (Tr.joinT l ⟨ps, po, pl, pn⟩ r) (3 * (l.ht + r.ht + 1) + 1) e w' := by
  have hk := Hid.mk' (h.out.keep (bAlloc (bAlloc (Below.refl w.heap.size w) (.cells #[.int .i64 ps, .int .i64 po, .int .i64 pl, .int .i64 pn] 59)) (.cells #[.int .i64 ps, .int .i64 po, .int .i64 pl, .int .i64 pn] 59)))
  have hfit : fitB pl pn = true := (fitB_iff ps po pl pn).2 hp.out
  have hsz : N.length ≤ 2097152 := by omega
  have hne := ne_bh (show l.bh ≠ r.bh by omega)
  have hlt : ¬ (r.bh : Int) < (l.bh : Int) := by omega
  have hJ : Hid (Tr.joinT l ⟨ps, po, pl, pn⟩ r = (Tr.jl l ⟨ps, po, pl, pn⟩ r).blk) := by unfold Hid Tr.joinT; rw [if_neg (by omega), if_neg (by omega)]
  obtain ⟨m1, m2⟩ := jl_fit (r := r) hp.out hl.out.1 hr.out.1
  have M1 := Hid.mk' m1
  clear m1
  generalize hm : Tr.jl l ⟨ps, po, pl, pn⟩ r = m at *
  have HM := Hid.mk' hm
  clear hm
  go_enter Tryz.func55, Tryz.ntmps55
  go_wp2_with (first | (go_at_call 95; refine (refFit_any ps po pl pn _).mono ?_; rintro e w5 ⟨rfl, rfl⟩; rw [hfit])
                     | (go_at_call_of 97 (Value.int .i64 li); refine (wbh_any l li base B v N _ hsz hk h1).mono ?_; rintro e w' ⟨rfl, rfl⟩)
                     | (go_at_call_of 97 (Value.int .i64 ri); refine (wbh_any r ri base B v N _ hsz hk h2).mono ?_; rintro e w' ⟨rfl, rfl⟩)
                     | (go_at_call 100; (have Q := wleft_any base B ps po pl pn l li hp.out hl.out.1 hl.out.2.1 hl.out.2.2 r ri v N _ (by omega) hs hr.out.1 hr.out.2.1 (by omega) hk.out h1.out h2.out (by simp; omega)); rw [HM.out] at Q; refine Q.mono ?_; clear Q; rintro e w3 ⟨mi, v3, M3, rfl, a1, a2, a3, a4⟩; (have H3 : Hid (Wd w3 base B v3 (N ++ M3) ∧ Is (N ++ M3) m mi ∧ Grw w w3 B _ v3 ∧ M3.length ≤ 3 * (r.ht + 1) ∧ (N ++ M3).length ≤ 2097152 ∧ base ≤ w3.heap.size) := ⟨a1, a2, (Grw.below (bAlloc (bAlloc (Below.refl _ _) _) _)).trans a3, a4, by rw [List.length_append]; omega, by have := a3.size; simp at this; omega⟩); clear a1 a2 a3 a4)
                     | (go_at_call 101; refine (wblack_any m mi base B v3 (N ++ M3) _ H3.out.2.2.2.2.1 (by omega) M1.out H3.out.1 H3.out.2.1 H3.out.2.2.2.2.2).mono ?_; rintro e w9 ⟨i9, v9, M9, rfl, a1, a2, a3, a4⟩; have FIN := Hid.mk' (And.intro a1 (And.intro a2 (And.intro a3 a4))); clear a1 a2 a3 a4))
  go_ret
  rw [hJ.out]
  exact (made_two H3.out.2.2.1 H3.out.2.2.2.1 FIN.out.1 FIN.out.2.1 FIN.out.2.2.1 FIN.out.2.2.2).mono (by omega)

theorem wjoin_any (l r : Tr) (li ri ps po pl pn : Int) (base B : Nat) (v : Value) (N : List Nd) (w : World) (hz : N.length + 3 * (l.ht + r.ht + 1) + 1 ≤ 2097152) (hs : l.size + r.size + 1 ≤ 1048576) (hp : Pc.fit ⟨ps, po, pl, pn⟩) (hl : l.fits ∧ l.whole) (hr : r.fits ∧ r.whole)
    (h : Wd w base B v N) (h1 : Is N l li) (h2 : Is N r ri) (hB : base ≤ w.heap.size) :
    Calls Tryz.prog 55 #[.pointer (some ⟨B, 0, none⟩), .int .i64 li, .agg #[.int .i64 ps, .int .i64 po, .int .i64 pl, .int .i64 pn], .int .i64 ri] w fun e w' => Mades w base B v N (Tr.joinT l ⟨ps, po, pl, pn⟩ r) (3 * (l.ht + r.ht + 1) + 1) e w' := by
  by_cases e : l.bh = r.bh
  · exact wjoin_eq l r li ri ps po pl pn base B v N w hz hs hp hl hr h h1 h2 hB e
  · by_cases e2 : r.bh < l.bh
    · exact wjoin_right l r li ri ps po pl pn base B v N w hz hs hp hl hr h h1 h2 hB e2
    · exact wjoin_left l r li ri ps po pl pn base B v N w hz hs hp hl hr h h1 h2 hB (by omega)
end Go.Proofs.YtmhpeppbhjpkiaaGreat

/- A list that grows beside the wood. -/
namespace Go.Proofs.YtmhpeppbhjpkiaaGreat
open Go.RowKit

/-- only the list was changed: nothing old but its row -/
structure Grl (W W' : World) (l l' : Value) : Prop where
  gr : W.grownBy W' l.ownBlock
  fresh : l'.ownBlock = l.ownBlock ∨ ∃ q, l'.ownBlock = some q ∧ W.heap.size ≤ q
theorem Grl.refl (W : World) (l : Value) : Grl W W l l := ⟨⟨rfl, rfl, rfl, Nat.le_refl _, fun _ _ _ => rfl⟩, .inl rfl⟩
theorem Grl.below {W W' : World} {l : Value} (h : Below W.heap.size W W') : Grl W W' l l := ⟨⟨h.os, h.tape, h.output, h.size, fun k hk _ => h.block k hk⟩, .inl rfl⟩
theorem Grl.trans {W W' W'' : World} {l l' l'' : Value} (h : Grl W W' l l') (k : Grl W' W'' l' l'') : Grl W W'' l l'' := by
  refine ⟨⟨k.gr.os.trans h.gr.os, k.gr.tape.trans h.gr.tape, k.gr.output.trans h.gr.output, Nat.le_trans h.gr.size k.gr.size, fun i hi hv => ?_⟩, ?_⟩
  · have hs := h.gr.size
    rw [k.gr.block i (by omega) ?_, h.gr.block i hi hv]
    rcases h.fresh with e | ⟨q, e, hq⟩
    · rw [e]; exact hv
    · rw [e]; simp; omega
  · rcases k.fresh with e | ⟨q, e, hq⟩
    · rw [e]; exact h.fresh
    · exact .inr ⟨q, e, by have := h.gr.size; omega⟩
/-- the list lies apart from the wood -/
structure Fr2 (W : World) (l : Value) (B : Nat) (v : Value) : Prop where
  f1 : l.ownBlock ≠ some B
  f2 : ∀ k, v.ownBlock = some k → l.ownBlock ≠ some k
theorem Wd.grl {W W' : World} {base B : Nat} {v l l' : Value} {N : List Nd} (h : Wd W base B v N) (hg : Grl W W' l l') (hf : Fr2 W l B v) : Wd W' base B v N := by
  refine ⟨?_, h.own.kept hg.gr ?_, h.low⟩
  · unfold Blk; rw [hg.gr.block B h.blk.lt (fun e => hf.f1 e.symm)]; exact h.blk
  · cases e : v.ownBlock with
    | none => exact .inl rfl
    | some k => exact .inr (fun e2 => hf.f2 k e e2.symm)
theorem Fr2.grl {W W' : World} {base B : Nat} {v l l' : Value} {N : List Nd} (hf : Fr2 W l B v) (h : Wd W base B v N) (hg : Grl W W' l l') : Fr2 W' l' B v := by
  rcases hg.fresh with e | ⟨q, e, hq⟩
  · exact ⟨by rw [e]; exact hf.f1, fun k hk => by rw [e]; exact hf.f2 k hk⟩
  · have hB := h.blk.lt
    refine ⟨by rw [e]; simp; omega, fun k hk => ?_⟩
    have := (h.own.lt k hk).2
    rw [e]; simp; omega
/-- a block apart from the list stays -/
theorem Grl.blk {W W' : World} {k e : Nat} {l l' : Value} {cs : Array Value} (h : Grl W W' l l') (hk : Blk W k e cs) (h2 : l.ownBlock ≠ some k) : Blk W' k e cs := by
  unfold Blk; rw [h.gr.block k hk.lt (fun e => h2 e.symm)]; exact hk
theorem Is.neg {N : List Nd} {t : Tr} {i : Int} (h : Is N t i) : decide (i ≥ 0) = t.has := by
  cases t using Tr.el with
  | nil => have := h.nil_iff; subst this; rfl
  | node c l p r => obtain ⟨j, li, ri, e, h1, -⟩ := h; subst e; simp [Tr.has]
theorem Is.has {N : List Nd} {t : Tr} {i : Int} (h : Is N t i) : decide (0 ≤ i) = t.has := h.neg

/-- what rows gives -/
def RG (w : World) (base : Nat) (ls : Value) (n : Nat) (xs : List Value) (t : Tr) (e : Ending) (w' : World) : Prop :=
  ∃ l', e = .returned l' ∧ w'.ownsRow base 128 10 l' (n + t.size) (xs ++ rcells (rowsT t)) ∧ Grl w w' ls l'
set_option maxHeartbeats 1000000 in
theorem wrows_nil (B : Nat) (ls : Value) (w : World) : Calls Tryz.prog 54 #[.pointer (some ⟨B, 0, none⟩), .int .i64 (-1), ls] w fun e w' => e = .returned ls ∧ w' = w := by
  go_enter Tryz.func54, Tryz.ntmps54
  go_wp2
  go_ret
  exact ⟨rfl, rfl⟩
/-- what pieces gives -/
def PG (w : World) (base : Nat) (ls : Value) (n : Nat) (xs : List Value) (t : Tr) (e : Ending) (w' : World) : Prop :=
  ∃ l', e = .returned l' ∧ w'.ownsRow base 59 4 l' (n + t.size) (xs ++ cells t.list) ∧ Grl w w' ls l'
set_option maxHeartbeats 1000000 in
theorem wpieces_nil (B : Nat) (ls : Value) (w : World) : Calls Tryz.prog 103 #[.pointer (some ⟨B, 0, none⟩), .int .i64 (-1), ls] w fun e w' => e = .returned ls ∧ w' = w := by
  go_enter Tryz.func103, Tryz.ntmps103
  go_wp2
  go_ret
  exact ⟨rfl, rfl⟩
/-- a node's eleven cells -/
theorem Wd.eleven {W : World} {base B : Nat} {v : Value} {N : List Nd} {j : Nat} {c : Bool} {l r : Tr} {ps po pl pn li ri : Int} (h : Wd W base B v N) (hj : N[j]? = some (ndOf c l ⟨ps, po, pl, pn⟩ r li ri)) :
    ∃ g cap, v = .slice (some ⟨g, 0, none⟩) N.length cap ∧ W.cell? ⟨B, 0, none⟩ = some v ∧ W.cell? ⟨g, j * 11, none⟩ = some (.int .i64 ps) ∧ W.cell? ⟨g, j * 11 + 1, none⟩ = some (.int .i64 po) ∧ W.cell? ⟨g, j * 11 + 2, none⟩ = some (.int .i64 pl) ∧ W.cell? ⟨g, j * 11 + 3, none⟩ = some (.int .i64 pn) ∧ W.cell? ⟨g, j * 11 + 4, none⟩ = some (.bool c) ∧ W.cell? ⟨g, j * 11 + 5, none⟩ = some (.int .i64 li) ∧ W.cell? ⟨g, j * 11 + 6, none⟩ = some (.int .i64 ri) ∧ W.cell? ⟨g, j * 11 + 7, none⟩ = some (.int .i64 ((Tr.mk (some (c, l, ⟨ps, po, pl, pn⟩, r))).size : Nat)) ∧ W.cell? ⟨g, j * 11 + 8, none⟩ = some (.int .i64 (Tr.mk (some (c, l, ⟨ps, po, pl, pn⟩, r))).byt) ∧ W.cell? ⟨g, j * 11 + 9, none⟩ = some (.int .i64 (Tr.mk (some (c, l, ⟨ps, po, pl, pn⟩, r))).lin) ∧ W.cell? ⟨g, j * 11 + 10, none⟩ = some (.int .i64 ((Tr.mk (some (c, l, ⟨ps, po, pl, pn⟩, r))).bh : Nat)) := by
  obtain ⟨g, cap, hv, hc⟩ := h.node hj
  exact ⟨g, cap, hv, h.cell1, hc 0 (by omega), hc 1 (by omega), hc 2 (by omega), hc 3 (by omega), hc 4 (by omega), hc 5 (by omega), hc 6 (by omega), hc 7 (by omega), hc 8 (by omega), hc 9 (by omega), hc 10 (by omega)⟩
end Go.Proofs.YtmhpeppbhjpkiaaGreat

/- The contract of the wood's built. -/
namespace Go.Proofs.YtmhpeppbhjpkiaaGreat
open Go.RowKit

theorem ht_small {t : Tr} (h : t.whole) (hz : t.size ≤ 5000) : t.ht ≤ 24 := by
  have h1 := Tr.whole_low h
  have h2 : (t.size + 1) * (t.size + 1) ≤ 5001 * 5001 := Nat.mul_le_mul (by omega) (by omega)
  by_cases h3 : t.ht ≤ 24
  · exact h3
  · have : 2 ^ 25 ≤ 2 ^ t.ht := Nat.pow_le_pow_right (by omega) (by omega)
    omega
theorem Row.grw {W W' : World} {base B b off : Nat} {v v' : Value} {N : List Nd} {L : List Pc} (h : Row W b off L) (hg : Grw W W' B v v') (hw : Wd W base B v N) (hb : b < base) (hz : base ≤ W.heap.size) : Row W' b off L := fun j p hp => by
  have e : W'.heap[b]? = W.heap[b]? := hg.block b (by omega) (by have := hw.low; omega) (fun e => by have := (hw.own.lt b e.symm).1; omega)
  have hc : ∀ o, W'.cell? ⟨b, o, none⟩ = W.cell? ⟨b, o, none⟩ := fun o => World.cell?_of_block (a := ⟨b, o, none⟩) e
  rw [hc, hc, hc, hc]
  exact h j p hp
/-- a list value that lies below the wood -/
def Rdl (W : World) (base : Nat) (v : Value) (L : List Pc) : Prop := ∃ ao n c, v = .slice ao n c ∧ n = L.length ∧ n ≤ c ∧ (L = [] ∨ ∃ b off, ao = some ⟨b, off, none⟩ ∧ Row W b off L ∧ b < base)
end Go.Proofs.YtmhpeppbhjpkiaaGreat

