/- The contract of the wood's join, at a fit piece. -/
import Derived.Test.YtcaegdfbbjfgpaaAm12
import Derived.Test.YtcaegdfbbjfgpaaAm02
import Derived.Deep.CutRange
namespace Go.Proofs.Ytcaegdfbbjfgpaa
open Go.RowKit

set_option maxRecDepth 100000 in
set_option maxHeartbeats 4000000 in
theorem wjoin_eq (l r : Tr) (li ri ps po pl pn : Int) (base B : Nat) (v : Value) (N : List Nd) (w : World) (hz : N.length + 3 * (l.ht + r.ht + 1) + 1 ≤ 2097152) (hs : l.size + r.size + 1 ≤ 1048576) (hp : Hid (Pc.fit ⟨ps, po, pl, pn⟩)) (hl : Hid (l.fits ∧ l.whole)) (hr : Hid (r.fits ∧ r.whole))
    (h : Hid (Wd w base B v N)) (h1 : Hid (Is N l li)) (h2 : Hid (Is N r ri)) (hB : base ≤ w.heap.size) (hbh : l.bh = r.bh) :
    Calls Try.prog 71 #[.pointer (some ⟨B, 0, none⟩), .int .i64 li, .agg #[.int .i64 ps, .int .i64 po, .int .i64 pl, .int .i64 pn], .int .i64 ri] w fun e w' => Mades w base B v N (Tr.joinT l ⟨ps, po, pl, pn⟩ r) (3 * (l.ht + r.ht + 1) + 1) e w' := by
  have hk := Hid.mk' (h.out.keep (bAlloc (bAlloc (Below.refl w.heap.size w) (.cells #[.int .i64 ps, .int .i64 po, .int .i64 pl, .int .i64 pn] 32)) (.cells #[.int .i64 ps, .int .i64 po, .int .i64 pl, .int .i64 pn] 32)))
  have hfit : fitB pl pn = true := (fitB_iff ps po pl pn).2 hp.out
  have hsz : N.length ≤ 2097152 := by omega
  have hJ : Hid (Tr.joinT l ⟨ps, po, pl, pn⟩ r = Tr.mk (some (false, l, ⟨ps, po, pl, pn⟩, r))) := by unfold Hid Tr.joinT; rw [if_pos hbh]
  go_enter Try.func71, Try.ntmps71
  go_wp2_with (first | (go_at_call 25; refine (refFit_any ps po pl pn _).mono ?_; rintro e w5 ⟨rfl, rfl⟩; rw [hfit])
                     | (go_at_call_of 85 (Value.int .i64 li); refine (wbh_any l li base B v N _ hsz hk h1).mono ?_; rw [hbh]; rintro e w' ⟨rfl, rfl⟩)
                     | (go_at_call_of 85 (Value.int .i64 ri); refine (wbh_any r ri base B v N _ hsz hk h2).mono ?_; rintro e w' ⟨rfl, rfl⟩)
                     | (go_at_call 86; refine (wadd_made l r li ri ⟨ps, po, pl, pn⟩ false base B v N _ hsz (by omega) hp.out hl.out.1 hr.out.1 hk.out h1.out h2.out (by simp; omega)).mono ?_; rintro e w9 ⟨i9, v9, M9, rfl, a1, a2, a3, a4⟩; have FIN := Hid.mk' (And.intro a1 (And.intro a2 (And.intro a3 a4))); clear a1 a2 a3 a4))
  go_ret
  rw [hJ.out]
  exact ⟨i9, v9, M9, rfl, FIN.out.1, FIN.out.2.1, (Grw.below (bAlloc (bAlloc (Below.refl _ _) _) _)).trans FIN.out.2.2.1, by have := FIN.out.2.2.2; omega⟩

set_option maxRecDepth 100000 in
set_option maxHeartbeats 4000000 in
theorem wjoin_right (l r : Tr) (li ri ps po pl pn : Int) (base B : Nat) (v : Value) (N : List Nd) (w : World) (hz : N.length + 3 * (l.ht + r.ht + 1) + 1 ≤ 2097152) (hs : l.size + r.size + 1 ≤ 1048576) (hp : Hid (Pc.fit ⟨ps, po, pl, pn⟩)) (hl : Hid (l.fits ∧ l.whole)) (hr : Hid (r.fits ∧ r.whole))
    (h : Hid (Wd w base B v N)) (h1 : Hid (Is N l li)) (h2 : Hid (Is N r ri)) (hB : base ≤ w.heap.size) (hbh : r.bh < l.bh) :
    Calls Try.prog 71 #[.pointer (some ⟨B, 0, none⟩), .int .i64 li, .agg #[.int .i64 ps, .int .i64 po, .int .i64 pl, .int .i64 pn], .int .i64 ri] w fun e w' => Mades w base B v N (Tr.joinT l ⟨ps, po, pl, pn⟩ r) (3 * (l.ht + r.ht + 1) + 1) e w' := by
  have hk := Hid.mk' (h.out.keep (bAlloc (bAlloc (Below.refl w.heap.size w) (.cells #[.int .i64 ps, .int .i64 po, .int .i64 pl, .int .i64 pn] 32)) (.cells #[.int .i64 ps, .int .i64 po, .int .i64 pl, .int .i64 pn] 32)))
  have hfit : fitB pl pn = true := (fitB_iff ps po pl pn).2 hp.out
  have hsz : N.length ≤ 2097152 := by omega
  have hne := ne_bh (show l.bh ≠ r.bh by omega)
  have hlt : (r.bh : Int) < (l.bh : Int) := by omega
  have hJ : Hid (Tr.joinT l ⟨ps, po, pl, pn⟩ r = (Tr.jr ⟨ps, po, pl, pn⟩ r l).blk) := by unfold Hid Tr.joinT; rw [if_neg (by omega), if_pos hbh]
  obtain ⟨m1, m2⟩ := jr_fit (l := l) hp.out hl.out.1 hr.out.1
  have M1 := Hid.mk' m1
  clear m1
  generalize hm : Tr.jr ⟨ps, po, pl, pn⟩ r l = m at *
  have HM := Hid.mk' hm
  clear hm
  go_enter Try.func71, Try.ntmps71
  go_wp2_with (first | (go_at_call 25; refine (refFit_any ps po pl pn _).mono ?_; rintro e w5 ⟨rfl, rfl⟩; rw [hfit])
                     | (go_at_call_of 85 (Value.int .i64 li); refine (wbh_any l li base B v N _ hsz hk h1).mono ?_; rintro e w' ⟨rfl, rfl⟩)
                     | (go_at_call_of 85 (Value.int .i64 ri); refine (wbh_any r ri base B v N _ hsz hk h2).mono ?_; rintro e w' ⟨rfl, rfl⟩)
                     | (go_at_call 87; (have Q := wright_any base B ps po pl pn r ri hp.out hr.out.1 hr.out.2.1 hr.out.2.2 l li v N _ (by omega) hs hl.out.1 hl.out.2.1 (by omega) hk.out h1.out h2.out (by simp; omega)); rw [HM.out] at Q; refine Q.mono ?_; clear Q; rintro e w3 ⟨mi, v3, M3, rfl, a1, a2, a3, a4⟩; (have H3 : Hid (Wd w3 base B v3 (N ++ M3) ∧ Is (N ++ M3) m mi ∧ Grw w w3 B _ v3 ∧ M3.length ≤ 3 * (l.ht + 1) ∧ (N ++ M3).length ≤ 2097152 ∧ base ≤ w3.heap.size) := ⟨a1, a2, (Grw.below (bAlloc (bAlloc (Below.refl _ _) _) _)).trans a3, a4, by rw [List.length_append]; omega, by have := a3.size; simp at this; omega⟩); clear a1 a2 a3 a4)
                     | (go_at_call 89; refine (wblack_any m mi base B v3 (N ++ M3) _ H3.out.2.2.2.2.1 (by omega) M1.out H3.out.1 H3.out.2.1 H3.out.2.2.2.2.2).mono ?_; rintro e w9 ⟨i9, v9, M9, rfl, a1, a2, a3, a4⟩; have FIN := Hid.mk' (And.intro a1 (And.intro a2 (And.intro a3 a4))); clear a1 a2 a3 a4))
  go_ret
  rw [hJ.out]
  exact (made_two H3.out.2.2.1 H3.out.2.2.2.1 FIN.out.1 FIN.out.2.1 FIN.out.2.2.1 FIN.out.2.2.2).mono (by omega)

set_option maxRecDepth 100000 in
set_option maxHeartbeats 4000000 in
theorem wjoin_left (l r : Tr) (li ri ps po pl pn : Int) (base B : Nat) (v : Value) (N : List Nd) (w : World) (hz : N.length + 3 * (l.ht + r.ht + 1) + 1 ≤ 2097152) (hs : l.size + r.size + 1 ≤ 1048576) (hp : Hid (Pc.fit ⟨ps, po, pl, pn⟩)) (hl : Hid (l.fits ∧ l.whole)) (hr : Hid (r.fits ∧ r.whole))
    (h : Hid (Wd w base B v N)) (h1 : Hid (Is N l li)) (h2 : Hid (Is N r ri)) (hB : base ≤ w.heap.size) (hbh : l.bh < r.bh) :
    Calls Try.prog 71 #[.pointer (some ⟨B, 0, none⟩), .int .i64 li, .agg #[.int .i64 ps, .int .i64 po, .int .i64 pl, .int .i64 pn], .int .i64 ri] w fun e w' => Mades w base B v N (Tr.joinT l ⟨ps, po, pl, pn⟩ r) (3 * (l.ht + r.ht + 1) + 1) e w' := by
  have hk := Hid.mk' (h.out.keep (bAlloc (bAlloc (Below.refl w.heap.size w) (.cells #[.int .i64 ps, .int .i64 po, .int .i64 pl, .int .i64 pn] 32)) (.cells #[.int .i64 ps, .int .i64 po, .int .i64 pl, .int .i64 pn] 32)))
  have hfit : fitB pl pn = true := (fitB_iff ps po pl pn).2 hp.out
  have hsz : N.length ≤ 2097152 := by omega
  have hne := ne_bh (show l.bh ≠ r.bh by omega)
  have hlt : ¬ (r.bh : Int) < (l.bh : Int) := by omega
  have hJ : Hid (Tr.joinT l ⟨ps, po, pl, pn⟩ r = (Tr.jl l ⟨ps, po, pl, pn⟩ r).blk) := by unfold Hid Tr.joinT; rw [if_neg (by omega), if_neg (by omega)]
  obtain ⟨m1, m2⟩ := jl_fit (r := r) hp.out hl.out.1 hr.out.1
  have M1 := Hid.mk' m1
  clear m1
  generalize hm : Tr.jl l ⟨ps, po, pl, pn⟩ r = m at *
  have HM := Hid.mk' hm
  clear hm
  go_enter Try.func71, Try.ntmps71
  go_wp2_with (first | (go_at_call 25; refine (refFit_any ps po pl pn _).mono ?_; rintro e w5 ⟨rfl, rfl⟩; rw [hfit])
                     | (go_at_call_of 85 (Value.int .i64 li); refine (wbh_any l li base B v N _ hsz hk h1).mono ?_; rintro e w' ⟨rfl, rfl⟩)
                     | (go_at_call_of 85 (Value.int .i64 ri); refine (wbh_any r ri base B v N _ hsz hk h2).mono ?_; rintro e w' ⟨rfl, rfl⟩)
                     | (go_at_call 88; (have Q := wleft_any base B ps po pl pn l li hp.out hl.out.1 hl.out.2.1 hl.out.2.2 r ri v N _ (by omega) hs hr.out.1 hr.out.2.1 (by omega) hk.out h1.out h2.out (by simp; omega)); rw [HM.out] at Q; refine Q.mono ?_; clear Q; rintro e w3 ⟨mi, v3, M3, rfl, a1, a2, a3, a4⟩; (have H3 : Hid (Wd w3 base B v3 (N ++ M3) ∧ Is (N ++ M3) m mi ∧ Grw w w3 B _ v3 ∧ M3.length ≤ 3 * (r.ht + 1) ∧ (N ++ M3).length ≤ 2097152 ∧ base ≤ w3.heap.size) := ⟨a1, a2, (Grw.below (bAlloc (bAlloc (Below.refl _ _) _) _)).trans a3, a4, by rw [List.length_append]; omega, by have := a3.size; simp at this; omega⟩); clear a1 a2 a3 a4)
                     | (go_at_call 89; refine (wblack_any m mi base B v3 (N ++ M3) _ H3.out.2.2.2.2.1 (by omega) M1.out H3.out.1 H3.out.2.1 H3.out.2.2.2.2.2).mono ?_; rintro e w9 ⟨i9, v9, M9, rfl, a1, a2, a3, a4⟩; have FIN := Hid.mk' (And.intro a1 (And.intro a2 (And.intro a3 a4))); clear a1 a2 a3 a4))
  go_ret
  rw [hJ.out]
  exact (made_two H3.out.2.2.1 H3.out.2.2.2.1 FIN.out.1 FIN.out.2.1 FIN.out.2.2.1 FIN.out.2.2.2).mono (by omega)

theorem wjoin_any (l r : Tr) (li ri ps po pl pn : Int) (base B : Nat) (v : Value) (N : List Nd) (w : World) (hz : N.length + 3 * (l.ht + r.ht + 1) + 1 ≤ 2097152) (hs : l.size + r.size + 1 ≤ 1048576) (hp : Pc.fit ⟨ps, po, pl, pn⟩) (hl : l.fits ∧ l.whole) (hr : r.fits ∧ r.whole)
    (h : Wd w base B v N) (h1 : Is N l li) (h2 : Is N r ri) (hB : base ≤ w.heap.size) :
    Calls Try.prog 71 #[.pointer (some ⟨B, 0, none⟩), .int .i64 li, .agg #[.int .i64 ps, .int .i64 po, .int .i64 pl, .int .i64 pn], .int .i64 ri] w fun e w' => Mades w base B v N (Tr.joinT l ⟨ps, po, pl, pn⟩ r) (3 * (l.ht + r.ht + 1) + 1) e w' := by
  by_cases e : l.bh = r.bh
  · exact wjoin_eq l r li ri ps po pl pn base B v N w hz hs hp hl hr h h1 h2 hB e
  · by_cases e2 : r.bh < l.bh
    · exact wjoin_right l r li ri ps po pl pn base B v N w hz hs hp hl hr h h1 h2 hB e2
    · exact wjoin_left l r li ri ps po pl pn base B v N w hz hs hp hl hr h h1 h2 hB (by omega)
end Go.Proofs.Ytcaegdfbbjfgpaa

/- A list that grows beside the wood. -/
namespace Go.Proofs.Ytcaegdfbbjfgpaa
open Go.RowKit

/-- only the list was changed: nothing old but its row -/
structure Grl (W W' : World) (l l' : Value) : Prop where
  gr : W.grownBy W' l.ownBlock
  fresh : l'.ownBlock = l.ownBlock ∨ ∃ q, l'.ownBlock = some q ∧ W.heap.size ≤ q
theorem Grl.refl (W : World) (l : Value) : Grl W W l l := ⟨⟨rfl, rfl, rfl, Nat.le_refl _, fun _ _ _ => rfl⟩, .inl rfl⟩
theorem Grl.below {W W' : World} {l : Value} (h : Below W.heap.size W W') : Grl W W' l l := ⟨⟨h.os, h.tape, h.output, h.size, fun k hk _ => h.block k hk⟩, .inl rfl⟩
theorem Grl.trans {W W' W'' : World} {l l' l'' : Value} (h : Grl W W' l l') (k : Grl W' W'' l' l'') : Grl W W'' l l'' := by
  refine ⟨⟨k.gr.os.trans h.gr.os, k.gr.tape.trans h.gr.tape, k.gr.output.trans h.gr.output, Nat.le_trans h.gr.size k.gr.size, fun i hi hv => ?_⟩, ?_⟩
  · have hs := h.gr.size
    rw [k.gr.block i (by omega) ?_, h.gr.block i hi hv]
    rcases h.fresh with e | ⟨q, e, hq⟩
    · rw [e]; exact hv
    · rw [e]; simp; omega
  · rcases k.fresh with e | ⟨q, e, hq⟩
    · rw [e]; exact h.fresh
    · exact .inr ⟨q, e, by have := h.gr.size; omega⟩
/-- the list lies apart from the wood -/
structure Fr2 (W : World) (l : Value) (B : Nat) (v : Value) : Prop where
  f1 : l.ownBlock ≠ some B
  f2 : ∀ k, v.ownBlock = some k → l.ownBlock ≠ some k
theorem Wd.grl {W W' : World} {base B : Nat} {v l l' : Value} {N : List Nd} (h : Wd W base B v N) (hg : Grl W W' l l') (hf : Fr2 W l B v) : Wd W' base B v N := by
  refine ⟨?_, h.own.kept hg.gr ?_, h.low⟩
  · unfold Blk; rw [hg.gr.block B h.blk.lt (fun e => hf.f1 e.symm)]; exact h.blk
  · cases e : v.ownBlock with
    | none => exact .inl rfl
    | some k => exact .inr (fun e2 => hf.f2 k e e2.symm)
theorem Fr2.grl {W W' : World} {base B : Nat} {v l l' : Value} {N : List Nd} (hf : Fr2 W l B v) (h : Wd W base B v N) (hg : Grl W W' l l') : Fr2 W' l' B v := by
  rcases hg.fresh with e | ⟨q, e, hq⟩
  · exact ⟨by rw [e]; exact hf.f1, fun k hk => by rw [e]; exact hf.f2 k hk⟩
  · have hB := h.blk.lt
    refine ⟨by rw [e]; simp; omega, fun k hk => ?_⟩
    have := (h.own.lt k hk).2
    rw [e]; simp; omega
/-- a block apart from the list stays -/
theorem Grl.blk {W W' : World} {k e : Nat} {l l' : Value} {cs : Array Value} (h : Grl W W' l l') (hk : Blk W k e cs) (h2 : l.ownBlock ≠ some k) : Blk W' k e cs := by
  unfold Blk; rw [h.gr.block k hk.lt (fun e => h2 e.symm)]; exact hk
theorem Is.neg {N : List Nd} {t : Tr} {i : Int} (h : Is N t i) : decide (i ≥ 0) = t.has := by
  cases t using Tr.el with
  | nil => have := h.nil_iff; subst this; rfl
  | node c l p r => obtain ⟨j, li, ri, e, h1, -⟩ := h; subst e; simp [Tr.has]
theorem Is.has {N : List Nd} {t : Tr} {i : Int} (h : Is N t i) : decide (0 ≤ i) = t.has := h.neg

/-- what rows gives -/
def RG (w : World) (base : Nat) (ls : Value) (n : Nat) (xs : List Value) (t : Tr) (e : Ending) (w' : World) : Prop :=
  ∃ l', e = .returned l' ∧ w'.ownsRow base 72 10 l' (n + t.size) (xs ++ rcells (rowsT t)) ∧ Grl w w' ls l'
set_option maxHeartbeats 1000000 in
theorem wrows_nil (B : Nat) (ls : Value) (w : World) : Calls Try.prog 47 #[.pointer (some ⟨B, 0, none⟩), .int .i64 (-1), ls] w fun e w' => e = .returned ls ∧ w' = w := by
  go_enter Try.func47, Try.ntmps47
  go_wp2
  go_ret
  exact ⟨rfl, rfl⟩
/-- what pieces gives -/
def PG (w : World) (base : Nat) (ls : Value) (n : Nat) (xs : List Value) (t : Tr) (e : Ending) (w' : World) : Prop :=
  ∃ l', e = .returned l' ∧ w'.ownsRow base 32 4 l' (n + t.size) (xs ++ cells t.list) ∧ Grl w w' ls l'
set_option maxHeartbeats 1000000 in
theorem wpieces_nil (B : Nat) (ls : Value) (w : World) : Calls Try.prog 49 #[.pointer (some ⟨B, 0, none⟩), .int .i64 (-1), ls] w fun e w' => e = .returned ls ∧ w' = w := by
  go_enter Try.func49, Try.ntmps49
  go_wp2
  go_ret
  exact ⟨rfl, rfl⟩
/-- a node's eleven cells -/
theorem Wd.eleven {W : World} {base B : Nat} {v : Value} {N : List Nd} {j : Nat} {c : Bool} {l r : Tr} {ps po pl pn li ri : Int} (h : Wd W base B v N) (hj : N[j]? = some (ndOf c l ⟨ps, po, pl, pn⟩ r li ri)) :
    ∃ g cap, v = .slice (some ⟨g, 0, none⟩) N.length cap ∧ W.cell? ⟨B, 0, none⟩ = some v ∧ W.cell? ⟨g, j * 11, none⟩ = some (.int .i64 ps) ∧ W.cell? ⟨g, j * 11 + 1, none⟩ = some (.int .i64 po) ∧ W.cell? ⟨g, j * 11 + 2, none⟩ = some (.int .i64 pl) ∧ W.cell? ⟨g, j * 11 + 3, none⟩ = some (.int .i64 pn) ∧ W.cell? ⟨g, j * 11 + 4, none⟩ = some (.bool c) ∧ W.cell? ⟨g, j * 11 + 5, none⟩ = some (.int .i64 li) ∧ W.cell? ⟨g, j * 11 + 6, none⟩ = some (.int .i64 ri) ∧ W.cell? ⟨g, j * 11 + 7, none⟩ = some (.int .i64 ((Tr.mk (some (c, l, ⟨ps, po, pl, pn⟩, r))).size : Nat)) ∧ W.cell? ⟨g, j * 11 + 8, none⟩ = some (.int .i64 (Tr.mk (some (c, l, ⟨ps, po, pl, pn⟩, r))).byt) ∧ W.cell? ⟨g, j * 11 + 9, none⟩ = some (.int .i64 (Tr.mk (some (c, l, ⟨ps, po, pl, pn⟩, r))).lin) ∧ W.cell? ⟨g, j * 11 + 10, none⟩ = some (.int .i64 ((Tr.mk (some (c, l, ⟨ps, po, pl, pn⟩, r))).bh : Nat)) := by
  obtain ⟨g, cap, hv, hc⟩ := h.node hj
  exact ⟨g, cap, hv, h.cell1, hc 0 (by omega), hc 1 (by omega), hc 2 (by omega), hc 3 (by omega), hc 4 (by omega), hc 5 (by omega), hc 6 (by omega), hc 7 (by omega), hc 8 (by omega), hc 9 (by omega), hc 10 (by omega)⟩
end Go.Proofs.Ytcaegdfbbjfgpaa

/- The contract of the wood's built. -/
namespace Go.Proofs.Ytcaegdfbbjfgpaa
open Go.RowKit

theorem ht_small {t : Tr} (h : t.whole) (hz : t.size ≤ 5000) : t.ht ≤ 24 := by
  have h1 := Tr.whole_low h
  have h2 : (t.size + 1) * (t.size + 1) ≤ 5001 * 5001 := Nat.mul_le_mul (by omega) (by omega)
  by_cases h3 : t.ht ≤ 24
  · exact h3
  · have : 2 ^ 25 ≤ 2 ^ t.ht := Nat.pow_le_pow_right (by omega) (by omega)
    omega
theorem Row.grw {W W' : World} {base B b off : Nat} {v v' : Value} {N : List Nd} {L : List Pc} (h : Row W b off L) (hg : Grw W W' B v v') (hw : Wd W base B v N) (hb : b < base) (hz : base ≤ W.heap.size) : Row W' b off L := fun j p hp => by
  have e : W'.heap[b]? = W.heap[b]? := hg.block b (by omega) (by have := hw.low; omega) (fun e => by have := (hw.own.lt b e.symm).1; omega)
  have hc : ∀ o, W'.cell? ⟨b, o, none⟩ = W.cell? ⟨b, o, none⟩ := fun o => World.cell?_of_block (a := ⟨b, o, none⟩) e
  rw [hc, hc, hc, hc]
  exact h j p hp
set_option maxHeartbeats 1000000 in
theorem wbuilt_nil (B : Nat) (ao : Option Addr) (c : Nat) (w : World) : Calls Try.prog 48 #[.pointer (some ⟨B, 0, none⟩), .slice ao 0 c] w fun e w' => e = .returned (.int .i64 (-1)) ∧ w' = w := by
  go_enter Try.func48, Try.ntmps48
  go_wp2
  go_ret
  exact ⟨rfl, rfl⟩
/-- a list value that lies below the wood -/
def Rdl (W : World) (base : Nat) (v : Value) (L : List Pc) : Prop := ∃ ao n c, v = .slice ao n c ∧ n = L.length ∧ n ≤ c ∧ (L = [] ∨ ∃ b off, ao = some ⟨b, off, none⟩ ∧ Row W b off L ∧ b < base)
/-- what built asks for -/
def Bq (base B : Nat) (L : List Pc) (x : Value) : Prop := ∀ (w : World) (v : Value) (N : List Nd), Wd w base B v N → Rdl w base x L → base ≤ w.heap.size → N.length + 148 * L.length ≤ 2097152 → Calls Try.prog 48 #[.pointer (some ⟨B, 0, none⟩), x] w fun e w' => Mades w base B v N (Tr.buildT L) (148 * L.length) e w'

set_option maxRecDepth 100000 in
set_option maxHeartbeats 4000000 in
theorem wbuilt_some (base B : Nat) (b off c n m : Nat) (L : List Pc) (s o l k : Int) (hN : Hid (n = L.length)) (hc : n ≤ c) (hcc : ¬ c = m + 1) (hz : Hid (n ≤ 5000)) (hmd : Hid (m = n / 2)) (hp : Hid (L[m]? = some ⟨s, o, l, k⟩)) (hfi : Hid (fineL L)) (w : World) (v : Value) (N : List Nd) (hW : Hid (Wd w base B v N)) (h : Hid (Row w b off L)) (hbb : Hid (b < base)) (hB : Hid (base ≤ w.heap.size)) (hq : Hid (N.length + 148 * L.length ≤ 2097152))
    (I1 : Hid (Bq base B (L.take m) (.slice (some ⟨b, off, none⟩) m c))) (I2 : Hid (Bq base B (L.drop (m + 1)) (.slice (some ⟨b, off + (m + 1) * 4, none⟩) (n - (m + 1)) (c - (m + 1))))) :
    Calls Try.prog 48 #[.pointer (some ⟨B, 0, none⟩), .slice (some ⟨b, off, none⟩) n c] w fun e w' => Mades w base B v N (Tr.buildT L) (148 * L.length) e w' := by
  have hlt : m < n := by have := (List.getElem?_eq_some_iff.1 hp.out).1; have := hN.out; omega
  have hne : ((n : Int) == 0) = false := by rw [beq_eq_false_iff_ne]; omega
  have hqq : Hid ((n : Int) / 2 = (m : Int)) := by have := hmd.out; unfold Hid; omega
  have i1' : (0 : Int) ≤ (m : Int) := by omega
  have i2' : (m : Int) < (n : Int) := by omega
  have i3' : (m : Int) ≤ (c : Int) := by omega
  have i4' : (m : Int) + 1 ≤ (n : Int) := by omega
  have i5' : (0 : Int) ≤ (m : Int) + 1 := by omega
  have i7' : (m : Int) + 1 ≤ (c : Int) := by omega
  have i6' : (n : Int) ≤ (c : Int) := by omega
  have hw' : IntKind.i64.wrap ((m : Int) + 1) = (m : Int) + 1 := by rw [IntKind.wrap_i64]; have := hz.out; omega
  have HT := Hid.mk' (show Tr.buildT L = Tr.joinT (Tr.buildT (L.take m)) ⟨s, o, l, k⟩ (Tr.buildT (L.drop (m + 1))) by
    have e := Tr.buildT_some (l := L) (p := ⟨s, o, l, k⟩) (by rw [← hN.out, ← hmd.out]; exact hp.out)
    rw [← hN.out, ← hmd.out] at e
    exact e)
  have hl1 : Hid ((L.take m).length = m) := by have := hN.out; unfold Hid; rw [List.length_take]; omega
  have hl2 : Hid ((L.drop (m + 1)).length = n - (m + 1)) := by have := hN.out; unfold Hid; rw [List.length_drop]; omega
  obtain ⟨a1, a2⟩ := Tr.buildT_ok _ (L.take m) (Nat.le_refl _)
  obtain ⟨b1, b2⟩ := Tr.buildT_ok _ (L.drop (m + 1)) (Nat.le_refl _)
  have za : (Tr.buildT (L.take m)).size = m := by rw [← Tr.size_list, a2]; exact hl1.out
  have zb : (Tr.buildT (L.drop (m + 1))).size = n - (m + 1) := by rw [← Tr.size_list, b2]; exact hl2.out
  have HA := Hid.mk' (And.intro a1 (And.intro za (And.intro (ht_small a1 (by have := hz.out; omega)) ((Tr.fits_list _).2 (by rw [a2]; exact (hfi.out.sub (List.take_sublist _ _)).1)))))
  have HB := Hid.mk' (And.intro b1 (And.intro zb (And.intro (ht_small b1 (by have := hz.out; omega)) ((Tr.fits_list _).2 (by rw [b2]; exact (hfi.out.sub (List.drop_sublist _ _)).1)))))
  have hfp : Hid (Pc.fit ⟨s, o, l, k⟩) := hfi.out.1 _ (List.mem_of_getElem? hp.out)
  clear a1 a2 b1 b2 za zb
  have D1 := Hid.mk' (I1.out w v N hW.out ⟨_, _, _, rfl, hl1.out.symm, by omega, .inr ⟨b, off, rfl, h.out.take m, hbb.out⟩⟩ hB.out (by have := hq.out; have := hl1.out; have := hN.out; omega))
  have hzz : (n : Int) ≤ 5000 := by have := hz.out; omega
  go_enter Try.func48, Try.ntmps48
  go_upto_region 4 with fail
  rw [hqq.out]
  go_wp2_with fail
  refine D1.out.mono ?_
  rintro e w1 ⟨i1, v1, M1, rfl, q1, q2, q3, q4⟩
  have hrow1 := h.out.grw q3 hW.out hbb.out hB.out
  have H1 := Hid.mk' (And.intro q1 (And.intro q2 (And.intro q3 (And.intro q4 hrow1))))
  have hs1 := Hid.mk' q3.size
  clear q1 q2 q3 q4 hrow1 D1
  have D2 := Hid.mk' (I2.out w1 v1 (N ++ M1) H1.out.1 ⟨_, _, _, rfl, hl2.out.symm, by omega, .inr ⟨b, _, rfl, H1.out.2.2.2.2.drop (m + 1), hbb.out⟩⟩ (by have := hs1.out; have := hB.out; omega) (by have := hq.out; have := hl1.out; have := hl2.out; have := hN.out; have := H1.out.2.2.2.1; rw [List.length_append]; omega))
  go_wp2_with fail
  refine D2.out.mono ?_
  rintro e w2 ⟨i2, v2, M2, rfl, q1, q2, q3, q4⟩
  obtain ⟨r0, r1, r2, r3⟩ := row4 (H1.out.2.2.2.2.grw q3 H1.out.1 hbb.out (by have := hs1.out; have := hB.out; omega)) hp.out
  skip
  have H2 := Hid.mk' (And.intro q1 (And.intro q2 (And.intro q3 q4)))
  have hs2 := Hid.mk' q3.size
  clear q1 q2 q3 q4 D2
  have D3 := Hid.mk' (wjoin_any (Tr.buildT (L.take m)) (Tr.buildT (L.drop (m + 1))) i1 i2 s o l k base B v2 ((N ++ M1) ++ M2) w2 (by have x1 := hq.out; have x2 := hl1.out; have x3 := hl2.out; have x4 := hN.out; have x5 := H1.out.2.2.2.1; have x6 := H2.out.2.2.2; have x7 := HA.out.2.2.1; have x8 := HB.out.2.2.1; rw [List.length_append, List.length_append]; omega) (by have x1 := HA.out.2.1; have x2 := HB.out.2.1; have x3 := hz.out; omega) hfp.out ⟨HA.out.2.2.2, HA.out.1⟩ ⟨HB.out.2.2.2, HB.out.1⟩ H2.out.1 (H1.out.2.1.more M2) H2.out.2.1 (by have := hs1.out; have := hs2.out; have := hB.out; omega))
  go_wp2_with fail
  refine D3.out.mono ?_
  rintro e w3 ⟨i3, v3, M3, rfl, q1, q2, q3, q4⟩
  have H3 := Hid.mk' (And.intro q1 (And.intro q2 (And.intro q3 q4)))
  clear q1 q2 q3 q4 D3
  go_wp2
  go_ret
  refine ⟨i3, v3, M1 ++ (M2 ++ M3), rfl, by have := H3.out.1; simpa only [List.append_assoc] using this, by rw [HT.out]; have := H3.out.2.1; simpa only [List.append_assoc] using this, H1.out.2.2.1.trans (H2.out.2.2.1.trans H3.out.2.2.1), ?_⟩
  have x2 := hl1.out
  have x3 := hl2.out
  have x4 := hN.out
  have x5 := H1.out.2.2.2.1
  have x6 := H2.out.2.2.2
  have x7 := HA.out.2.2.1
  have x8 := HB.out.2.2.1
  have x9 := H3.out.2.2.2
  rw [List.length_append, List.length_append]
  omega

set_option maxRecDepth 100000 in
set_option maxHeartbeats 4000000 in
theorem wbuilt_one (base B : Nat) (b off : Nat) (L : List Pc) (s o l k : Int) (hN : Hid (1 = L.length))  (hz : Hid (1 ≤ 5000)) (hmd : Hid (0 = 1 / 2)) (hp : Hid (L[0]? = some ⟨s, o, l, k⟩)) (hfi : Hid (fineL L)) (w : World) (v : Value) (N : List Nd) (hW : Hid (Wd w base B v N)) (h : Hid (Row w b off L)) (hbb : Hid (b < base)) (hB : Hid (base ≤ w.heap.size)) (hq : Hid (N.length + 148 * L.length ≤ 2097152))
    (I1 : Hid (Bq base B (L.take 0) (.slice (some ⟨b, off, none⟩) 0 1))) (I2 : Hid (∀ ao, Bq base B (L.drop (0 + 1)) (.slice ao 0 0))) :
    Calls Try.prog 48 #[.pointer (some ⟨B, 0, none⟩), .slice (some ⟨b, off, none⟩) 1 1] w fun e w' => Mades w base B v N (Tr.buildT L) (148 * L.length) e w' := by
  have hlt : 0 < 1 := by have := (List.getElem?_eq_some_iff.1 hp.out).1; have := hN.out; omega
  have hw1 : IntKind.i64.wrap 1 = 1 := by rw [IntKind.wrap_i64]; omega
  have hw2 : IntKind.i64.wrap 2 = 2 := by rw [IntKind.wrap_i64]; omega
  have HT := Hid.mk' (show Tr.buildT L = Tr.joinT (Tr.buildT (L.take 0)) ⟨s, o, l, k⟩ (Tr.buildT (L.drop (0 + 1))) by
    have e := Tr.buildT_some (l := L) (p := ⟨s, o, l, k⟩) (by rw [← hN.out, ← hmd.out]; exact hp.out)
    rw [← hN.out, ← hmd.out] at e
    exact e)
  have hl1 : Hid ((L.take 0).length = 0) := by have := hN.out; unfold Hid; rw [List.length_take]; omega
  have hl2 : Hid ((L.drop (0 + 1)).length = 1 - (0 + 1)) := by have := hN.out; unfold Hid; rw [List.length_drop]; omega
  obtain ⟨a1, a2⟩ := Tr.buildT_ok _ (L.take 0) (Nat.le_refl _)
  obtain ⟨b1, b2⟩ := Tr.buildT_ok _ (L.drop (0 + 1)) (Nat.le_refl _)
  have za : (Tr.buildT (L.take 0)).size = 0 := by rw [← Tr.size_list, a2]; exact hl1.out
  have zb : (Tr.buildT (L.drop (0 + 1))).size = 1 - (0 + 1) := by rw [← Tr.size_list, b2]; exact hl2.out
  have HA := Hid.mk' (And.intro a1 (And.intro za (And.intro (ht_small a1 (by have := hz.out; omega)) ((Tr.fits_list _).2 (by rw [a2]; exact (hfi.out.sub (List.take_sublist _ _)).1)))))
  have HB := Hid.mk' (And.intro b1 (And.intro zb (And.intro (ht_small b1 (by have := hz.out; omega)) ((Tr.fits_list _).2 (by rw [b2]; exact (hfi.out.sub (List.drop_sublist _ _)).1)))))
  have hfp : Hid (Pc.fit ⟨s, o, l, k⟩) := hfi.out.1 _ (List.mem_of_getElem? hp.out)
  clear a1 a2 b1 b2 za zb
  have D1 := Hid.mk' (I1.out w v N hW.out ⟨_, _, _, rfl, hl1.out.symm, by omega, .inr ⟨b, off, rfl, h.out.take 0, hbb.out⟩⟩ hB.out (by have := hq.out; have := hl1.out; have := hN.out; omega))
  go_enter Try.func48, Try.ntmps48
  skip
  go_wp2_with fail
  refine D1.out.mono ?_
  rintro e w1 ⟨i1, v1, M1, rfl, q1, q2, q3, q4⟩
  have hrow1 := h.out.grw q3 hW.out hbb.out hB.out
  have H1 := Hid.mk' (And.intro q1 (And.intro q2 (And.intro q3 (And.intro q4 hrow1))))
  have hs1 := Hid.mk' q3.size
  clear q1 q2 q3 q4 hrow1 D1
  have D2 := Hid.mk' (fun ao => I2.out ao w1 v1 (N ++ M1) H1.out.1 ⟨_, _, _, rfl, hl2.out.symm, by omega, .inl (List.eq_nil_of_length_eq_zero (by have := hl2.out; omega))⟩ (by have := hs1.out; have := hB.out; omega) (by have := hq.out; have := hl1.out; have := hl2.out; have := hN.out; have := H1.out.2.2.2.1; rw [List.length_append]; omega))
  go_wp2_with fail
  refine (D2.out _).mono ?_
  rintro e w2 ⟨i2, v2, M2, rfl, q1, q2, q3, q4⟩
  obtain ⟨r0, r1, r2, r3⟩ := row4 (H1.out.2.2.2.2.grw q3 H1.out.1 hbb.out (by have := hs1.out; have := hB.out; omega)) hp.out
  simp only [Nat.zero_mul, Nat.add_zero] at r0 r1 r2 r3
  have H2 := Hid.mk' (And.intro q1 (And.intro q2 (And.intro q3 q4)))
  have hs2 := Hid.mk' q3.size
  clear q1 q2 q3 q4 D2
  have D3 := Hid.mk' (wjoin_any (Tr.buildT (L.take 0)) (Tr.buildT (L.drop (0 + 1))) i1 i2 s o l k base B v2 ((N ++ M1) ++ M2) w2 (by have x1 := hq.out; have x2 := hl1.out; have x3 := hl2.out; have x4 := hN.out; have x5 := H1.out.2.2.2.1; have x6 := H2.out.2.2.2; have x7 := HA.out.2.2.1; have x8 := HB.out.2.2.1; rw [List.length_append, List.length_append]; omega) (by have x1 := HA.out.2.1; have x2 := HB.out.2.1; have x3 := hz.out; omega) hfp.out ⟨HA.out.2.2.2, HA.out.1⟩ ⟨HB.out.2.2.2, HB.out.1⟩ H2.out.1 (H1.out.2.1.more M2) H2.out.2.1 (by have := hs1.out; have := hs2.out; have := hB.out; omega))
  go_wp2_with fail
  refine D3.out.mono ?_
  rintro e w3 ⟨i3, v3, M3, rfl, q1, q2, q3, q4⟩
  have H3 := Hid.mk' (And.intro q1 (And.intro q2 (And.intro q3 q4)))
  clear q1 q2 q3 q4 D3
  go_wp2
  go_ret
  refine ⟨i3, v3, M1 ++ (M2 ++ M3), rfl, by have := H3.out.1; simpa only [List.append_assoc] using this, by rw [HT.out]; have := H3.out.2.1; simpa only [List.append_assoc] using this, H1.out.2.2.1.trans (H2.out.2.2.1.trans H3.out.2.2.1), ?_⟩
  have x2 := hl1.out
  have x3 := hl2.out
  have x4 := hN.out
  have x5 := H1.out.2.2.2.1
  have x6 := H2.out.2.2.2
  have x7 := HA.out.2.2.1
  have x8 := HB.out.2.2.1
  have x9 := H3.out.2.2.2
  rw [List.length_append, List.length_append]
  omega

set_option maxRecDepth 100000 in
set_option maxHeartbeats 4000000 in
theorem wbuilt_two (base B : Nat) (b off : Nat) (L : List Pc) (s o l k : Int) (hN : Hid (2 = L.length))  (hz : Hid (2 ≤ 5000)) (hmd : Hid (1 = 2 / 2)) (hp : Hid (L[1]? = some ⟨s, o, l, k⟩)) (hfi : Hid (fineL L)) (w : World) (v : Value) (N : List Nd) (hW : Hid (Wd w base B v N)) (h : Hid (Row w b off L)) (hbb : Hid (b < base)) (hB : Hid (base ≤ w.heap.size)) (hq : Hid (N.length + 148 * L.length ≤ 2097152))
    (I1 : Hid (Bq base B (L.take 1) (.slice (some ⟨b, off, none⟩) 1 2))) (I2 : Hid (∀ ao, Bq base B (L.drop (1 + 1)) (.slice ao 0 0))) :
    Calls Try.prog 48 #[.pointer (some ⟨B, 0, none⟩), .slice (some ⟨b, off, none⟩) 2 2] w fun e w' => Mades w base B v N (Tr.buildT L) (148 * L.length) e w' := by
  have hlt : 1 < 2 := by have := (List.getElem?_eq_some_iff.1 hp.out).1; have := hN.out; omega
  have hw1 : IntKind.i64.wrap 1 = 1 := by rw [IntKind.wrap_i64]; omega
  have hw2 : IntKind.i64.wrap 2 = 2 := by rw [IntKind.wrap_i64]; omega
  have HT := Hid.mk' (show Tr.buildT L = Tr.joinT (Tr.buildT (L.take 1)) ⟨s, o, l, k⟩ (Tr.buildT (L.drop (1 + 1))) by
    have e := Tr.buildT_some (l := L) (p := ⟨s, o, l, k⟩) (by rw [← hN.out, ← hmd.out]; exact hp.out)
    rw [← hN.out, ← hmd.out] at e
    exact e)
  have hl1 : Hid ((L.take 1).length = 1) := by have := hN.out; unfold Hid; rw [List.length_take]; omega
  have hl2 : Hid ((L.drop (1 + 1)).length = 2 - (1 + 1)) := by have := hN.out; unfold Hid; rw [List.length_drop]; omega
  obtain ⟨a1, a2⟩ := Tr.buildT_ok _ (L.take 1) (Nat.le_refl _)
  obtain ⟨b1, b2⟩ := Tr.buildT_ok _ (L.drop (1 + 1)) (Nat.le_refl _)
  have za : (Tr.buildT (L.take 1)).size = 1 := by rw [← Tr.size_list, a2]; exact hl1.out
  have zb : (Tr.buildT (L.drop (1 + 1))).size = 2 - (1 + 1) := by rw [← Tr.size_list, b2]; exact hl2.out
  have HA := Hid.mk' (And.intro a1 (And.intro za (And.intro (ht_small a1 (by have := hz.out; omega)) ((Tr.fits_list _).2 (by rw [a2]; exact (hfi.out.sub (List.take_sublist _ _)).1)))))
  have HB := Hid.mk' (And.intro b1 (And.intro zb (And.intro (ht_small b1 (by have := hz.out; omega)) ((Tr.fits_list _).2 (by rw [b2]; exact (hfi.out.sub (List.drop_sublist _ _)).1)))))
  have hfp : Hid (Pc.fit ⟨s, o, l, k⟩) := hfi.out.1 _ (List.mem_of_getElem? hp.out)
  clear a1 a2 b1 b2 za zb
  have D1 := Hid.mk' (I1.out w v N hW.out ⟨_, _, _, rfl, hl1.out.symm, by omega, .inr ⟨b, off, rfl, h.out.take 1, hbb.out⟩⟩ hB.out (by have := hq.out; have := hl1.out; have := hN.out; omega))
  go_enter Try.func48, Try.ntmps48
  skip
  go_wp2_with fail
  refine D1.out.mono ?_
  rintro e w1 ⟨i1, v1, M1, rfl, q1, q2, q3, q4⟩
  have hrow1 := h.out.grw q3 hW.out hbb.out hB.out
  have H1 := Hid.mk' (And.intro q1 (And.intro q2 (And.intro q3 (And.intro q4 hrow1))))
  have hs1 := Hid.mk' q3.size
  clear q1 q2 q3 q4 hrow1 D1
  have D2 := Hid.mk' (fun ao => I2.out ao w1 v1 (N ++ M1) H1.out.1 ⟨_, _, _, rfl, hl2.out.symm, by omega, .inl (List.eq_nil_of_length_eq_zero (by have := hl2.out; omega))⟩ (by have := hs1.out; have := hB.out; omega) (by have := hq.out; have := hl1.out; have := hl2.out; have := hN.out; have := H1.out.2.2.2.1; rw [List.length_append]; omega))
  go_wp2_with fail
  refine (D2.out _).mono ?_
  rintro e w2 ⟨i2, v2, M2, rfl, q1, q2, q3, q4⟩
  obtain ⟨r0, r1, r2, r3⟩ := row4 (H1.out.2.2.2.2.grw q3 H1.out.1 hbb.out (by have := hs1.out; have := hB.out; omega)) hp.out
  simp only [Nat.one_mul, Nat.add_assoc, Nat.reduceAdd] at r0 r1 r2 r3
  have H2 := Hid.mk' (And.intro q1 (And.intro q2 (And.intro q3 q4)))
  have hs2 := Hid.mk' q3.size
  clear q1 q2 q3 q4 D2
  have D3 := Hid.mk' (wjoin_any (Tr.buildT (L.take 1)) (Tr.buildT (L.drop (1 + 1))) i1 i2 s o l k base B v2 ((N ++ M1) ++ M2) w2 (by have x1 := hq.out; have x2 := hl1.out; have x3 := hl2.out; have x4 := hN.out; have x5 := H1.out.2.2.2.1; have x6 := H2.out.2.2.2; have x7 := HA.out.2.2.1; have x8 := HB.out.2.2.1; rw [List.length_append, List.length_append]; omega) (by have x1 := HA.out.2.1; have x2 := HB.out.2.1; have x3 := hz.out; omega) hfp.out ⟨HA.out.2.2.2, HA.out.1⟩ ⟨HB.out.2.2.2, HB.out.1⟩ H2.out.1 (H1.out.2.1.more M2) H2.out.2.1 (by have := hs1.out; have := hs2.out; have := hB.out; omega))
  go_wp2_with fail
  refine D3.out.mono ?_
  rintro e w3 ⟨i3, v3, M3, rfl, q1, q2, q3, q4⟩
  have H3 := Hid.mk' (And.intro q1 (And.intro q2 (And.intro q3 q4)))
  clear q1 q2 q3 q4 D3
  go_wp2
  go_ret
  refine ⟨i3, v3, M1 ++ (M2 ++ M3), rfl, by have := H3.out.1; simpa only [List.append_assoc] using this, by rw [HT.out]; have := H3.out.2.1; simpa only [List.append_assoc] using this, H1.out.2.2.1.trans (H2.out.2.2.1.trans H3.out.2.2.1), ?_⟩
  have x2 := hl1.out
  have x3 := hl2.out
  have x4 := hN.out
  have x5 := H1.out.2.2.2.1
  have x6 := H2.out.2.2.2
  have x7 := HA.out.2.2.1
  have x8 := HB.out.2.2.1
  have x9 := H3.out.2.2.2
  rw [List.length_append, List.length_append]
  omega

theorem wbuilt_any (base B : Nat) (z : Nat) : ∀ (L : List Pc) (x : Value), L.length ≤ z → L.length ≤ 5000 → fineL L → Bq base B L x := by
  induction z with
  | zero =>
    rintro L x hz h5 hf w v N hW ⟨ao, n, c, rfl, hn, hc, hr⟩ hB hq
    obtain rfl : L = [] := List.eq_nil_of_length_eq_zero (by omega)
    obtain rfl : n = 0 := hn
    refine (wbuilt_nil B ao c w).mono ?_
    rintro e w' ⟨rfl, rfl⟩
    exact ⟨-1, v, [], rfl, by simpa using hW, by rw [Tr.buildT_nil]; rfl, Grw.refl _ _ _, by simp⟩
  | succ z ih =>
    rintro L x hz h5 hf w v N hW ⟨ao, n, c, rfl, hn, hc, hr⟩ hB hq
    rcases hp : L[n / 2]? with _ | ⟨s, o, l, k⟩
    · have := List.getElem?_eq_none_iff.1 hp
      obtain rfl : L = [] := List.eq_nil_of_length_eq_zero (by omega)
      obtain rfl : n = 0 := hn
      refine (wbuilt_nil B ao c w).mono ?_
      rintro e w' ⟨rfl, rfl⟩
      exact ⟨-1, v, [], rfl, by simpa using hW, by rw [Tr.buildT_nil]; rfl, Grw.refl _ _ _, by simp⟩
    · rcases hr with rfl | ⟨b, off, rfl, hr, hbb⟩
      · simp at hp
      · have hlt := (List.getElem?_eq_some_iff.1 hp).1
        have I : ∀ M : List Pc, M.length < L.length → M.Sublist L → ∀ y, Bq base B M y := fun M h1 h2 y => ih M y (by omega) (by omega) (hf.sub h2)
        by_cases hcc : c = n / 2 + 1
        · have : (n = 1 ∧ c = 1) ∨ (n = 2 ∧ c = 2) := by omega
          rcases this with ⟨rfl, rfl⟩ | ⟨rfl, rfl⟩
          · exact wbuilt_one base B b off L s o l k hn (by unfold Hid; omega) rfl hp hf w v N hW hr hbb hB hq (I _ (by rw [List.length_take]; omega) (List.take_sublist _ _) _) (fun ao => I _ (by rw [List.length_drop]; omega) (List.drop_sublist _ _) _)
          · exact wbuilt_two base B b off L s o l k hn (by unfold Hid; omega) rfl hp hf w v N hW hr hbb hB hq (I _ (by rw [List.length_take]; omega) (List.take_sublist _ _) _) (fun ao => I _ (by rw [List.length_drop]; omega) (List.drop_sublist _ _) _)
        · exact wbuilt_some base B b off c n (n / 2) L s o l k hn hc hcc (by unfold Hid; omega) rfl hp hf w v N hW hr hbb hB hq (I _ (by rw [List.length_take]; omega) (List.take_sublist _ _) _) (I _ (by rw [List.length_drop]; omega) (List.drop_sublist _ _) _)
end Go.Proofs.Ytcaegdfbbjfgpaa

