/- The contract of the reference's look: the walk. -/
import Derived.Test.YtcaegdfbbjfgpaaAm09
namespace Go.Proofs.Ytcaegdfbbjfgpaa
open Go.RowKit

/-- what look answers -/
def Looked (w : World) (L : List Rw) (e : Ending) (w' : World) : Prop :=
  (∃ b0 i1 i2 i3 i4 i5, e = .returned (.tuple #[.agg #[.bool b0, .int .i64 i1, .int .i64 i2, .int .i64 i3, .int .i64 i4, .int .i64 i5], .bool (okF (lookF L))]) ∧ (∀ t, lookF L = some [t] → i2 = (t.ht : Nat)) ∧ (lookF L = some [] → i2 = 0)) ∧ Below w.heap.size w w'

set_option maxRecDepth 100000 in
set_option maxHeartbeats 8000000 in
theorem look_any (b off n c : Nat) (L : List Rw) (w : World) (hn : Hid (n = L.length)) (hz : n ≤ 65536) (hr : Hid (RowR w b off L)) :
    Calls Try.prog 55 #[.slice (some ⟨b, off, none⟩) n c] w fun e w' => Looked w L e w' := by
  obtain ⟨i0, hi, hz0, hz1, hz2⟩ := info_parts info93
  have I93 := Hid.mk' (And.intro hi (And.intro hz0 (And.intro hz1 hz2)))
  obtain ⟨w1, hw1⟩ : ∃ w1, w1 = w.alloc (.cells z6 93) := ⟨_, rfl⟩
  have HW1 := Hid.mk' hw1
  have hs1 : Hid (w1.heap.size = w.heap.size + 1) := by unfold Hid; rw [hw1]; simp
  have hr1 : Hid (RowR w1 b off L) := by unfold Hid; rw [hw1]; exact hr.out.keep (bAlloc (Below.refl _ _) _)
  have hB1 : Hid (Blk w1 w.heap.size 93 z6) := by unfold Hid; rw [hw1]; exact Blk.new _ _ _
  have hbw : Hid (∀ W, Below w1.heap.size w1 W → Below w.heap.size w W) := by unfold Hid; rw [hw1]; exact fun W h => bA h
  clear hw1 hi hz0 hz1 hz2
  go_enter Try.func55, Try.ntmps55
  go_wp2_with fail
  go_loopg [4, 5] n (fun k g i wr => ∃ F, k ≤ n ∧ i = .int .i64 ((k : Int) - 1) ∧ lookF (L.drop k) = some F ∧ wr.ownsRow w1.heap.size 93 6 g F.length (scells F) ∧ Below w1.heap.size w1 wr)
  case atStart => exact ⟨[], Nat.le_refl _, by go_num, by rw [hn.out]; simp [lookF], World.ownsRow_nil _ _ _ _, by rw [HW1.out]; exact Below.refl _ _⟩
  case round =>
    obtain ⟨F, hj, rfl, hlk, hown, hb⟩ := hrel
    have HW := Hid.mk' hown
    have HB := Hid.mk' hb
    have HK := Hid.mk' hlk
    clear hown hb hlk
    cases gk with
    | zero =>
      have HK2 : Hid (lookF L = some F) := HK.out
      have hzb := Hid.mk' (hB1.out.keep HB.out)
      obtain ⟨z0, z1, z2, z3, z4, z5⟩ := blk6 hzb.out
      have fz := hzb.out.frozen
      rw [show (((0 : Nat) : Int) - 1) = -1 from rfl]
      cases F with
      | nil =>
        obtain ⟨ag, cg, hu4⟩ := own_shape HW.out
        subst hu4
        go_wp2_with fail
        refine bodyPost_ret (v := .tuple #[.agg #[.bool false, .int .i64 0, .int .i64 0, .int .i64 0, .int .i64 0, .int .i64 0], .bool true]) (by simp [results, Try.results55, go_sem, z0, z1, z2, z3, z4, z5]) rfl ⟨⟨false, 0, 0, 0, 0, 0, by rw [HK2.out]; rfl, fun t ht => (by rw [HK2.out] at ht; simp at ht), fun _ => rfl⟩, ?_⟩
        exact put6_below (hbw.out _ HB.out) (Nat.le_refl _) _ _ _ _ _ _
      | cons t F1 =>
        obtain ⟨g, cap, hag, hcap⟩ := own_form HW.out
        subst hag
        obtain ⟨bt, hbt, t0, t1, t2, t3, t4, t5⟩ := own_bot HW.out
        have HBT := Hid.mk' hbt
        have hg1 : w.heap.size < g := by have h1 := (HW.out.lt g rfl).1; have h2 := hs1.out; omega
        have hg2 : ¬ g = w.heap.size := by omega
        have hg3 : ¬ w.heap.size = g := by omega
        clear hbt
        have K : wr.cell? ⟨g, 0, none⟩ = some (.bool bt.red) ∧ wr.cell? ⟨g, 1, none⟩ = some (.int .i64 (bt.bh : Nat)) ∧ wr.cell? ⟨g, 2, none⟩ = some (.int .i64 (bt.ht : Nat)) ∧ wr.cell? ⟨g, 3, none⟩ = some (.int .i64 (bt.size : Nat)) ∧ wr.cell? ⟨g, 4, none⟩ = some (.int .i64 bt.byt) ∧ wr.cell? ⟨g, 5, none⟩ = some (.int .i64 bt.lin) := ⟨t0, t1, t2, t3, t4, t5⟩
        have K0 : wr.drew.cell? ⟨g, 0, none⟩ = some (.bool bt.red) ∧ wr.drew.cell? ⟨g, 1, none⟩ = some (.int .i64 (bt.bh : Nat)) ∧ wr.drew.cell? ⟨g, 2, none⟩ = some (.int .i64 (bt.ht : Nat)) ∧ wr.drew.cell? ⟨g, 3, none⟩ = some (.int .i64 (bt.size : Nat)) ∧ wr.drew.cell? ⟨g, 4, none⟩ = some (.int .i64 bt.byt) ∧ wr.drew.cell? ⟨g, 5, none⟩ = some (.int .i64 bt.lin) := ⟨t0, t1, t2, t3, t4, t5⟩
        have K1 : ((((((wr.setCell ⟨w.heap.size, 0, none⟩ (.bool bt.red)).setCell ⟨w.heap.size, 1, none⟩ (.int .i64 (bt.bh : Nat))).setCell ⟨w.heap.size, 2, none⟩ (.int .i64 (bt.ht : Nat))).setCell ⟨w.heap.size, 3, none⟩ (.int .i64 (bt.size : Nat))).setCell ⟨w.heap.size, 4, none⟩ (.int .i64 bt.byt)).setCell ⟨w.heap.size, 5, none⟩ (.int .i64 bt.lin)).drew.cell? ⟨g, 0, none⟩ = some (.bool bt.red) ∧ ((((((wr.setCell ⟨w.heap.size, 0, none⟩ (.bool bt.red)).setCell ⟨w.heap.size, 1, none⟩ (.int .i64 (bt.bh : Nat))).setCell ⟨w.heap.size, 2, none⟩ (.int .i64 (bt.ht : Nat))).setCell ⟨w.heap.size, 3, none⟩ (.int .i64 (bt.size : Nat))).setCell ⟨w.heap.size, 4, none⟩ (.int .i64 bt.byt)).setCell ⟨w.heap.size, 5, none⟩ (.int .i64 bt.lin)).drew.cell? ⟨g, 1, none⟩ = some (.int .i64 (bt.bh : Nat)) ∧ ((((((wr.setCell ⟨w.heap.size, 0, none⟩ (.bool bt.red)).setCell ⟨w.heap.size, 1, none⟩ (.int .i64 (bt.bh : Nat))).setCell ⟨w.heap.size, 2, none⟩ (.int .i64 (bt.ht : Nat))).setCell ⟨w.heap.size, 3, none⟩ (.int .i64 (bt.size : Nat))).setCell ⟨w.heap.size, 4, none⟩ (.int .i64 bt.byt)).setCell ⟨w.heap.size, 5, none⟩ (.int .i64 bt.lin)).drew.cell? ⟨g, 2, none⟩ = some (.int .i64 (bt.ht : Nat)) ∧ ((((((wr.setCell ⟨w.heap.size, 0, none⟩ (.bool bt.red)).setCell ⟨w.heap.size, 1, none⟩ (.int .i64 (bt.bh : Nat))).setCell ⟨w.heap.size, 2, none⟩ (.int .i64 (bt.ht : Nat))).setCell ⟨w.heap.size, 3, none⟩ (.int .i64 (bt.size : Nat))).setCell ⟨w.heap.size, 4, none⟩ (.int .i64 bt.byt)).setCell ⟨w.heap.size, 5, none⟩ (.int .i64 bt.lin)).drew.cell? ⟨g, 3, none⟩ = some (.int .i64 (bt.size : Nat)) ∧ ((((((wr.setCell ⟨w.heap.size, 0, none⟩ (.bool bt.red)).setCell ⟨w.heap.size, 1, none⟩ (.int .i64 (bt.bh : Nat))).setCell ⟨w.heap.size, 2, none⟩ (.int .i64 (bt.ht : Nat))).setCell ⟨w.heap.size, 3, none⟩ (.int .i64 (bt.size : Nat))).setCell ⟨w.heap.size, 4, none⟩ (.int .i64 bt.byt)).setCell ⟨w.heap.size, 5, none⟩ (.int .i64 bt.lin)).drew.cell? ⟨g, 4, none⟩ = some (.int .i64 bt.byt) ∧ ((((((wr.setCell ⟨w.heap.size, 0, none⟩ (.bool bt.red)).setCell ⟨w.heap.size, 1, none⟩ (.int .i64 (bt.bh : Nat))).setCell ⟨w.heap.size, 2, none⟩ (.int .i64 (bt.ht : Nat))).setCell ⟨w.heap.size, 3, none⟩ (.int .i64 (bt.size : Nat))).setCell ⟨w.heap.size, 4, none⟩ (.int .i64 bt.byt)).setCell ⟨w.heap.size, 5, none⟩ (.int .i64 bt.lin)).drew.cell? ⟨g, 5, none⟩ = some (.int .i64 bt.lin) := six_far_drew (W := wr) hg2 K
        cases F1 with
        | nil =>
          go_wp2_with fail
          go_region_held3 (fun w' => w'.cell? ⟨g, 0, none⟩ = some (.bool bt.red) ∧ w'.cell? ⟨g, 1, none⟩ = some (.int .i64 (bt.bh : Nat)) ∧ w'.cell? ⟨g, 2, none⟩ = some (.int .i64 (bt.ht : Nat)) ∧ w'.cell? ⟨g, 3, none⟩ = some (.int .i64 (bt.size : Nat)) ∧ w'.cell? ⟨g, 4, none⟩ = some (.int .i64 bt.byt) ∧ w'.cell? ⟨g, 5, none⟩ = some (.int .i64 bt.lin)) (with_reducible assumption) (fail)
          clear K K0 K1 t0 t1 t2 t3 t4 t5
          go_wp2_with fail
          refine bodyPost_ret (v := .tuple #[.agg #[.bool bt.red, .int .i64 (bt.bh : Nat), .int .i64 (bt.ht : Nat), .int .i64 (bt.size : Nat), .int .i64 bt.byt, .int .i64 bt.lin], .bool (!bt.red)]) (by simp [results, Try.results55, go_sem, z0, z1, z2, z3, z4, z5]) rfl ⟨⟨bt.red, (bt.bh : Nat), (bt.ht : Nat), (bt.size : Nat), bt.byt, bt.lin, ?_, ?_, ?_⟩, ?_⟩
          · rw [HK2.out, HBT.out (by first | rfl | trivial)]; rfl
          · intro t2 ht2
            rw [HK2.out] at ht2
            simp at ht2
            rw [← ht2, HBT.out (by first | rfl | trivial)]
          · intro h; rw [HK2.out] at h; simp at h
          · exact (put6_below (hbw.out _ HB.out) (Nat.le_refl _) _ _ _ _ _ _).drew
        | cons t' F2 =>
          have hln : (((F2.length : Int) + 1 + 1) == 1) = false := by simp; omega
          have hl0 : (0 : Int) < (F2.length : Int) + 1 + 1 := by omega
          go_wp2_with fail
          clear K K0 K1
          refine wp_region_noPanic ?_
          refine wp_region_any (by kernel_rfl) ?_
          change wpAny _ _ _ _ _ _ _ (World.drew _)
          refine wpAny_take (i := 0) (v := .slice (some ⟨g, 0, none⟩) (F2.length + 1 + 1) cap) rfl (by kernel_rfl) (by kernel_rfl) (by kernel_rfl) (fun _ _ _ h => h) (Or.inl ⟨by kernel_rfl, fun w => by go_simp⟩) ?_
          refine wpAny_take (i := 3) (v := .slice (some ⟨g, 0, none⟩) (F2.length + 1 + 1) cap) rfl (by kernel_rfl) (by kernel_rfl) (by kernel_rfl) (fun _ _ _ h => h) (Or.inl ⟨by kernel_rfl, fun w => by go_simp⟩) ?_
          refine wpAny_take (i := 4) (v := .int .i64 ((F2.length : Int) + 1 + 1)) rfl (by kernel_rfl) (by kernel_rfl) (by kernel_rfl) (fun _ _ _ h => h) (Or.inl ⟨by kernel_rfl, fun w => by go_simp⟩) ?_
          refine wpAny_take (i := 5) (v := .bool false) rfl (by kernel_rfl) (by kernel_rfl) (by kernel_rfl) (fun _ _ _ h => h) (Or.inl ⟨by kernel_rfl, fun w => by go_simp⟩) ?_
          refine wpAny_take (i := 6) (v := .bool false) rfl (by kernel_rfl) (by kernel_rfl) (by kernel_rfl) (fun _ _ _ h => h) (Or.inl ⟨by kernel_rfl, fun w => by go_simp⟩) ?_
          refine wpAny_take (i := 1) (v := .pointer (some ⟨g, 0, none⟩)) rfl (by kernel_rfl) (by kernel_rfl) (by kernel_rfl) (fun _ _ _ h => h) (Or.inl ⟨by kernel_rfl, fun w => by go_simp⟩) ?_
          refine wpAny_take (i := 7) (v := undef) rfl (by kernel_rfl) (by kernel_rfl) (by kernel_rfl) (fun _ _ _ h => h) (Or.inr ⟨by kernel_rfl, rfl⟩) ?_
          refine wpAny_take (i := 8) (v := undef) rfl (by kernel_rfl) (by kernel_rfl) (by kernel_rfl) (fun _ _ _ h => h) (Or.inr ⟨by kernel_rfl, rfl⟩) ?_
          refine wpAny_take (i := 9) (v := undef) rfl (by kernel_rfl) (by kernel_rfl) (by kernel_rfl) (fun _ _ _ h => h) (Or.inr ⟨by kernel_rfl, rfl⟩) ?_
          refine wpAny_take (i := 10) (v := undef) rfl (by kernel_rfl) (by kernel_rfl) (by kernel_rfl) (fun _ _ _ h => h) (Or.inr ⟨by kernel_rfl, rfl⟩) ?_
          refine wpAny_take (i := 11) (v := undef) rfl (by kernel_rfl) (by kernel_rfl) (by kernel_rfl) (fun _ _ _ h => h) (Or.inr ⟨by kernel_rfl, rfl⟩) ?_
          refine wpAny_take (i := 12) (v := .bool false) rfl (by kernel_rfl) (by kernel_rfl) (by kernel_rfl) (fun _ _ _ h => h) (Or.inl ⟨by kernel_rfl, fun w => by go_simp⟩) ?_
          refine wpAny_ready (rs := [2]) (by kernel_rfl) (by simp) (AllReady.cons rfl (fun K hK => ?_) AllReady.nil)
          go_simp
          refine hK _ _ ?_
          clear hK K
          refine wpAny_ready (rs := [13]) (by kernel_rfl) (by simp) (AllReady.cons rfl (fun K hK => ?_) AllReady.nil)
          go_simp
          refine hK _ _ ?_
          clear hK K
          refine wpAny_take (i := 14) (v := .bool false) rfl (by kernel_rfl) (by kernel_rfl) (by kernel_rfl) (fun _ _ _ h => h) (Or.inl ⟨by kernel_rfl, fun w => by go_simp⟩) ?_
          refine wpAny_done (by kernel_rfl) ?_ _
          refine NoPanic.normal ?_
          clear t0 t1 t2 t3 t4 t5
          go_wp2_with fail
          refine bodyPost_ret (v := .tuple #[.agg #[.bool bt.red, .int .i64 (bt.bh : Nat), .int .i64 (bt.ht : Nat), .int .i64 (bt.size : Nat), .int .i64 bt.byt, .int .i64 bt.lin], .bool false]) (by simp [results, Try.results55, go_sem, z0, z1, z2, z3, z4, z5]) rfl ⟨⟨bt.red, (bt.bh : Nat), (bt.ht : Nat), (bt.size : Nat), bt.byt, bt.lin, ?_, ?_, ?_⟩, ?_⟩
          · rw [HK2.out]; rfl
          · intro t2 ht2; rw [HK2.out] at ht2; simp at ht2
          · intro h; rw [HK2.out] at h; simp at h
          · exact (put6_below (hbw.out _ HB.out) (Nat.le_refl _) _ _ _ _ _ _).drew
    | succ k =>
      rcases hp : L[k]? with _ | ⟨⟨ps, po, pl, pn⟩, xr, xl, xg, xc, xb, xn⟩
      · have := List.getElem?_eq_none_iff.1 hp; have := hn.out; omega
      obtain ⟨r0, r1, r2, r3, r4, r5, r6, r7, r8, r9⟩ := (hr1.out.keep HB.out) k _ hp
      simp only at r0 r1 r2 r3 r4 r5 r6 r7 r8 r9
      have hD : Hid (L.drop k = ⟨⟨ps, po, pl, pn⟩, xr, xl, xg, xc, xb, xn⟩ :: L.drop (k + 1)) := by
        obtain ⟨q1, q2⟩ := List.getElem?_eq_some_iff.1 hp
        unfold Hid; rw [List.drop_eq_getElem_cons q1, q2]
      have hST : Hid (lookF (L.drop k) = stepF ⟨⟨ps, po, pl, pn⟩, xr, xl, xg, xc, xb, xn⟩ F) := by
        unfold Hid; rw [hD.out]; simp only [lookF]; rw [HK.out]
      have hGF : Hid (GoodF F ∧ L.drop (k + 1) = rowsF F) := lookF_ok _ _ HK.out
      have hlF : F.length ≤ 65536 := by have h1 := len_rowsF hGF.out.1; rw [← hGF.out.2, List.length_drop] at h1; have := hn.out; omega
      have hki : (((k + 1 : Nat) : Int) - 1) = (k : Int) := by omega
      have hk0 : (0 : Int) ≤ (k : Int) := by omega
      have hkn : (k : Int) < (n : Int) := by omega
      clear hp
      rw [hki]
      clear hki
      obtain ⟨ag, cg, hu4⟩ := own_shape HW.out
      subst hu4
      go_upto_region 6 with fail
      go_cut [7, 8] from 13 to 146 (fun p7 p8 wx => p7 = .pointer (some ⟨wr.heap.size + 1, 0, none⟩) ∧ p8 = .pointer (some ⟨wr.heap.size + 2, 0, none⟩) ∧ Kids wr wx ps po pl pn xr xl xg xc xb xn (Tr.mk none) (Tr.mk none))
      case first =>
        go_wp2_with fail
        go_meet
        exact ⟨rfl, rfl, kids0 wr ps po pl pn xr xl xg xc xb xn⟩
      case rest =>
      obtain ⟨rfl, rfl, hK0⟩ := hcut
      have HK0 := Hid.mk' hK0
      clear hK0 r0 r1 r2 r3 r4 r5 r6 r7 r8 r9
      obtain ⟨⟨x0, x1, x2, x3, x4, x5, x6, x7, x8, x9⟩, ⟨y0, y1, y2, y3, y4, y5⟩, -⟩ := HK0.out.cells
      have fy := HK0.out.l.frozen
      have hzb := Hid.mk' (hB1.out.keep (bT HB.out HK0.out.b))
      obtain ⟨z0, z1, z2, z3, z4, z5⟩ := blk6 hzb.out
      have fz := hzb.out.frozen
      go_upto_if 22 with fail
      go_cut [4] from 13 to 146 (fun g' wx => ∃ l F1, popF xl F = some (l, F1) ∧ wr.ownsRow w1.heap.size 93 6 g' F1.length (scells F1) ∧ Kids wr wx ps po pl pn xr xl xg xc xb xn l (Tr.mk none))
      case first =>
        cases xl with
        | false =>
          go_wp2_with fail
          go_meet
          exact ⟨_, _, rfl, HW.out, HK0.out⟩
        | true =>
          cases F with
          | nil =>
            have HN : Hid (lookF L = none) := lookF_none L k (by rw [hST.out]; simp [stepF, popF])
            go_wp2_with fail
            refine bodyPost_ret (v := .tuple #[.agg #[.bool false, .int .i64 0, .int .i64 0, .int .i64 0, .int .i64 0, .int .i64 0], .bool false]) (by simp [results, Try.results55, go_sem, z0, z1, z2, z3, z4, z5]) rfl ⟨⟨false, 0, 0, 0, 0, 0, by rw [HN.out]; rfl, fun t ht => (by rw [HN.out] at ht; cases ht), fun _ => rfl⟩, ?_⟩
            exact put6_below (hbw.out _ (bT HB.out HK0.out.b)) (Nat.le_refl _) _ _ _ _ _ _
          | cons l F1 =>
            obtain ⟨g, cap, hag, hcap⟩ := own_form HW.out
            simp at hag
            obtain ⟨rfl, rfl⟩ := hag
            obtain ⟨t0, t1, t2, t3, t4, t5⟩ := own_top HW.out
            have lt := cell_lt t0
            obtain ⟨cB, fB⟩ := bcell HK0.out.b
            have m0 : (0 : Int) ≤ (F1.length : Int) := by omega
            have m1 : (F1.length : Int) < (F1.length : Int) + 1 := by omega
            have m2 : (F1.length : Int) ≤ (cg : Int) := by omega
            have m3 : wrap64 (F1.length : Int) = (F1.length : Int) := w64 (by omega) (by simp only [List.length_cons] at hlF; omega)
            have HP := Hid.mk' (own_pop HW.out (scells_length F1))
            go_wp2_with fail
            go_meet
            exact ⟨l, F1, rfl, HP.out, HK0.out.putL l⟩
      case rest =>
      obtain ⟨l, F1, hpl, hW1, hK1⟩ := hcut
      have HPL := Hid.mk' hpl
      have HWL := Hid.mk' hW1
      have HKL := Hid.mk' hK1
      have HGL := Hid.mk' (popF_ok hpl hGF.out.1)
      clear hpl hW1 hK1 HK0 x0 x1 x2 x3 x4 x5 x6 x7 x8 x9 y0 y1 y2 y3 y4 y5 fy hzb z0 z1 z2 z3 z4 z5 fz
      obtain ⟨⟨x0, x1, x2, x3, x4, x5, x6, x7, x8, x9⟩, -, ⟨y0, y1, y2, y3, y4, y5⟩⟩ := HKL.out.cells
      have fy := HKL.out.r.frozen
      have hzb := Hid.mk' (hB1.out.keep (bT HB.out HKL.out.b))
      obtain ⟨z0, z1, z2, z3, z4, z5⟩ := blk6 hzb.out
      have fz := hzb.out.frozen
      have hlF1 : F1.length ≤ 65536 := by
        have h1 := len_rowsF HGL.out.2.2.2.1
        have h2 := congrArg List.length HGL.out.2.2.2.2
        rw [← hGF.out.2, List.length_append, List.length_drop] at h2
        have := hn.out; omega
      obtain ⟨ag1, cg1, hu5⟩ := own_shape HWL.out
      subst hu5
      go_upto_if 39 with fail
      go_cut [4] from 13 to 146 (fun g' wx => ∃ r F2, popF xg F1 = some (r, F2) ∧ wr.ownsRow w1.heap.size 93 6 g' F2.length (scells F2) ∧ Kids wr wx ps po pl pn xr xl xg xc xb xn l r)
      case first =>
        cases xg with
        | false =>
          go_wp2_with fail
          go_meet
          exact ⟨_, _, rfl, HWL.out, HKL.out⟩
        | true =>
          cases F1 with
          | nil =>
            have HN : Hid (lookF L = none) := lookF_none L k (by rw [hST.out]; unfold stepF; simp only; rw [HPL.out]; rfl)
            go_wp2_with fail
            refine bodyPost_ret (v := .tuple #[.agg #[.bool false, .int .i64 0, .int .i64 0, .int .i64 0, .int .i64 0, .int .i64 0], .bool false]) (by simp [results, Try.results55, go_sem, z0, z1, z2, z3, z4, z5]) rfl ⟨⟨false, 0, 0, 0, 0, 0, by rw [HN.out]; rfl, fun t ht => (by rw [HN.out] at ht; cases ht), fun _ => rfl⟩, ?_⟩
            exact put6_below (hbw.out _ (bT HB.out HKL.out.b)) (Nat.le_refl _) _ _ _ _ _ _
          | cons r F2 =>
            obtain ⟨g, cap, hag, hcap⟩ := own_form HWL.out
            simp at hag
            obtain ⟨rfl, rfl⟩ := hag
            obtain ⟨t0, t1, t2, t3, t4, t5⟩ := own_top HWL.out
            have lt := cell_lt t0
            obtain ⟨cB, fB⟩ := bcell HKL.out.b
            have m0 : (0 : Int) ≤ (F2.length : Int) := by omega
            have m1 : (F2.length : Int) < (F2.length : Int) + 1 := by omega
            have m2 : (F2.length : Int) ≤ (cg1 : Int) := by omega
            have m3 : wrap64 (F2.length : Int) = (F2.length : Int) := w64 (by omega) (by simp only [List.length_cons] at hlF1; omega)
            have HP := Hid.mk' (own_pop HWL.out (scells_length F2))
            go_wp2_with fail
            go_meet
            exact ⟨r, F2, rfl, HP.out, HKL.out.putR r⟩
      case rest =>
      obtain ⟨r, F2, hpr, hW2, hK2⟩ := hcut
      have HPR := Hid.mk' hpr
      have HWR := Hid.mk' hW2
      have HKR := Hid.mk' hK2
      have HGR := Hid.mk' (popF_ok hpr HGL.out.2.2.2.1)
      obtain ⟨ag2, cg2, hu6⟩ := own_shape HWR.out
      subst hu6
      clear hpr hW2 hK2 HKL HWL x0 x1 x2 x3 x4 x5 x6 x7 x8 x9 y0 y1 y2 y3 y4 y5 fy hzb z0 z1 z2 z3 z4 z5 fz
      obtain ⟨⟨x0, x1, x2, x3, x4, x5, x6, x7, x8, x9⟩, ⟨v0, v1, v2, v3, v4, v5⟩, ⟨y0, y1, y2, y3, y4, y5⟩⟩ := HKR.out.cells
      have hsz : l.size + r.size + F2.length ≤ 65536 := by
        have h1 := len_rowsF HGR.out.2.2.2.1
        have h2 := congrArg List.length HGL.out.2.2.2.2
        rw [← hGF.out.2, HGR.out.2.2.2.2, List.length_append, List.length_append, List.length_drop, rowsT_length, rowsT_length] at h2
        have := hn.out; omega
      have hb1 := l.bh_le
      have hb2 := l.ht_le
      have hb3 := r.bh_le
      have hb4 := r.ht_le
      obtain ⟨wC, hwC⟩ : ∃ W : World, W = wc := ⟨_, rfl⟩
      subst hwC
      generalize hby : wrap64 (wrap64 (pl + l.byt) + r.byt) = BY
      generalize hli : wrap64 (wrap64 (pn + l.lin) + r.lin) = LI
      go_upto_region 17 with fail
      go_cut [9] from 13 to 146 (fun p9 wx => p9 = .pointer (some ⟨wC.heap.size, 0, none⟩) ∧ Blk wx wC.heap.size 93 #[.bool xr, .int .i64 (l.bh : Nat), .int .i64 (1 + max (l.ht : Int) (r.ht : Int)), .int .i64 (1 + (l.size : Int) + (r.size : Int)), .int .i64 BY, .int .i64 LI] ∧ Below wC.heap.size wC wx)
      case first =>
        go_wp2_with fail
        go_meet
        exact ⟨rfl, Blk.new _ _ _, bAlloc (Below.refl _ _) _⟩
      case rest =>
      obtain ⟨rfl, hBk, hBb⟩ := hcut
      have HBY := Hid.mk' hby
      have HLI := Hid.mk' hli
      clear hby hli
      have HKD := Hid.mk' (HKR.out.keep hBb)
      have HBK := Hid.mk' hBk
      have HBB := Hid.mk' hBb
      obtain ⟨q0, q1, q2, q3, q4, q5⟩ := blk6 hBk
      have fq := hBk.frozen
      clear x0 x1 x2 x3 x4 x5 x6 x7 x8 x9 v0 v1 v2 v3 v4 v5 y0 y1 y2 y3 y4 y5 hBk hBb
      obtain ⟨⟨x0, x1, x2, x3, x4, x5, x6, x7, x8, x9⟩, -, -⟩ := HKD.out.cells
      go_upto_if 93 with fail
      go_cut [9] from 13 to 146 (fun p9 wx => p9 = .pointer (some ⟨wC.heap.size, 0, none⟩) ∧ Blk wx wC.heap.size 93 #[.bool xr, .int .i64 ((Tr.mk (some (xr, l, ⟨ps, po, pl, pn⟩, r))).bh : Nat), .int .i64 (1 + max (l.ht : Int) (r.ht : Int)), .int .i64 (1 + (l.size : Int) + (r.size : Int)), .int .i64 BY, .int .i64 LI] ∧ Below wC.heap.size wC wx)
      case first =>
        cases xr with
        | true =>
          go_wp2_with fail
          go_meet
          exact ⟨rfl, HBK.out, HBB.out⟩
        | false =>
          go_wp2_with fail
          go_meet
          refine ⟨rfl, ?_, HBB.out.setCell (p := ⟨wC.heap.size, 1, none⟩) (Nat.le_refl _) _⟩
          have h := heap_setCell_same _ wC.heap.size 1 _ 93 (.int .i64 ((l.bh : Int) + 1)) HBK.out
          exact h
      case rest =>
      obtain ⟨rfl, hBk, hBb⟩ := hcut
      have HKE := Hid.mk' (HKR.out.keep hBb)
      have HBE := Hid.mk' hBk
      have HBF := Hid.mk' hBb
      clear q0 q1 q2 q3 q4 q5 fq x0 x1 x2 x3 x4 x5 x6 x7 x8 x9 HKD HBK HBB
      obtain ⟨q0, q1, q2, q3, q4, q5⟩ := blk6 hBk
      obtain ⟨⟨x0, x1, x2, x3, x4, x5, x6, x7, x8, x9⟩, ⟨v0, v1, v2, v3, v4, v5⟩, ⟨y0, y1, y2, y3, y4, y5⟩⟩ := HKE.out.cells
      clear hBk hBb
      obtain ⟨wE, hwE⟩ : ∃ W : World, W = wc := ⟨_, rfl⟩
      subst hwE
      have HLD := Hid.mk' (And.intro HGL.out.2.2.1 HGR.out.2.2.1)
      have hb5 := HGL.out.2.1
      go_upto_region 20 with fail
      go_cut [141] from 13 to 140 (fun c wx => c = .bool (!goodN pl pn xr xc xb xn l r BY LI) ∧ Below wE.heap.size wE wx)
      case first =>
        have hs0 : wr.heap.size < wE.heap.size := HKE.out.x.lt
        have hs1 : wr.heap.size + 1 < wE.heap.size := HKE.out.l.lt
        have hs2 : wr.heap.size + 2 < wE.heap.size := HKE.out.r.lt
        have hs3 : wC.heap.size < wE.heap.size := HBE.out.lt
        cases hf : fitB pl pn with
        | false =>
          go_wp2_with (go_at_call 25; refine (refFit_any ps po pl pn _).mono ?_; rintro e w5 ⟨rfl, rfl⟩; rw [hf])
          go_meet
          exact ⟨by rw [goodN_fit hf]; rfl, bAlloc (Below.refl _ _) _⟩
        | true =>
          by_cases h1 : (l.bh : Int) = (r.bh : Int)
          · have h1b : ((l.bh : Int) == (r.bh : Int)) = true := by simpa using h1
            have H1 := Hid.mk' h1
            clear h1
            cases xr with
            | false =>
              by_cases h3 : xc = 1 + (l.size : Int) + (r.size : Int)
              · have h3b : (xc == 1 + (l.size : Int) + (r.size : Int)) = true := by simpa using h3
                have H3 := Hid.mk' h3
                clear h3
                by_cases h4 : xb = BY
                · have h4b : (xb == BY) = true := by simpa using h4
                  have H4 := Hid.mk' h4
                  clear h4
                  by_cases h5 : xn = LI
                  · have h5b : (xn == LI) = true := by simpa using h5
                    have H5 := Hid.mk' h5
                    clear h5
                    go_wp2_with (go_at_call 25; refine (refFit_any ps po pl pn _).mono ?_; rintro e w5 ⟨rfl, rfl⟩; rw [hf])
                    go_meet
                    exact ⟨by rw [goodN_all hf H1.out rfl H3.out H4.out H5.out]; first | rfl | simp [bne, h5b], bAlloc (Below.refl _ _) _⟩
                  · have h5b : (xn == LI) = false := by simpa using h5
                    go_wp2_with (go_at_call 25; refine (refFit_any ps po pl pn _).mono ?_; rintro e w5 ⟨rfl, rfl⟩; rw [hf])
                    go_meet
                    exact ⟨by rw [goodN_lin h5]; first | rfl | simp [bne, h5b], bAlloc (Below.refl _ _) _⟩
                · have h4b : (xb == BY) = false := by simpa using h4
                  go_wp2_with (go_at_call 25; refine (refFit_any ps po pl pn _).mono ?_; rintro e w5 ⟨rfl, rfl⟩; rw [hf])
                  go_meet
                  exact ⟨by rw [goodN_byt h4]; rfl, bAlloc (Below.refl _ _) _⟩
              · have h3b : (xc == 1 + (l.size : Int) + (r.size : Int)) = false := by simpa using h3
                go_wp2_with (go_at_call 25; refine (refFit_any ps po pl pn _).mono ?_; rintro e w5 ⟨rfl, rfl⟩; rw [hf])
                go_meet
                exact ⟨by rw [goodN_cnt h3]; rfl, bAlloc (Below.refl _ _) _⟩
            | true =>
              cases hlr : l.red with
              | true =>
                go_wp2_with (go_at_call 25; refine (refFit_any ps po pl pn _).mono ?_; rintro e w5 ⟨rfl, rfl⟩; rw [hf])
                go_meet
                exact ⟨by rw [goodN_red (by rw [hlr]; rfl)]; rfl, bAlloc (Below.refl _ _) _⟩
              | false =>
                cases hrr : r.red with
                | true =>
                  go_wp2_with (go_at_call 25; refine (refFit_any ps po pl pn _).mono ?_; rintro e w5 ⟨rfl, rfl⟩; rw [hf])
                  go_meet
                  exact ⟨by rw [goodN_red (by rw [hlr, hrr]; rfl)]; rfl, bAlloc (Below.refl _ _) _⟩
                | false =>
                  by_cases h3 : xc = 1 + (l.size : Int) + (r.size : Int)
                  · have h3b : (xc == 1 + (l.size : Int) + (r.size : Int)) = true := by simpa using h3
                    have H3 := Hid.mk' h3
                    clear h3
                    by_cases h4 : xb = BY
                    · have h4b : (xb == BY) = true := by simpa using h4
                      have H4 := Hid.mk' h4
                      clear h4
                      by_cases h5 : xn = LI
                      · have h5b : (xn == LI) = true := by simpa using h5
                        have H5 := Hid.mk' h5
                        clear h5
                        go_wp2_with (go_at_call 25; refine (refFit_any ps po pl pn _).mono ?_; rintro e w5 ⟨rfl, rfl⟩; rw [hf])
                        go_meet
                        exact ⟨by rw [goodN_all hf H1.out (by rw [hlr, hrr]; rfl) H3.out H4.out H5.out]; first | rfl | simp [bne, h5b], bAlloc (Below.refl _ _) _⟩
                      · have h5b : (xn == LI) = false := by simpa using h5
                        go_wp2_with (go_at_call 25; refine (refFit_any ps po pl pn _).mono ?_; rintro e w5 ⟨rfl, rfl⟩; rw [hf])
                        go_meet
                        exact ⟨by rw [goodN_lin h5]; first | rfl | simp [bne, h5b], bAlloc (Below.refl _ _) _⟩
                    · have h4b : (xb == BY) = false := by simpa using h4
                      go_wp2_with (go_at_call 25; refine (refFit_any ps po pl pn _).mono ?_; rintro e w5 ⟨rfl, rfl⟩; rw [hf])
                      go_meet
                      exact ⟨by rw [goodN_byt h4]; rfl, bAlloc (Below.refl _ _) _⟩
                  · have h3b : (xc == 1 + (l.size : Int) + (r.size : Int)) = false := by simpa using h3
                    go_wp2_with (go_at_call 25; refine (refFit_any ps po pl pn _).mono ?_; rintro e w5 ⟨rfl, rfl⟩; rw [hf])
                    go_meet
                    exact ⟨by rw [goodN_cnt h3]; rfl, bAlloc (Below.refl _ _) _⟩
          · have h1b : ((l.bh : Int) == (r.bh : Int)) = false := by simpa using h1
            go_wp2_with (go_at_call 25; refine (refFit_any ps po pl pn _).mono ?_; rintro e w5 ⟨rfl, rfl⟩; rw [hf])
            go_meet
            exact ⟨by rw [goodN_bh h1]; rfl, bAlloc (Below.refl _ _) _⟩
      case rest =>
      obtain ⟨rfl, hBx⟩ := hcut
      have HBX := Hid.mk' hBx
      have HBW := Hid.mk' (bT HKE.out.b hBx)
      clear q0 q1 q2 q3 q4 q5 x0 x1 x2 x3 x4 x5 x6 x7 x8 x9 v0 v1 v2 v3 v4 v5 y0 y1 y2 y3 y4 y5
      obtain ⟨q0, q1, q2, q3, q4, q5⟩ := blk6 (HBE.out.keep hBx)
      have hzb := Hid.mk' (hB1.out.keep (bT HB.out HBW.out))
      clear hBx
      cases hgd : goodN pl pn xr xc xb xn l r BY LI with
      | false =>
        obtain ⟨z0, z1, z2, z3, z4, z5⟩ := blk6 hzb.out
        have fz := hzb.out.frozen
        have HN : Hid (lookF L = none) := lookF_none L k (by rw [hST.out]; exact step_no HLD.out.1 HLD.out.2 (by omega) HBY.out HLI.out HPL.out HPR.out hgd)
        go_wp2_with fail
        refine bodyPost_ret (v := .tuple #[.agg #[.bool false, .int .i64 0, .int .i64 0, .int .i64 0, .int .i64 0, .int .i64 0], .bool false]) (by simp [results, Try.results55, go_sem, z0, z1, z2, z3, z4, z5]) rfl ⟨⟨false, 0, 0, 0, 0, 0, by rw [HN.out]; rfl, fun t ht => (by rw [HN.out] at ht; cases ht), fun _ => rfl⟩, ?_⟩
        exact put6_below (hbw.out _ (bT HB.out HBW.out)) (Nat.le_refl _) _ _ _ _ _ _
      | true =>
        have HY : Hid (lookF (L.drop k) = some (Tr.mk (some (xr, l, ⟨ps, po, pl, pn⟩, r)) :: F2)) := by
          unfold Hid; rw [hST.out]; exact step_yes HLD.out.1 HLD.out.2 (by omega) HBY.out HLI.out HPL.out HPR.out hgd
        have HSN : Hid (scells (Tr.mk (some (xr, l, ⟨ps, po, pl, pn⟩, r)) :: F2) = scells F2 ++ [.bool xr, .int .i64 ((Tr.mk (some (xr, l, ⟨ps, po, pl, pn⟩, r))).bh : Nat), .int .i64 (1 + max (l.ht : Int) (r.ht : Int)), .int .i64 (1 + (l.size : Int) + (r.size : Int)), .int .i64 BY, .int .i64 LI]) := by
          have hq := (goodN_iff (ps := ps) (po := po) HLD.out.1 HLD.out.2 (by omega) HBY.out HLI.out).1 hgd
          obtain ⟨e1, e2⟩ := look_sums (xr := xr) (ps := ps) (po := po) HLD.out.1 HLD.out.2 (by omega) hq.1
          rw [HBY.out] at e1
          rw [HLI.out] at e2
          unfold Hid
          simp only [scells, sn]
          rw [← e1, ← e2]
          have e3 : (((Tr.mk (some (xr, l, ⟨ps, po, pl, pn⟩, r))).ht : Nat) : Int) = 1 + max (l.ht : Int) (r.ht : Int) := by simp only [Tr.ht]; omega
          have e4 : (((Tr.mk (some (xr, l, ⟨ps, po, pl, pn⟩, r))).size : Nat) : Int) = 1 + (l.size : Int) + (r.size : Int) := by simp only [Tr.size]; omega
          rw [e3, e4]; rfl
        have HWX := Hid.mk' (own_keep' HWR.out HBW.out)
        go_wp2_with (at_builtin; refine wpList_append_own _ rfl (.tmp 143) (.tmp 145) 120 rfl w1.heap.size 93 i0 (.agg #[.bool false, .int .i64 0, .int .i64 0, .int .i64 0, .int .i64 0, .int .i64 0]) 6 48 Try.underlying120 I93.out.1 I93.out.2.1 I93.out.2.2.1 I93.out.2.2.2 rfl (by decide) (.slice ag2 F2.length cg2) F2.length (scells F2) rfl (HWX.out.alloc _) ⟨wc.heap.size, 0, none⟩ 1 1 [.bool xr, .int .i64 ((Tr.mk (some (xr, l, ⟨ps, po, pl, pn⟩, r))).bh : Nat), .int .i64 (1 + max (l.ht : Int) (r.ht : Int)), .int .i64 (1 + (l.size : Int) + (r.size : Int)), .int .i64 BY, .int .i64 LI] rfl rfl ?qd2 ?qd3 ?qd4 ?qd5 ?qd6 ?_)
        case qd2 => exact fun k' u hk => lit_cells wc _ 93 k' u hk
        case qd3 => intro u hu; simp at hu; rcases hu with rfl | rfl | rfl | rfl | rfl | rfl <;> rfl
        case qd4 => unfold maxLen; omega
        case qd5 => omega
        case qd6 => have := (bT HB.out HBW.out).size; simp; omega
        intro v' w2 hown hgrow _
        rw [← HSN.out] at hown
        have HW2 : Hid (w2.ownsRow w1.heap.size 93 6 v' (Tr.mk (some (xr, l, ⟨ps, po, pl, pn⟩, r)) :: F2).length (scells (Tr.mk (some (xr, l, ⟨ps, po, pl, pn⟩, r)) :: F2))) := hown
        have HB2 : Hid (Below w1.heap.size w1 w2) := (bAlloc (bT HB.out HBW.out) _).grown hgrow (by have := (bT HB.out HBW.out).size; simp; omega) (fun k hk => (HWX.out.lt k hk).1)
        clear hown hgrow
        go_wp2
        go_roundg k
        case measure => omega
        case rel => exact ⟨_, by omega, by go_num, HY.out, HW2.out, HB2.out⟩
end Go.Proofs.Ytcaegdfbbjfgpaa

