/- The law kept. -/
import Derived.Test.YtdoheblkhnmmiaaCop
namespace Go.Proofs.Ytdoheblkhnmmiaa
open Go.RowKit

set_option maxRecDepth 8000
/-- a whole list of copies, as it was made -/
structure Cps (w0 W : World) (g B n : Nat) (E F : List Er) : Prop where
  len : F.length = n
  row : Crw W g n F
  cp : Cpd w0 W B E F
  bel : Below w0.heap.size w0 W
theorem Cps.keep {w0 W W' : World} {g B n : Nat} {E F : List Er} (h : Cps w0 W g B n E F) (hb : Below W.heap.size W W') : Cps w0 W' g B n E F := ⟨h.len, Blk.keep h.row hb, h.cp.keep hb, bT h.bel hb⟩
set_option maxHeartbeats 8000000 in
set_option linter.unusedSimpArgs false in
theorem kept_any (w0 : World) (ao : Option Addr) (n c g B : Nat) (E F : List Er) (w : World) (HE : Hid (Edz w0 ao E)) (HC : Hid (Cps w0 w g B n E F)) (hn : E.length = n) (hG : gsum E ≤ 1048576) :
    Calls Try.prog 23 #[.slice (some ⟨g, 0, none⟩) n (n + 1), .slice ao n c] w fun e w' => e = .returned (.bool true) ∧ Below w.heap.size w w' := by
  have hn2 : n ≤ 1048576 := by have := gsum_len E; omega
  have hnI : (n : Int) ≤ 1048576 := by omega
  have hnl : ¬ (n : Int) + 1 < (n : Int) + 1 := by omega
  have HGS := Hid.mk' hG
  have HN := Hid.mk' hn
  have q40 : ∀ (w : World) (a : Option Addr) (n c n' c' : Nat), (binOp .eql 40 (.slice a n c) (.slice none n' c')).run Try.prog w = .ok (.bool a.isNone) w := fun w a n c n' c' => Lib.run_eql_slice_nil w _ _ a n c n' c' Try.underlying40
  clear hn hG
  go_enter Try.func23, Try.ntmps23
  go_upto_region 3 with fail
  go_wp2_with fail
  go_loopg [5, 6, 23] n (fun m x5 x6 x23 wx => ∃ k : Nat, x23 = .int .i64 (k : Int) ∧ k + m = n ∧ Hid (Below w.heap.size w wx))
  case atStart => exact ⟨0, rfl, by omega, Below.refl _ _⟩
  case round =>
    obtain ⟨k, rfl, hkm, KB⟩ := hrel
    obtain ⟨go, hgo⟩ : ∃ g, g = gk - 1 := ⟨_, rfl⟩
    by_cases hk : k < n
    · have hk' : (k : Int) < (n : Int) := by omega
      have hk0 : (0 : Int) ≤ (k : Int) := by omega
      obtain ⟨r, hr⟩ : ∃ r, E[k]? = some r := ⟨_, List.getElem?_eq_getElem (by have := HN.out; omega)⟩
      obtain ⟨fr, hfr⟩ : ∃ r, F[k]? = some r := ⟨_, List.getElem?_eq_getElem (by have := HC.out.len; omega)⟩
      obtain ⟨g0, o0, rfl, h3⟩ := HE.out.row.ed3 hr
      obtain ⟨fa, fo, fn, ⟨g1, old, fp1, hT1, hO1⟩, ⟨g2, new, fp2, hT2, hO2⟩⟩ := HC.out.cp k r fr hr hfr
      have hgm := gsum_mem hr
      obtain ⟨z0, z1, z2⟩ := ecs_at hfr
      obtain ⟨g9, o9, e9, h9⟩ := HC.out.row.edr.ed3 hfr
      simp only [Option.some.injEq, Addr.mk.injEq, and_true] at e9
      obtain ⟨rfl, rfl⟩ := e9
      rw [Nat.zero_add] at h9
      have h10 := h9.keep KB.out
      obtain ⟨ra, rp1, ro, rc1, rp2, rn, rc2⟩ := r
      obtain ⟨sa, sp1, so, k1, sp2, sn, k2⟩ := fr
      dsimp only at h3 h10 hT1 hT2 hO1 hO2 hgm fa fo fn fp1 fp2
      subst fa fo fn fp1 fp2
      have t0 := h10.e0
      have t1 := h10.e1
      have t2 := h10.e2
      have CW1 := Hid.mk' (fun W (hb : Below w.heap.size w W) => whole_any g1 k1 rp1 so rc1 B old W (by have := HGS.out; omega) ((hT1.keep HC.out.bel).keep hb) (hO1.keep hb))
      have CW2 := Hid.mk' (fun W (hb : Below w.heap.size w W) => whole_any g2 k2 rp2 sn rc2 B new W (by have := HGS.out; omega) ((hT2.keep HC.out.bel).keep hb) (hO2.keep hb))
      have E3 := Hid.mk' ((h3.keep HC.out.bel).keep KB.out)
      clear hr hfr h3 h9 h10 hgm hT1 hT2 hO1 hO2 z0 z1 z2
      obtain ⟨w1, hw1⟩ : ∃ w1, w1 = wr.alloc (.cells #[.int .i64 sa, .slice (some ⟨g1, 0, none⟩) so k1, .slice (some ⟨g2, 0, none⟩) sn k2] 42) := ⟨_, rfl⟩
      have B1 : Hid (Below wr.heap.size wr w1) := by unfold Hid; rw [hw1]; exact bAlloc (Below.refl _ _) _
      have Y0 : Hid (Blk w1 wr.heap.size 42 #[.int .i64 sa, .slice (some ⟨g1, 0, none⟩) so k1, .slice (some ⟨g2, 0, none⟩) sn k2]) := by unfold Hid; rw [hw1]; exact Blk.new _ _ _
      go_upto_region 6 with fail
      rw [← hw1]
      clear hw1 t0 t1 t2
      have hb9 : Below wr.heap.size wr w1.drew := B1.out.drew
      have KD : Hid (Blk w1.drew wr.heap.size 42 #[.int .i64 sa, .slice (some ⟨g1, 0, none⟩) so k1, .slice (some ⟨g2, 0, none⟩) sn k2]) := Y0.out
      have ED := Hid.mk' (E3.out.keep hb9)
      have LBD := Hid.mk' (bT KB.out hb9)
      generalize wr.heap.size = q at *
      clear B1 Y0 hb9 KB E3
      refine wp_region_held (S := fun w' => Blk w' q 42 #[.int .i64 sa, .slice (some ⟨g1, 0, none⟩) so k1, .slice (some ⟨g2, 0, none⟩) sn k2] ∧ Ed3 w' g0 (o0 + k * 3) sa rp1 so rc1 rp2 sn rc2) (by kernel_rfl) ?_
      change wpAnyH _ _ _ _ _ _ _ _ (World.drew _)
      generalize w1.drew = V3 at *
      refine wpAnyH_take (i := 0) (v := .pointer (some ⟨q, 0, none⟩)) rfl (by kernel_rfl) (by kernel_rfl) (by kernel_rfl) (fun _ _ _ h => h) (Yields.yieldsIf (Or.inl ⟨by rfl, fun w => by go_simp⟩)) ⟨KD.out, ED.out⟩ ?_
      try simp only [Act.put, List.getElem_toArray, List.getElem_cons_zero, List.getElem_cons_succ, List.setIfInBounds_toArray, List.set_cons_zero, List.set_cons_succ]
      refine wpAnyH_take (i := 1) (v := .int .i64 sa) rfl (by kernel_rfl) (by kernel_rfl) (by kernel_rfl) (fun _ _ _ h => h) (Or.inl ⟨by rfl, fun w9 h9 => by have h5 := h9.1.cell (j := 0) rfl; have h6 := h9.1.cell (j := 1) rfl; have h7 := h9.1.cell (j := 2) rfl; go_simp⟩) ⟨KD.out, ED.out⟩ ?_
      try simp only [Act.put, List.getElem_toArray, List.getElem_cons_zero, List.getElem_cons_succ, List.setIfInBounds_toArray, List.set_cons_zero, List.set_cons_succ]
      refine wpAnyH_take (i := 2) (v := .slice (some ⟨g0, o0, none⟩) n c) rfl (by kernel_rfl) (by kernel_rfl) (by kernel_rfl) (fun _ _ _ h => h) (Yields.yieldsIf (Or.inl ⟨by rfl, fun w => by go_simp⟩)) ⟨KD.out, ED.out⟩ ?_
      try simp only [Act.put, List.getElem_toArray, List.getElem_cons_zero, List.getElem_cons_succ, List.setIfInBounds_toArray, List.set_cons_zero, List.set_cons_succ]
      refine wpAnyH_take (i := 3) (v := .int .i64 (k : Int)) rfl (by kernel_rfl) (by kernel_rfl) (by kernel_rfl) (fun _ _ _ h => h) (Yields.yieldsIf (Or.inl ⟨by rfl, fun w => by go_simp⟩)) ⟨KD.out, ED.out⟩ ?_
      try simp only [Act.put, List.getElem_toArray, List.getElem_cons_zero, List.getElem_cons_succ, List.setIfInBounds_toArray, List.set_cons_zero, List.set_cons_succ]
      refine wpAnyH_take (i := 4) (v := .pointer (some ⟨g0, o0 + k * 3, none⟩)) rfl (by kernel_rfl) (by kernel_rfl) (by kernel_rfl) (fun _ _ _ h => h) (Yields.yieldsIf (Or.inl ⟨by rfl, fun w => by go_simp⟩)) ⟨KD.out, ED.out⟩ ?_
      try simp only [Act.put, List.getElem_toArray, List.getElem_cons_zero, List.getElem_cons_succ, List.setIfInBounds_toArray, List.set_cons_zero, List.set_cons_succ]
      refine wpAnyH_take (i := 5) (v := .pointer (some ⟨g0, o0 + k * 3, none⟩)) rfl (by kernel_rfl) (by kernel_rfl) (by kernel_rfl) (fun _ _ _ h => h) (Yields.yieldsIf (Or.inl ⟨by rfl, fun w => by go_simp⟩)) ⟨KD.out, ED.out⟩ ?_
      try simp only [Act.put, List.getElem_toArray, List.getElem_cons_zero, List.getElem_cons_succ, List.setIfInBounds_toArray, List.set_cons_zero, List.set_cons_succ]
      refine wpAnyH_take (i := 6) (v := .int .i64 sa) rfl (by kernel_rfl) (by kernel_rfl) (by kernel_rfl) (fun _ _ _ h => h) (Or.inl ⟨by rfl, fun w9 h9 => by obtain ⟨h5, h6, h7⟩ := h9.2; go_simp⟩) ⟨KD.out, ED.out⟩ ?_
      try simp only [Act.put, List.getElem_toArray, List.getElem_cons_zero, List.getElem_cons_succ, List.setIfInBounds_toArray, List.set_cons_zero, List.set_cons_succ]
      refine wpAnyH_take (i := 7) (v := .bool false) rfl (by kernel_rfl) (by kernel_rfl) (by kernel_rfl) (fun _ _ _ h => h) (Yields.yieldsIf (Or.inl ⟨by rfl, fun w => by go_simp⟩)) ⟨KD.out, ED.out⟩ ?_
      try simp only [Act.put, List.getElem_toArray, List.getElem_cons_zero, List.getElem_cons_succ, List.setIfInBounds_toArray, List.set_cons_zero, List.set_cons_succ]
      refine wpAnyH_take (i := 8) (v := .bool false) rfl (by kernel_rfl) (by kernel_rfl) (by kernel_rfl) (fun _ _ _ h => h) (Yields.yieldsIf (Or.inl ⟨by rfl, fun w => by go_simp⟩)) ⟨KD.out, ED.out⟩ ?_
      try simp only [Act.put, List.getElem_toArray, List.getElem_cons_zero, List.getElem_cons_succ, List.setIfInBounds_toArray, List.set_cons_zero, List.set_cons_succ]
      refine wpAnyH_take (i := 9) (v := .pointer (some ⟨q, 1, none⟩)) rfl (by kernel_rfl) (by kernel_rfl) (by kernel_rfl) (fun _ _ _ h => h) (Yields.yieldsIf (Or.inl ⟨by rfl, fun w => by go_simp⟩)) ⟨KD.out, ED.out⟩ ?_
      try simp only [Act.put, List.getElem_toArray, List.getElem_cons_zero, List.getElem_cons_succ, List.setIfInBounds_toArray, List.set_cons_zero, List.set_cons_succ]
      refine wpAnyH_take (i := 10) (v := .slice (some ⟨g1, 0, none⟩) so k1) rfl (by kernel_rfl) (by kernel_rfl) (by kernel_rfl) (fun _ _ _ h => h) (Or.inl ⟨by rfl, fun w9 h9 => by have h5 := h9.1.cell (j := 0) rfl; have h6 := h9.1.cell (j := 1) rfl; have h7 := h9.1.cell (j := 2) rfl; go_simp⟩) ⟨KD.out, ED.out⟩ ?_
      try simp only [Act.put, List.getElem_toArray, List.getElem_cons_zero, List.getElem_cons_succ, List.setIfInBounds_toArray, List.set_cons_zero, List.set_cons_succ]
      refine wpAnyH_take (i := 11) (v := .slice (some ⟨g0, o0, none⟩) n c) rfl (by kernel_rfl) (by kernel_rfl) (by kernel_rfl) (fun _ _ _ h => h) (Yields.yieldsIf (Or.inl ⟨by rfl, fun w => by go_simp⟩)) ⟨KD.out, ED.out⟩ ?_
      try simp only [Act.put, List.getElem_toArray, List.getElem_cons_zero, List.getElem_cons_succ, List.setIfInBounds_toArray, List.set_cons_zero, List.set_cons_succ]
      refine wpAnyH_take (i := 12) (v := .int .i64 (k : Int)) rfl (by kernel_rfl) (by kernel_rfl) (by kernel_rfl) (fun _ _ _ h => h) (Yields.yieldsIf (Or.inl ⟨by rfl, fun w => by go_simp⟩)) ⟨KD.out, ED.out⟩ ?_
      try simp only [Act.put, List.getElem_toArray, List.getElem_cons_zero, List.getElem_cons_succ, List.setIfInBounds_toArray, List.set_cons_zero, List.set_cons_succ]
      refine wpAnyH_take (i := 13) (v := .pointer (some ⟨g0, o0 + k * 3, none⟩)) rfl (by kernel_rfl) (by kernel_rfl) (by kernel_rfl) (fun _ _ _ h => h) (Yields.yieldsIf (Or.inl ⟨by rfl, fun w => by go_simp⟩)) ⟨KD.out, ED.out⟩ ?_
      try simp only [Act.put, List.getElem_toArray, List.getElem_cons_zero, List.getElem_cons_succ, List.setIfInBounds_toArray, List.set_cons_zero, List.set_cons_succ]
      refine wpAnyH_take (i := 14) (v := .pointer (some ⟨g0, o0 + k * 3 + 1, none⟩)) rfl (by kernel_rfl) (by kernel_rfl) (by kernel_rfl) (fun _ _ _ h => h) (Yields.yieldsIf (Or.inl ⟨by rfl, fun w => by go_simp⟩)) ⟨KD.out, ED.out⟩ ?_
      try simp only [Act.put, List.getElem_toArray, List.getElem_cons_zero, List.getElem_cons_succ, List.setIfInBounds_toArray, List.set_cons_zero, List.set_cons_succ]
      refine wpAnyH_take (i := 15) (v := .slice rp1 so rc1) rfl (by kernel_rfl) (by kernel_rfl) (by kernel_rfl) (fun _ _ _ h => h) (Or.inl ⟨by rfl, fun w9 h9 => by obtain ⟨h5, h6, h7⟩ := h9.2; go_simp⟩) ⟨KD.out, ED.out⟩ ?_
      try simp only [Act.put, List.getElem_toArray, List.getElem_cons_zero, List.getElem_cons_succ, List.setIfInBounds_toArray, List.set_cons_zero, List.set_cons_succ]
      refine wpAnyH_all (rs := [16]) (by kernel_rfl) (by simp) (AllH.cons rfl (fun K hK => ?_) AllH.nil)
      go_simp
      refine (CW1.out V3 LBD.out).mono ?_
      rintro e w4 ⟨rfl, hw9⟩
      have hq9 := hw9.symm
      subst hq9
      clear hw9
      dsimp only
      refine hK _ _ ⟨⟨KD.out, ED.out⟩, ?_⟩
      clear hK K
      try simp only [Act.put, List.getElem_toArray, List.getElem_cons_zero, List.getElem_cons_succ, List.setIfInBounds_toArray, List.set_cons_zero, List.set_cons_succ]
      refine wpAnyH_take (i := 17) (v := .bool false) rfl (by kernel_rfl) (by kernel_rfl) (by kernel_rfl) (fun _ _ _ h => h) (Yields.yieldsIf (Or.inl ⟨by rfl, fun w => by go_simp⟩)) ⟨KD.out, ED.out⟩ ?_
      try simp only [Act.put, List.getElem_toArray, List.getElem_cons_zero, List.getElem_cons_succ, List.setIfInBounds_toArray, List.set_cons_zero, List.set_cons_succ]
      refine wpAnyH_take (i := 18) (v := .bool false) rfl (by kernel_rfl) (by kernel_rfl) (by kernel_rfl) (fun _ _ _ h => h) (Yields.yieldsIf (Or.inl ⟨by rfl, fun w => by go_simp⟩)) ⟨KD.out, ED.out⟩ ?_
      try simp only [Act.put, List.getElem_toArray, List.getElem_cons_zero, List.getElem_cons_succ, List.setIfInBounds_toArray, List.set_cons_zero, List.set_cons_succ]
      refine wpAnyH_take (i := 19) (v := .bool false) rfl (by kernel_rfl) (by kernel_rfl) (by kernel_rfl) (fun _ _ _ h => h) (Yields.yieldsIf (Or.inl ⟨by rfl, fun w => by go_simp⟩)) ⟨KD.out, ED.out⟩ ?_
      try simp only [Act.put, List.getElem_toArray, List.getElem_cons_zero, List.getElem_cons_succ, List.setIfInBounds_toArray, List.set_cons_zero, List.set_cons_succ]
      refine wpAnyH_take (i := 20) (v := .pointer (some ⟨q, 2, none⟩)) rfl (by kernel_rfl) (by kernel_rfl) (by kernel_rfl) (fun _ _ _ h => h) (Yields.yieldsIf (Or.inl ⟨by rfl, fun w => by go_simp⟩)) ⟨KD.out, ED.out⟩ ?_
      try simp only [Act.put, List.getElem_toArray, List.getElem_cons_zero, List.getElem_cons_succ, List.setIfInBounds_toArray, List.set_cons_zero, List.set_cons_succ]
      refine wpAnyH_take (i := 21) (v := .slice (some ⟨g2, 0, none⟩) sn k2) rfl (by kernel_rfl) (by kernel_rfl) (by kernel_rfl) (fun _ _ _ h => h) (Or.inl ⟨by rfl, fun w9 h9 => by have h5 := h9.1.cell (j := 0) rfl; have h6 := h9.1.cell (j := 1) rfl; have h7 := h9.1.cell (j := 2) rfl; go_simp⟩) ⟨KD.out, ED.out⟩ ?_
      try simp only [Act.put, List.getElem_toArray, List.getElem_cons_zero, List.getElem_cons_succ, List.setIfInBounds_toArray, List.set_cons_zero, List.set_cons_succ]
      refine wpAnyH_take (i := 22) (v := .slice (some ⟨g0, o0, none⟩) n c) rfl (by kernel_rfl) (by kernel_rfl) (by kernel_rfl) (fun _ _ _ h => h) (Yields.yieldsIf (Or.inl ⟨by rfl, fun w => by go_simp⟩)) ⟨KD.out, ED.out⟩ ?_
      try simp only [Act.put, List.getElem_toArray, List.getElem_cons_zero, List.getElem_cons_succ, List.setIfInBounds_toArray, List.set_cons_zero, List.set_cons_succ]
      refine wpAnyH_take (i := 23) (v := .int .i64 (k : Int)) rfl (by kernel_rfl) (by kernel_rfl) (by kernel_rfl) (fun _ _ _ h => h) (Yields.yieldsIf (Or.inl ⟨by rfl, fun w => by go_simp⟩)) ⟨KD.out, ED.out⟩ ?_
      try simp only [Act.put, List.getElem_toArray, List.getElem_cons_zero, List.getElem_cons_succ, List.setIfInBounds_toArray, List.set_cons_zero, List.set_cons_succ]
      refine wpAnyH_take (i := 24) (v := .pointer (some ⟨g0, o0 + k * 3, none⟩)) rfl (by kernel_rfl) (by kernel_rfl) (by kernel_rfl) (fun _ _ _ h => h) (Yields.yieldsIf (Or.inl ⟨by rfl, fun w => by go_simp⟩)) ⟨KD.out, ED.out⟩ ?_
      try simp only [Act.put, List.getElem_toArray, List.getElem_cons_zero, List.getElem_cons_succ, List.setIfInBounds_toArray, List.set_cons_zero, List.set_cons_succ]
      refine wpAnyH_take (i := 25) (v := .pointer (some ⟨g0, o0 + k * 3 + 2, none⟩)) rfl (by kernel_rfl) (by kernel_rfl) (by kernel_rfl) (fun _ _ _ h => h) (Yields.yieldsIf (Or.inl ⟨by rfl, fun w => by go_simp⟩)) ⟨KD.out, ED.out⟩ ?_
      try simp only [Act.put, List.getElem_toArray, List.getElem_cons_zero, List.getElem_cons_succ, List.setIfInBounds_toArray, List.set_cons_zero, List.set_cons_succ]
      refine wpAnyH_take (i := 26) (v := .slice rp2 sn rc2) rfl (by kernel_rfl) (by kernel_rfl) (by kernel_rfl) (fun _ _ _ h => h) (Or.inl ⟨by rfl, fun w9 h9 => by obtain ⟨h5, h6, h7⟩ := h9.2; go_simp⟩) ⟨KD.out, ED.out⟩ ?_
      try simp only [Act.put, List.getElem_toArray, List.getElem_cons_zero, List.getElem_cons_succ, List.setIfInBounds_toArray, List.set_cons_zero, List.set_cons_succ]
      refine wpAnyH_all (rs := [27]) (by kernel_rfl) (by simp) (AllH.cons rfl (fun K hK => ?_) AllH.nil)
      go_simp
      refine (CW2.out V3 LBD.out).mono ?_
      rintro e w5 ⟨rfl, hw9⟩
      have hq9 := hw9.symm
      subst hq9
      clear hw9
      dsimp only
      refine hK _ _ ⟨⟨KD.out, ED.out⟩, ?_⟩
      clear hK K
      try simp only [Act.put, List.getElem_toArray, List.getElem_cons_zero, List.getElem_cons_succ, List.setIfInBounds_toArray, List.set_cons_zero, List.set_cons_succ]
      refine wpAnyH_take (i := 28) (v := .bool false) rfl (by kernel_rfl) (by kernel_rfl) (by kernel_rfl) (fun _ _ _ h => h) (Yields.yieldsIf (Or.inl ⟨by rfl, fun w => by go_simp⟩)) ⟨KD.out, ED.out⟩ ?_
      try simp only [Act.put, List.getElem_toArray, List.getElem_cons_zero, List.getElem_cons_succ, List.setIfInBounds_toArray, List.set_cons_zero, List.set_cons_succ]
      refine wpAnyH_take (i := 29) (v := .bool false) rfl (by kernel_rfl) (by kernel_rfl) (by kernel_rfl) (fun _ _ _ h => h) (Yields.yieldsIf (Or.inl ⟨by rfl, fun w => by go_simp⟩)) ⟨KD.out, ED.out⟩ ?_
      try simp only [Act.put, List.getElem_toArray, List.getElem_cons_zero, List.getElem_cons_succ, List.setIfInBounds_toArray, List.set_cons_zero, List.set_cons_succ]
      refine wpAnyH_done (by kernel_rfl) ?_ _
      go_wp2
      go_roundg go
      case measure => omega
      case rel => exact ⟨k + 1, by go_num, by omega, LBD.out⟩
    · have hk' : ¬ (k : Int) < (n : Int) := by omega
      obtain rfl : k = n := by omega
      have h3 := (HC.out.row.spare HC.out.len).keep KB.out
      have t0 := h3.e0
      have t1 := h3.e1
      have t2 := h3.e2
      have BA := Hid.mk' (bT KB.out (bAlloc (Below.refl _ wr) (.cells #[.int .i64 0, .slice none 0 0, .slice none 0 0] 42)))
      have x0 : (0 : Int) ≤ (k : Int) + 1 := by omega
      have x1 : (k : Int) + 1 ≤ ((k + 1 : Nat) : Int) := by omega
      have x2 : (k : Int) < (k : Int) + 1 := by omega
      clear h3 KB
      go_wp2
      go_ret
      exact ⟨rfl, BA.out⟩
end Go.Proofs.Ytdoheblkhnmmiaa
