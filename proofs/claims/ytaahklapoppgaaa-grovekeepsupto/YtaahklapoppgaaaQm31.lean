/- The law's awake. -/
import Derived.Test.YtaahklapoppgaaaQm30
import Derived.Test.YtaahklapoppgaaaQm25
namespace Go.Proofs.Ytaahklapoppgaaa
open Go.RowKit

set_option maxRecDepth 8000
theorem one_ed {F : List Er} {d : Ed} (h : F.map Er.d = [d]) : ∃ x, F = [x] ∧ x.d = d := by
  match F, h with
  | [], h => simp at h
  | [x], h => exact ⟨x, rfl, by simpa using h⟩
  | x :: y :: F, h => simp at h
theorem grown2 (W : World) (q : Nat) (v u : Value) : W.grownBy ((W.setCell ⟨q, 0, none⟩ v).setCell ⟨q, 1, none⟩ u) (some q) := grown_setCells [v, u] 0 W
set_option maxHeartbeats 16000000 in
set_option linter.unusedSimpArgs false in
theorem awake_walk (Z : List Int) (hZ : Z.length = 27) (HBD : Hid (∀ w, (Instr.build 41 #[]).run Try.prog w = .ok (.agg (mk Z)) w)) (HZ50 : Hid (∀ w, (zeroValue 50).run Try.prog w = .ok (.agg (cxa (.slice none 0 0) 0 Z)) w)) (w : World)
    (CA : Hid (∀ {D : List Nd} {n B k g : Nat} {c : UInt8} {E : List Er} {W : World}, Hs D n W B k → Right D 0 → n ≤ 4096 → Edz W (some ⟨g, 0, none⟩) E → E.map Er.d = ed1 c → E.length = 1 → Calls Try.prog 20 #[.agg #[.slice (some ⟨B, 0, none⟩) n k, .int .i64 0], .slice (some ⟨g, 0, none⟩) 1 1, .int .i64 0, .agg (mk Z), .agg (mk Z)] W fun e w' => AddP (addG D 0 (aX c)) (n + 1) (n : Int) W e w'))
    (CU : Hid (∀ {W : World} {B k : Nat}, Hs aD1 2 W B k → Calls Try.prog 24 #[.agg #[.slice (some ⟨B, 0, none⟩) 2 k, .int .i64 1], .agg (mk Z)] W fun e w' => CroP aS1 2 W e w'))
    (CG : Hid (∀ {W : World} {B k : Nat}, Hs aD2 3 W B k → Calls Try.prog 26 #[.agg #[.slice (some ⟨B, 0, none⟩) 3 k, .int .i64 2], .int .i64 1, .agg (mk Z)] W fun e w' => CroP aS3 3 W e w')) :
    Calls Try.prog 10 #[] w fun e w' => e = .returned (.bool true) ∧ Below w.heap.size w w' := by
  go_enter Try.func10, Try.ntmps10
  go_wp2_with fail
  refine (newA w).mono ?_
  rintro e w1 ⟨B1, rfl, h1, hb1⟩
  have H1 := mkH h1
  have L1 := mkH hb1
  clear h1 hb1
  dsimp only
  go_wp2_with fail
  refine (ledit_any 97 w1).mono ?_
  rintro e w2 ⟨g1, E1, rfl, hd1, hl1, he1, hb2⟩
  have H2 := mkH (H1.out.keep hb2)
  have HE1 := mkH he1
  have HD1 := mkH hd1
  have HL1 := mkH hl1
  have L2 := mkH (bT L1.out hb2)
  clear hd1 hl1 he1 hb2 H1 L1
  dsimp only
  go_wp2_with (first | refine wl_bld rfl 41 _ rfl #[] (by kernel_rfl) (HBD.out _) ?_ | fail)
  refine (CA.out H2.out right_new (by omega) HE1.out HD1.out HL1.out).mono ?_
  rintro e w3 ⟨B2, k2, rfl, h3, hb3⟩
  have H3 : Hid (Hs aD1 2 w3 B2 k2) := h3.hs
  have L3 := mkH (bT L2.out hb3)
  clear h3 hb3 H2 L2 HE1 HD1 HL1
  rw [show ((1 : Nat) : Int) = 1 from rfl, show 1 + 1 = 2 from rfl]
  dsimp only
  go_upto_region 2 with fail
  obtain ⟨W4, hW4⟩ : ∃ x, w3.alloc (.cells #[.slice (some ⟨B2, 0, none⟩) 2 k2, .int .i64 1] 24) = x := ⟨_, rfl⟩
  obtain ⟨q4, hq4⟩ : ∃ x, w3.heap.size = x := ⟨_, rfl⟩
  have K4 : Hid (Blk W4 q4 24 #[.slice (some ⟨B2, 0, none⟩) 2 k2, .int .i64 1]) := by unfold Hid; rw [← hW4, ← hq4]; exact Blk.new w3 24 _
  have M4 : Hid (Below w3.heap.size w3 W4) := by unfold Hid; rw [← hW4]; exact bAlloc (Below.refl _ _) _
  have H4 := mkH (H3.out.keep M4.out)
  have L4 := mkH (bT L3.out M4.out)
  rw [hW4, hq4]
  clear hW4 hq4 H3 L3 M4
  have a4 : W4.cell? ⟨q4, 0, none⟩ = some (.slice (some ⟨B2, 0, none⟩) 2 k2) := K4.out.cell rfl
  have b4 : W4.cell? ⟨q4, 1, none⟩ = some (.int .i64 1) := K4.out.cell rfl
  go_wp2_with (first | refine wl_bld rfl 41 _ rfl #[] (by kernel_rfl) (HBD.out _) ?_ | fail)
  refine (CU.out H4.out).mono ?_
  rintro e w5 ⟨B5, k5, va5, vn5, vc5, F5, rfl, h5, e5, d5, l5, m5, hb5⟩
  have H5 := mkH h5
  have L5 := mkH (bT L4.out hb5)
  have K5 := mkH (K4.out.keep hb5)
  have HE5 := mkH e5
  have HD5 : Hid (F5.map Er.d = [⟨0, [97], []⟩]) := by unfold Hid; rw [d5]; exact a_e1
  have HL5 : Hid (vn5 = 1) := by have := congrArg List.length HD5.out; rw [List.length_map] at this; unfold Hid; rw [← l5, this]; rfl
  rw [a_now1]
  clear h5 e5 d5 l5 hb5 H4 L4 K4 a4 b4
  dsimp only
  generalize aS1.cur = cu5 at *
  generalize aS1.m = ms5 at *
  obtain ⟨X1, hX1⟩ : ∃ x, w5.alloc (.cells #[.slice none 0 0, .int .i64 0] 24) = x := ⟨_, rfl⟩
  obtain ⟨q5, hq5⟩ : ∃ x, w5.heap.size = x := ⟨_, rfl⟩
  obtain ⟨X2, hX2⟩ : ∃ x, X1.alloc (.cells (cxa (.slice none 0 0) 0 Z) 50) = x := ⟨_, rfl⟩
  obtain ⟨q6, hq6⟩ : ∃ x, X1.heap.size = x := ⟨_, rfl⟩
  have N24 : Hid (Blk X2 q5 24 #[.slice none 0 0, .int .i64 0]) := by
    unfold Hid
    rw [← hX2, ← hq5]
    refine Blk.keep ?_ (bAlloc (Below.refl _ _) _)
    rw [← hX1]
    exact Blk.new w5 24 _
  have N50 : Hid (Blk X2 q6 50 (cxa (.slice none 0 0) 0 Z)) := by unfold Hid; rw [← hX2, ← hq6]; exact Blk.new X1 50 _
  have MB : Hid (Below w5.heap.size w5 X2) := by unfold Hid; rw [← hX2, ← hX1]; exact bAlloc (bAlloc (Below.refl _ _) _) _
  have hqq : Hid (q5 ≠ q6) := by unfold Hid; rw [← hq6, ← hX1, World.size_alloc, hq5]; omega
  have c24 : X2.cell? ⟨q5, 0, none⟩ = some (.slice none 0 0) := N24.out.cell rfl
  have d24 : X2.cell? ⟨q5, 1, none⟩ = some (.int .i64 0) := N24.out.cell rfl
  have f24 : ∀ j, X2.frozen? ⟨q5, j, none⟩ = false := N24.out.frozen
  have hz50 := HZ50.out
  obtain ⟨X3, hX3⟩ : ∃ x, (X2.setCell ⟨q5, 0, none⟩ (.slice (some ⟨B5, 0, none⟩) 2 k5)).setCell ⟨q5, 1, none⟩ (.int .i64 0) = x := ⟨_, rfl⟩
  have P24 : Hid (Blk X3 q5 24 #[.slice (some ⟨B5, 0, none⟩) 2 k5, .int .i64 0]) := by unfold Hid; rw [← hX3]; exact set24 N24.out
  have P50 : Hid (Blk X3 q6 50 (cxa (.slice none 0 0) 0 Z)) := by unfold Hid; rw [← hX3]; exact (N50.out.off hqq.out.symm _).off hqq.out.symm _
  have PB : Hid (Below w5.heap.size w5 X3) := by
    unfold Hid
    rw [← hX3]
    have h5 : w5.heap.size ≤ q5 := Nat.le_of_eq hq5
    exact (MB.out.setCell h5 _).setCell h5 _
  have T50 : Hid (X3.there q6 0 29) := by have := there_blk (cs := cx (.slice none 0 0) 0 Z) P50.out; rw [cx_len hZ] at this; exact this
  go_upto_region 3 with (first | refine wl_st50 (B := q6) (o := 0) (.tmp 4) (.tmp 24) rfl rfl rfl rfl m5 T50.out ?_ | fail)
  obtain ⟨X4, hX4⟩ : ∃ x, X3.setCells q6 0 (cx (.slice va5 vn5 vc5) cu5 ms5) = x := ⟨_, rfl⟩
  have R50 : Hid (Blk X4 q6 50 (cxa (.slice va5 vn5 vc5) cu5 ms5)) := by unfold Hid; rw [← hX4]; exact put_blk (by rw [cx_len hZ, cx_len m5]) P50.out
  have h56 : w5.heap.size ≤ q6 := by rw [← hq6, ← hX1, World.size_alloc]; omega
  have RB : Hid (Below w5.heap.size w5 X4) := by unfold Hid; rw [← hX4]; exact below_setCells h56 _ _ PB.out
  have R24 : Hid (Blk X4 q5 24 #[.slice (some ⟨B5, 0, none⟩) 2 k5, .int .i64 0]) := by unfold Hid; rw [← hX4]; exact P24.out.grown (grown_setCells _ _ _) (fun e => by injection e with e; exact hqq.out e)
  have RK5 := mkH (K5.out.keep RB.out)
  have RH5 := mkH (H5.out.keep RB.out)
  have RE5 := mkH (HE5.out.keep RB.out)
  have RL5 := mkH (bT L5.out RB.out)
  rw [hX4]
  clear hX1 hX2 hX3 hX4 hq5 hq6 c24 d24 f24 hz50 N24 N50 MB P24 P50 PB T50 h56 hqq RB K5 H5 HE5 L5
  go_cut [6, 7] from 26 to 33 (fun x6 x7 wx => ∃ q9 B9 k9, x6 = .pointer (some ⟨q9, 0, none⟩) ∧ x7 = .int .i64 0 ∧ Hid (Blk wx q9 24 #[.slice (some ⟨B9, 0, none⟩) 3 k9, .int .i64 2]) ∧ Hid (Hs aD2 3 wx B9 k9) ∧ Hid (Below X4.heap.size X4 wx))
  case first =>
    have S0 : Hid (Below X4.heap.size X4 X4.drew) := (Below.refl _ _).drew
    refine wp_region_held (S := fun w' => Below X4.heap.size X4 w') (by kernel_rfl) ?_
    change wpAnyH _ _ _ _ _ _ _ _ (World.drew _)
    generalize X4.drew = U0 at *
    refine ta 0 (.agg #[.slice (some ⟨B5, 0, none⟩) 2 k5, .int .i64 0]) rfl (Or.inl ⟨by rfl, fun w9 h9 => by obtain ⟨h1, h2⟩ := blk_two (R24.out.keep h9); go_simp⟩) S0.out ?_
    refine ta 2 (.agg (mk Z)) rfl (yi_bld rfl 41 _ rfl #[] (by kernel_rfl) HBD.out) S0.out ?_
    refine ta 3 (.agg (mk Z)) rfl (yi_bld rfl 41 _ rfl #[] (by kernel_rfl) HBD.out) S0.out ?_
    try simp only [Act.put, jj1, jj2, jj3, jj4, jj5, jj6]
    refine wpAnyH_all (rs := [1, 8]) (by kernel_rfl) (by simp) (AllH.cons rfl (fun K hK => ?_) (AllH.cons rfl (fun K hK => ?_) AllH.nil))
    · skip
      go_simp
      refine (ledit_any 98 U0).mono ?_
      rintro e U1 ⟨g9, E9, rfl, hd9, hl9, he9, hb9⟩
      have S1 := mkH (bT S0.out hb9)
      have E1 := mkH he9
      have HD9 := mkH hd9
      have HL9 := mkH hl9
      clear hd9 hl9 he9 hb9
      dsimp only
      refine hK _ _ ⟨S1.out, ?_⟩
      clear hK K
      try simp only [Act.put, jj1, jj2, jj3, jj4, jj5, jj6]
      refine wpAnyH_all (rs := [4, 8]) (by kernel_rfl) (by simp) (AllH.cons rfl (fun K hK => ?_) (AllH.cons rfl (fun K hK => ?_) AllH.nil))
      · skip
        go_simp
        refine (CA.out (RH5.out.keep S1.out) a_rt2 (by omega) E1.out HD9.out HL9.out).mono ?_
        rintro e U2 ⟨B9, k9, rfl, h9, hb9⟩
        rw [show ((2 : Nat) : Int) = 2 from rfl, show 2 + 1 = 3 from rfl]
        have S2 := mkH (bT S1.out hb9)
        have E2 := mkH (E1.out.keep hb9)
        have G2 : Hid (HsL U1.heap.size U2.heap.size aD2 3 U2 B9 k9) := h9
        clear h9 hb9
        dsimp only
        refine hK _ _ ⟨S2.out, ?_⟩
        clear hK K
        refine tk 5 (.tuple #[.agg #[.slice (some ⟨B9, 0, none⟩) 3 k9, .int .i64 2], .int .i64 0]) S2.out ?_
        try simp only [Act.put, jj1, jj2, jj3, jj4, jj5, jj6]
        refine tk 6 (.agg #[.slice (some ⟨B9, 0, none⟩) 3 k9, .int .i64 2]) S2.out ?_
        refine tk 7 (.int .i64 0) S2.out ?_
        try simp only [Act.put, jj1, jj2, jj3, jj4, jj5, jj6]
        refine wpAnyH_all (rs := [8]) (by kernel_rfl) (by simp) (AllH.cons rfl (fun K hK => ?_) AllH.nil)
        go_simp
        have hb9 := bAlloc (Below.refl U2.heap.size U2) (.cells #[.slice none 0 0, .int .i64 0] 24)
        have S3 := mkH (bT S2.out hb9)
        have G3 := mkH (G2.out.keep hb9)
        have A3 : Hid (Blk (U2.alloc (.cells #[.slice none 0 0, .int .i64 0] 24)) U2.heap.size 24 #[.slice none 0 0, .int .i64 0]) := Blk.new _ _ _
        clear hb9
        obtain ⟨q9, hq9⟩ : ∃ q, q = U2.heap.size := ⟨_, rfl⟩
        have ZX : Hid (X4.heap.size ≤ q9) := by have h1 := S2.out.size; unfold Hid; omega
        have ZA : Hid (U2.heap.size ≤ q9) := by unfold Hid; omega
        rw [← hq9] at A3 ⊢
        generalize U2.alloc (.cells #[.slice none 0 0, .int .i64 0] 24) = U3 at *
        clear hq9
        refine hK _ _ ⟨S3.out, ?_⟩
        clear hK K
        try simp only [Act.put, jj1, jj2, jj3, jj4, jj5, jj6]
        refine wpAnyH_all (rs := [9]) (by kernel_rfl) (by simp) (AllH.cons rfl (fun K hK => ?_) AllH.nil)
        have s0 : U3.cell? ⟨q9, 0, none⟩ = some (.slice none 0 0) := A3.out.cell rfl
        have s1 : U3.cell? ⟨q9, 1, none⟩ = some (.int .i64 0) := A3.out.cell rfl
        have fz := A3.out.frozen
        have gg : U3.grownBy ((U3.setCell ⟨q9, 0, none⟩ (.slice (some ⟨B9, 0, none⟩) 3 k9)).setCell ⟨q9, 1, none⟩ (.int .i64 2)) (some q9) := grown2 U3 q9 _ _
        have S4 : Hid (Below X4.heap.size X4 ((U3.setCell ⟨q9, 0, none⟩ (.slice (some ⟨B9, 0, none⟩) 3 k9)).setCell ⟨q9, 1, none⟩ (.int .i64 2))) := (S3.out.setCell ZX.out _).setCell ZX.out _
        have A4 : Hid (Blk ((U3.setCell ⟨q9, 0, none⟩ (.slice (some ⟨B9, 0, none⟩) 3 k9)).setCell ⟨q9, 1, none⟩ (.int .i64 2)) q9 24 #[.slice (some ⟨B9, 0, none⟩) 3 k9, .int .i64 2]) := set24 A3.out
        have G4 := mkH (G3.out.kept (Kept.one gg) (.inr ZA.out))
        go_simp
        clear gg s0 s1 fz
        generalize ((U3.setCell ⟨q9, 0, none⟩ (.slice (some ⟨B9, 0, none⟩) 3 k9)).setCell ⟨q9, 1, none⟩ (.int .i64 2)) = U4 at *
        refine hK _ _ ⟨S4.out, ?_⟩
        clear hK K
        refine tk 10 (.int .i64 0) S4.out ?_
        try simp only [Act.put, jj1, jj2, jj3, jj4, jj5, jj6]
        refine wpAnyH_done (by kernel_rfl) ?_ _
        go_wp2_with fail
        go_meet
        exact ⟨q9, B9, k9, rfl, rfl, A4.out, G4.out.hs, S4.out⟩
      · skip
        go_simp
        have hb9 := bAlloc (Below.refl U1.heap.size U1) (.cells #[.slice none 0 0, .int .i64 0] 24)
        have S2 := mkH (bT S1.out hb9)
        have E2 := mkH (E1.out.keep hb9)
        have A2 : Hid (Blk (U1.alloc (.cells #[.slice none 0 0, .int .i64 0] 24)) U1.heap.size 24 #[.slice none 0 0, .int .i64 0]) := Blk.new _ _ _
        clear hb9
        obtain ⟨q9, hq9⟩ : ∃ q, q = U1.heap.size := ⟨_, rfl⟩
        have ZX : Hid (X4.heap.size ≤ q9) := by have h1 := S1.out.size; unfold Hid; omega
        rw [← hq9] at A2 ⊢
        generalize U1.alloc (.cells #[.slice none 0 0, .int .i64 0] 24) = U2 at *
        clear hq9
        refine hK _ _ ⟨S2.out, ?_⟩
        clear hK K
        try simp only [Act.put, jj1, jj2, jj3, jj4, jj5, jj6]
        refine wpAnyH_all (rs := [4]) (by kernel_rfl) (by simp) (AllH.cons rfl (fun K hK => ?_) AllH.nil)
        go_simp
        refine (CA.out (RH5.out.keep S2.out) a_rt2 (by omega) E2.out HD9.out HL9.out).mono ?_
        rintro e U3 ⟨B9, k9, rfl, h9, hb9⟩
        rw [show ((2 : Nat) : Int) = 2 from rfl, show 2 + 1 = 3 from rfl]
        have S3 := mkH (bT S2.out hb9)
        have A3 := mkH (A2.out.keep hb9)
        have E3 := mkH (E2.out.keep hb9)
        have G3 : Hid (HsL U2.heap.size U3.heap.size aD2 3 U3 B9 k9) := h9
        have ZA : Hid (q9 + 1 ≤ U2.heap.size) := A2.out.lt
        clear h9 hb9
        dsimp only
        refine hK _ _ ⟨S3.out, ?_⟩
        clear hK K
        refine tk 5 (.tuple #[.agg #[.slice (some ⟨B9, 0, none⟩) 3 k9, .int .i64 2], .int .i64 0]) S3.out ?_
        try simp only [Act.put, jj1, jj2, jj3, jj4, jj5, jj6]
        refine tk 6 (.agg #[.slice (some ⟨B9, 0, none⟩) 3 k9, .int .i64 2]) S3.out ?_
        refine tk 7 (.int .i64 0) S3.out ?_
        try simp only [Act.put, jj1, jj2, jj3, jj4, jj5, jj6]
        refine wpAnyH_all (rs := [9]) (by kernel_rfl) (by simp) (AllH.cons rfl (fun K hK => ?_) AllH.nil)
        have s0 : U3.cell? ⟨q9, 0, none⟩ = some (.slice none 0 0) := A3.out.cell rfl
        have s1 : U3.cell? ⟨q9, 1, none⟩ = some (.int .i64 0) := A3.out.cell rfl
        have fz := A3.out.frozen
        have gg : U3.grownBy ((U3.setCell ⟨q9, 0, none⟩ (.slice (some ⟨B9, 0, none⟩) 3 k9)).setCell ⟨q9, 1, none⟩ (.int .i64 2)) (some q9) := grown2 U3 q9 _ _
        have S4 : Hid (Below X4.heap.size X4 ((U3.setCell ⟨q9, 0, none⟩ (.slice (some ⟨B9, 0, none⟩) 3 k9)).setCell ⟨q9, 1, none⟩ (.int .i64 2))) := (S3.out.setCell ZX.out _).setCell ZX.out _
        have A4 : Hid (Blk ((U3.setCell ⟨q9, 0, none⟩ (.slice (some ⟨B9, 0, none⟩) 3 k9)).setCell ⟨q9, 1, none⟩ (.int .i64 2)) q9 24 #[.slice (some ⟨B9, 0, none⟩) 3 k9, .int .i64 2]) := set24 A3.out
        have G4 := mkH (G3.out.kept (Kept.one gg) (.inl ZA.out))
        go_simp
        clear gg s0 s1 fz
        generalize ((U3.setCell ⟨q9, 0, none⟩ (.slice (some ⟨B9, 0, none⟩) 3 k9)).setCell ⟨q9, 1, none⟩ (.int .i64 2)) = U4 at *
        refine hK _ _ ⟨S4.out, ?_⟩
        clear hK K
        refine tk 10 (.int .i64 0) S4.out ?_
        try simp only [Act.put, jj1, jj2, jj3, jj4, jj5, jj6]
        refine wpAnyH_done (by kernel_rfl) ?_ _
        go_wp2_with fail
        go_meet
        exact ⟨q9, B9, k9, rfl, rfl, A4.out, G4.out.hs, S4.out⟩
    · skip
      go_simp
      have hb9 := bAlloc (Below.refl U0.heap.size U0) (.cells #[.slice none 0 0, .int .i64 0] 24)
      have S1 := mkH (bT S0.out hb9)
      have A1 : Hid (Blk (U0.alloc (.cells #[.slice none 0 0, .int .i64 0] 24)) U0.heap.size 24 #[.slice none 0 0, .int .i64 0]) := Blk.new _ _ _
      clear hb9
      obtain ⟨q9, hq9⟩ : ∃ q, q = U0.heap.size := ⟨_, rfl⟩
      have ZX : Hid (X4.heap.size ≤ q9) := by have h1 := S0.out.size; unfold Hid; omega
      rw [← hq9] at A1 ⊢
      generalize U0.alloc (.cells #[.slice none 0 0, .int .i64 0] 24) = U1 at *
      clear hq9
      refine hK _ _ ⟨S1.out, ?_⟩
      clear hK K
      try simp only [Act.put, jj1, jj2, jj3, jj4, jj5, jj6]
      refine wpAnyH_all (rs := [1]) (by kernel_rfl) (by simp) (AllH.cons rfl (fun K hK => ?_) AllH.nil)
      go_simp
      refine (ledit_any 98 U1).mono ?_
      rintro e U2 ⟨g9, E9, rfl, hd9, hl9, he9, hb9⟩
      have S2 := mkH (bT S1.out hb9)
      have A2 := mkH (A1.out.keep hb9)
      have E2 := mkH he9
      have HD9 := mkH hd9
      have HL9 := mkH hl9
      clear hd9 hl9 he9 hb9
      dsimp only
      refine hK _ _ ⟨S2.out, ?_⟩
      clear hK K
      try simp only [Act.put, jj1, jj2, jj3, jj4, jj5, jj6]
      refine wpAnyH_all (rs := [4]) (by kernel_rfl) (by simp) (AllH.cons rfl (fun K hK => ?_) AllH.nil)
      go_simp
      refine (CA.out (RH5.out.keep S2.out) a_rt2 (by omega) E2.out HD9.out HL9.out).mono ?_
      rintro e U3 ⟨B9, k9, rfl, h9, hb9⟩
      rw [show ((2 : Nat) : Int) = 2 from rfl, show 2 + 1 = 3 from rfl]
      have S3 := mkH (bT S2.out hb9)
      have A3 := mkH (A2.out.keep hb9)
      have E3 := mkH (E2.out.keep hb9)
      have G3 : Hid (HsL U2.heap.size U3.heap.size aD2 3 U3 B9 k9) := h9
      have ZA : Hid (q9 + 1 ≤ U2.heap.size) := A2.out.lt
      clear h9 hb9
      dsimp only
      refine hK _ _ ⟨S3.out, ?_⟩
      clear hK K
      refine tk 5 (.tuple #[.agg #[.slice (some ⟨B9, 0, none⟩) 3 k9, .int .i64 2], .int .i64 0]) S3.out ?_
      try simp only [Act.put, jj1, jj2, jj3, jj4, jj5, jj6]
      refine tk 6 (.agg #[.slice (some ⟨B9, 0, none⟩) 3 k9, .int .i64 2]) S3.out ?_
      refine tk 7 (.int .i64 0) S3.out ?_
      try simp only [Act.put, jj1, jj2, jj3, jj4, jj5, jj6]
      refine wpAnyH_all (rs := [9]) (by kernel_rfl) (by simp) (AllH.cons rfl (fun K hK => ?_) AllH.nil)
      have s0 : U3.cell? ⟨q9, 0, none⟩ = some (.slice none 0 0) := A3.out.cell rfl
      have s1 : U3.cell? ⟨q9, 1, none⟩ = some (.int .i64 0) := A3.out.cell rfl
      have fz := A3.out.frozen
      have gg : U3.grownBy ((U3.setCell ⟨q9, 0, none⟩ (.slice (some ⟨B9, 0, none⟩) 3 k9)).setCell ⟨q9, 1, none⟩ (.int .i64 2)) (some q9) := grown2 U3 q9 _ _
      have S4 : Hid (Below X4.heap.size X4 ((U3.setCell ⟨q9, 0, none⟩ (.slice (some ⟨B9, 0, none⟩) 3 k9)).setCell ⟨q9, 1, none⟩ (.int .i64 2))) := (S3.out.setCell ZX.out _).setCell ZX.out _
      have A4 : Hid (Blk ((U3.setCell ⟨q9, 0, none⟩ (.slice (some ⟨B9, 0, none⟩) 3 k9)).setCell ⟨q9, 1, none⟩ (.int .i64 2)) q9 24 #[.slice (some ⟨B9, 0, none⟩) 3 k9, .int .i64 2]) := set24 A3.out
      have G4 := mkH (G3.out.kept (Kept.one gg) (.inl ZA.out))
      go_simp
      clear gg s0 s1 fz
      generalize ((U3.setCell ⟨q9, 0, none⟩ (.slice (some ⟨B9, 0, none⟩) 3 k9)).setCell ⟨q9, 1, none⟩ (.int .i64 2)) = U4 at *
      refine hK _ _ ⟨S4.out, ?_⟩
      clear hK K
      refine tk 10 (.int .i64 0) S4.out ?_
      try simp only [Act.put, jj1, jj2, jj3, jj4, jj5, jj6]
      refine wpAnyH_done (by kernel_rfl) ?_ _
      go_wp2_with fail
      go_meet
      exact ⟨q9, B9, k9, rfl, rfl, A4.out, G4.out.hs, S4.out⟩
  case rest =>
    obtain ⟨q9, B9, k9, rfl, rfl, KA, KH, KB⟩ := hcut
    have K4r := mkH (RK5.out.keep KB.out)
    have K5r := mkH (R24.out.keep KB.out)
    have K6r := mkH (R50.out.keep KB.out)
    have E5r := mkH (RE5.out.keep KB.out)
    have Lr := mkH (bT RL5.out KB.out)
    clear RK5 R24 R50 RE5 RL5 RH5 KB
    have a9 : wc.cell? ⟨q9, 0, none⟩ = some (.slice (some ⟨B9, 0, none⟩) 3 k9) := KA.out.cell rfl
    have b9 : wc.cell? ⟨q9, 1, none⟩ = some (.int .i64 2) := KA.out.cell rfl
    go_wp2_with (first | refine wl_bld rfl 41 _ rfl #[] (by kernel_rfl) (HBD.out _) ?_ | fail)
    refine (CG.out KH.out).mono ?_
    rintro e w7 ⟨B7, k7, va7, vn7, vc7, F7, rfl, h7, -, -, -, m7, hb7⟩
    have H7 := mkH h7
    have L7 := mkH (bT Lr.out hb7)
    have K47 := mkH (K4r.out.keep hb7)
    have K57 := mkH (K5r.out.keep hb7)
    have K67 := mkH (K6r.out.keep hb7)
    have K97 := mkH (KA.out.keep hb7)
    have E57 := mkH (E5r.out.keep hb7)
    rw [a_now3]
    clear h7 hb7 KH KA K4r K5r K6r E5r Lr a9 b9
    dsimp only
    generalize aS3.cur = cu7 at *
    generalize aS3.m = ms7 at *
    obtain ⟨X1, hX1⟩ : ∃ x, w7.alloc (.cells #[.slice none 0 0, .int .i64 0] 24) = x := ⟨_, rfl⟩
    obtain ⟨q7, hq7⟩ : ∃ x, w7.heap.size = x := ⟨_, rfl⟩
    obtain ⟨X2, hX2⟩ : ∃ x, X1.alloc (.cells (cxa (.slice none 0 0) 0 Z) 50) = x := ⟨_, rfl⟩
    obtain ⟨q8, hq8⟩ : ∃ x, X1.heap.size = x := ⟨_, rfl⟩
    have N24 : Hid (Blk X2 q7 24 #[.slice none 0 0, .int .i64 0]) := by
      unfold Hid
      rw [← hX2, ← hq7]
      refine Blk.keep ?_ (bAlloc (Below.refl _ _) _)
      rw [← hX1]
      exact Blk.new w7 24 _
    have N50 : Hid (Blk X2 q8 50 (cxa (.slice none 0 0) 0 Z)) := by unfold Hid; rw [← hX2, ← hq8]; exact Blk.new X1 50 _
    have MB : Hid (Below w7.heap.size w7 X2) := by unfold Hid; rw [← hX2, ← hX1]; exact bAlloc (bAlloc (Below.refl _ _) _) _
    have hqq : Hid (q7 ≠ q8) := by unfold Hid; rw [← hq8, ← hX1, World.size_alloc, hq7]; omega
    have c24 : X2.cell? ⟨q7, 0, none⟩ = some (.slice none 0 0) := N24.out.cell rfl
    have d24 : X2.cell? ⟨q7, 1, none⟩ = some (.int .i64 0) := N24.out.cell rfl
    have f24 : ∀ j, X2.frozen? ⟨q7, j, none⟩ = false := N24.out.frozen
    have hz50 := HZ50.out
    obtain ⟨X3, hX3⟩ : ∃ x, (X2.setCell ⟨q7, 0, none⟩ (.slice (some ⟨B7, 0, none⟩) 3 k7)).setCell ⟨q7, 1, none⟩ (.int .i64 1) = x := ⟨_, rfl⟩
    have P24 : Hid (Blk X3 q7 24 #[.slice (some ⟨B7, 0, none⟩) 3 k7, .int .i64 1]) := by unfold Hid; rw [← hX3]; exact set24 N24.out
    have P50 : Hid (Blk X3 q8 50 (cxa (.slice none 0 0) 0 Z)) := by unfold Hid; rw [← hX3]; exact (N50.out.off hqq.out.symm _).off hqq.out.symm _
    have PB : Hid (Below w7.heap.size w7 X3) := by
      unfold Hid
      rw [← hX3]
      have h5 : w7.heap.size ≤ q7 := Nat.le_of_eq hq7
      exact (MB.out.setCell h5 _).setCell h5 _
    have T50 : Hid (X3.there q8 0 29) := by have := there_blk (cs := cx (.slice none 0 0) 0 Z) P50.out; rw [cx_len hZ] at this; exact this
    go_upto_region 5 with (first | refine wl_st50 (B := q8) (o := 0) (.tmp 9) (.tmp 39) rfl rfl rfl rfl m7 T50.out ?_ | fail)
    obtain ⟨X4, hX4⟩ : ∃ x, X3.setCells q8 0 (cx (.slice va7 vn7 vc7) cu7 ms7) = x := ⟨_, rfl⟩
    have h56 : w7.heap.size ≤ q8 := by rw [← hq8, ← hX1, World.size_alloc]; omega
    have RB : Hid (Below w7.heap.size w7 X4) := by unfold Hid; rw [← hX4]; exact below_setCells h56 _ _ PB.out
    have R24 : Hid (Blk X4 q7 24 #[.slice (some ⟨B7, 0, none⟩) 3 k7, .int .i64 1]) := by unfold Hid; rw [← hX4]; exact P24.out.grown (grown_setCells _ _ _) (fun e => by injection e with e; exact hqq.out e)
    rw [hX4]
    have z4 : X4.cell? ⟨q4, 1, none⟩ = some (.int .i64 1) := (K47.out.keep RB.out).cell rfl
    have z5 : X4.cell? ⟨q5, 1, none⟩ = some (.int .i64 0) := (K57.out.keep RB.out).cell rfl
    have z9 : X4.cell? ⟨q9, 1, none⟩ = some (.int .i64 2) := (K97.out.keep RB.out).cell rfl
    have z7 : X4.cell? ⟨q7, 0, none⟩ = some (.slice (some ⟨B7, 0, none⟩) 3 k7) := R24.out.cell rfl
    have z8 : X4.cell? ⟨q7, 1, none⟩ = some (.int .i64 1) := R24.out.cell rfl
    obtain ⟨H, hH1, hH2, -, hG⟩ := H7.out.keep RB.out
    obtain ⟨r2, hr2⟩ : ∃ r, H[2]? = some r := ⟨_, List.getElem?_eq_getElem (by omega)⟩
    obtain ⟨r0, hr0⟩ : ∃ r, H[0]? = some r := ⟨_, List.getElem?_eq_getElem (by omega)⟩
    have zp : X4.cell? ⟨B7, 116, none⟩ = some (.int .i64 0) := by
      obtain ⟨g, o, e1, e2⟩ := hG.at hr2
      simp at e1
      obtain ⟨rfl, rfl⟩ := e1
      have e3 := e2.c0
      have e4 : r2.par = 0 := by have := a_par3; rw [← hH1, map_at hr2] at this; exact this
      rw [e4] at e3
      exact e3
    have zn : X4.cell? ⟨B7, 1, none⟩ = some (.int .i64 1) := by
      obtain ⟨g, o, e1, e2⟩ := hG.at hr0
      simp at e1
      obtain ⟨rfl, rfl⟩ := e1
      have e3 := e2.c1
      have e4 : r0.nxt = 1 := by have := a_nxt3; rw [← hH1, map_at hr0] at this; exact this
      rw [e4] at e3
      simpa using e3
    have hv5 := HL5.out
    subst hv5
    have zc : X4.cell? ⟨q6, 0, none⟩ = some (.slice va5 1 vc5) := range_blk (K67.out.keep RB.out) 0 _ rfl
    have E9 := E57.out.keep RB.out
    obtain ⟨x5, hx5⟩ := one_ed HD5.out
    obtain ⟨rfl, hxd⟩ := hx5
    obtain ⟨g5, o5, rfl, x3⟩ := E9.row.ed3 (k := 0) (r := x5) rfl
    have xt := (E9.txs 0 x5 rfl).t1
    have hO : x5.O = [97] := congrArg Ed.O hxd
    rw [hO] at xt
    have ze := x3.e1
    have zv := conv_tx xt
    simp only [Nat.zero_mul, Nat.add_zero] at ze
    have zne := fun W => ne9_no [97] W
    have LF := mkH (bT L7.out RB.out)
    clear hX1 hX2 hX3 hX4 hq7 hq8 c24 d24 f24 hz50 N24 N50 MB P24 P50 PB T50 h56 hqq RB K47 K57 K67 K97 E57 H7 L7 R24 hG hr0 hr2 hH1 hH2 E9 x3 xt hxd hO
    go_wp2
    go_ret
    exact ⟨rfl, LF.out⟩
theorem awake_any (w : World) : Calls Try.prog 10 #[] w fun e w' => e = .returned (.bool true) ∧ Below w.heap.size w w' := awake_walk zm rfl b24 z50 w (fun h1 h2 h3 h4 h5 h6 => addA h1 h2 h3 h4 h5 h6) (fun h => undoA h) (fun h => goA h)
end Go.Proofs.Ytaahklapoppgaaa

