/- The law's awake. -/
import Derived.Test.YtienamngmalkaaaDra
import Derived.Deep.CutRange
namespace Go.Proofs.Ytienamngmalkaaa
open Go.RowKit

set_option maxRecDepth 8000
set_option linter.unusedSimpArgs false
theorem la28 {W : World} {B : Nat} {L : List Rg} (hL : L.length = 37) (h : Blk W B 28 (bk L)) : (Instr.loadAt 28 (.pointer (some ⟨B, 0, none⟩))).run Try.prog W = .ok (.agg (bk L)) W :=
  run_loadAt_mid W B 0 28 (rl L) _ (blk_range (pre := []) (mid := rl L) (post := []) (by simpa [bk] using h)) Try.underlying28 rfl (by rw [info28, rl_len, hL])
theorem rdb_zero (w : World) : Rdb w zb zP := (new_zero (Below.refl _ w)).rdb fun k c h => by
  unfold zP at h
  have := List.getElem?_replicate (a := zc) (n := 37) (i := k)
  rw [this] at h
  split at h
  · injection h with h; rw [← h]; exact Nat.zero_le _
  · cases h
/-- all contents are short -/
def shortP (P : List Ct) (m : Nat) : Bool := P.all fun c => decide (c.t.length ≤ m)
theorem short_at {P : List Ct} {m : Nat} (h : shortP P m = true) (k : Nat) (c : Ct) (hc : P[k]? = some c) : c.t.length ≤ m := by
  have := List.all_eq_true.1 h c (List.mem_of_getElem? hc)
  simpa using this
def aP1 : List Ct := (putP zP 97 1 ⟨true, false, [112]⟩).1
def aP2 : List Ct := (putP aP1 65 1 ⟨true, false, [113]⟩).1
theorem aE1 : (putP zP 97 1 ⟨true, false, [112]⟩).2 = 0 := by decide +kernel
theorem aE2 : (putP aP1 65 1 ⟨true, false, [113]⟩).2 = 0 := by decide +kernel
theorem aS1 : shortP aP1 100 = true := by decide +kernel
theorem aS2 : shortP aP2 100 = true := by decide +kernel
theorem aG : (getP aP2 97).2 = 0 ∧ (getP aP2 97).1.s = true ∧ (getP aP2 97).1.l = false ∧ (getP aP2 97).1.t = [112, 113] := by decide +kernel
/-- a bank boxed -/
theorem boxed {w : World} {N : List Rg} (hN : N.length = 37) : Blk (put28 (w.alloc (.cells (bk zb) 28)) w.heap.size N) w.heap.size 28 (bk N) ∧ Below w.heap.size w (put28 (w.alloc (.cells (bk zb) 28)) w.heap.size N) :=
  ⟨Blk.put28 hN rfl (Blk.new w 28 (bk zb)), below_put28 (bAlloc (Below.refl _ _) _) (Nat.le_refl _) _⟩
set_option maxHeartbeats 4000000 in
theorem awake_any (w : World) : Calls Try.prog 9 #[] w fun e w' => e = .returned (.bool true) ∧ Below w.heap.size w w' := by
  have hz := z28
  have hbz := b28
  have R1 := Hid.mk' (reg_any [112] w (by decide))
  go_enter Try.func9, Try.ntmps9
  go_wp2_with fail
  refine R1.out.mono ?_
  rintro e w1 ⟨a1, c1, rfl, hT1, hb1⟩
  have P1 := Hid.mk' (put_any zb zP 97 1 true false a1 1 c1 [112] w1 (by decide) (rdb_zero w1) hT1)
  rw [aE1] at P1
  have BL1 := Hid.mk' hb1
  clear R1 hT1 hb1
  go_wp2_with fail
  refine P1.out.mono ?_
  rintro e w2 ⟨N1, rfl, hN1⟩
  have NW1 : Hid (New w1 w2 N1 aP1) := hN1
  have hl1 := NW1.out.len
  clear hN1 P1
  have hBz := Hid.mk' (Blk.new w2 28 (bk zb))
  obtain ⟨hbx, hbb⟩ := boxed (w := w2) hl1
  have RD1 := Hid.mk' ((NW1.out.rdb (fun k c h => Nat.le_trans (short_at aS1 k c h) (by decide))).keep hbb)
  have BL2 := Hid.mk' (bT (bT BL1.out NW1.out.own.bel) hbb)
  have BX := Hid.mk' hbx
  clear hbb hbx BL1 NW1
  go_wp2_with (refine wl_store28 (.tmp 1) (.tmp 11) rfl rfl rfl rfl hl1 rfl hBz.out ?_)
  generalize put28 (w2.alloc (.cells (bk zb) 28)) w2.heap.size N1 = W3 at *
  have R2 := Hid.mk' (fun W => reg_any [113] W (by decide))
  have PA := Hid.mk' (fun a4 c4 W (h1 : Rdb W N1 aP1) (h2 : Tx W a4 1 c4 [113]) => put_any N1 aP1 65 1 true false a4 1 c4 [113] W (by decide) h1 h2)
  rw [aE2] at PA
  go_cut [3, 4] from 13 to 18 (fun x3 x4 wx => x4 = .int .i64 0 ∧ ∃ q N2, x3 = .pointer (some ⟨q, 0, none⟩) ∧ List.length N2 = 37 ∧ Hid (Blk wx q 28 (bk N2)) ∧ Hid (Rdb wx N2 aP2) ∧ Hid (Below w.heap.size w wx))
  case first =>
    have XD : Hid (Blk W3.drew w2.heap.size 28 (bk N1)) := BX.out
    have DD : Hid (Rdb W3.drew N1 aP1) := RD1.out.keep (Below.refl _ _).drew
    have LD : Hid (Below w.heap.size w W3.drew) := BL2.out.drew
    refine wp_region_held (S := fun w' => Blk w' w2.heap.size 28 (bk N1)) (by kernel_rfl) ?_
    change wpAnyH _ _ _ _ _ _ _ _ (World.drew _)
    generalize W3.drew = V3 at *
    refine wpAnyH_take (i := 0) (v := .agg (bk N1)) rfl (by kernel_rfl) (by kernel_rfl) (by kernel_rfl) (fun _ _ _ h => h) (yi28 rfl (.tmp 1) rfl rfl hl1 (fun _ h => h)) XD.out ?_
    try simp only [Act.put, List.getElem_toArray, List.getElem_cons_zero, List.getElem_cons_succ, List.setIfInBounds_toArray, List.set_cons_zero, List.set_cons_succ]
    refine wpAnyH_all (rs := [1, 6]) (by kernel_rfl) (by simp) (AllH.cons rfl (fun K hK => ?_) (AllH.cons rfl (fun K hK => ?_) AllH.nil))
    · skip
      go_simp
      refine (R2.out _).mono ?_
      rintro e w4 ⟨a4, c4, rfl, hT4, hb4⟩
      have T4 := Hid.mk' hT4
      have X4 := Hid.mk' (XD.out.keep hb4)
      have D4 := Hid.mk' (DD.out.keep hb4)
      have L4 := Hid.mk' (bT LD.out hb4)
      clear hT4 hb4
      dsimp only
      refine hK _ _ ⟨X4.out, ?_⟩
      clear hK K
      try simp only [Act.put, List.getElem_toArray, List.getElem_cons_zero, List.getElem_cons_succ, List.setIfInBounds_toArray, List.set_cons_zero, List.set_cons_succ]
      refine wpAnyH_all (rs := [2, 6]) (by kernel_rfl) (by simp) (AllH.cons rfl (fun K hK => ?_) (AllH.cons rfl (fun K hK => ?_) AllH.nil))
      · skip
        go_simp
        refine (PA.out _ _ _ D4.out T4.out).mono ?_
        rintro e w5 ⟨N2, rfl, hN2⟩
        have hb4 := hN2.own.bel
        have hl2 := hN2.len
        have X5 := Hid.mk' (X4.out.keep hb4)
        have L5 := Hid.mk' (bT L4.out hb4)
        have E5 : Hid (Rdb w5 N2 aP2) := New.rdb (P := aP2) hN2 (fun k c h => Nat.le_trans (short_at aS2 k c h) (by decide))
        clear hN2 hb4
        dsimp only
        refine hK _ _ ⟨X5.out, ?_⟩
        clear hK K
        try simp only [Act.put, List.getElem_toArray, List.getElem_cons_zero, List.getElem_cons_succ, List.setIfInBounds_toArray, List.set_cons_zero, List.set_cons_succ]
        refine wpAnyH_take (i := 3) (v := .tuple #[.agg (bk N2), .int .i64 0]) rfl (by kernel_rfl) (by kernel_rfl) (by kernel_rfl) (fun _ _ _ h => h) (Yields.yieldsIf (Or.inl ⟨by rfl, fun w => by go_simp⟩)) X5.out ?_
        try simp only [Act.put, List.getElem_toArray, List.getElem_cons_zero, List.getElem_cons_succ, List.setIfInBounds_toArray, List.set_cons_zero, List.set_cons_succ]
        refine wpAnyH_take (i := 4) (v := .agg (bk N2)) rfl (by kernel_rfl) (by kernel_rfl) (by kernel_rfl) (fun _ _ _ h => h) (Yields.yieldsIf (Or.inl ⟨by rfl, fun w => by go_simp⟩)) X5.out ?_
        try simp only [Act.put, List.getElem_toArray, List.getElem_cons_zero, List.getElem_cons_succ, List.setIfInBounds_toArray, List.set_cons_zero, List.set_cons_succ]
        refine wpAnyH_take (i := 5) (v := .int .i64 0) rfl (by kernel_rfl) (by kernel_rfl) (by kernel_rfl) (fun _ _ _ h => h) (Yields.yieldsIf (Or.inl ⟨by rfl, fun w => by go_simp⟩)) X5.out ?_
        try simp only [Act.put, List.getElem_toArray, List.getElem_cons_zero, List.getElem_cons_succ, List.setIfInBounds_toArray, List.set_cons_zero, List.set_cons_succ]
        refine wpAnyH_all (rs := [6]) (by kernel_rfl) (by simp) (AllH.cons rfl (fun K hK => ?_) AllH.nil)
        go_simp
        have hb4 := bAlloc (Below.refl _ w5) (.cells (bk zb) 28)
        have X6 := Hid.mk' (X5.out.keep hb4)
        have L6 := Hid.mk' (bT L5.out hb4)
        have A6 : Hid (Blk (w5.alloc (.cells (bk zb) 28)) w5.heap.size 28 (bk zb)) := Blk.new _ _ _
        have E6 := Hid.mk' (E5.out.keep hb4)
        clear hb4
        obtain ⟨q6, hq6⟩ : ∃ q, q = w5.heap.size := ⟨_, rfl⟩
        have HQq6 : Hid (w.heap.size ≤ q6) := by have h1 := L5.out.size; unfold Hid; omega
        have HNq6 : Hid (w2.heap.size ≠ q6) := by have h1 := X5.out.lt; unfold Hid; omega
        rw [← hq6] at A6 ⊢
        generalize w5.alloc (.cells (bk zb) 28) = w6 at *
        clear hq6
        refine hK _ _ ⟨X6.out, ?_⟩
        clear hK K
        try simp only [Act.put, List.getElem_toArray, List.getElem_cons_zero, List.getElem_cons_succ, List.setIfInBounds_toArray, List.set_cons_zero, List.set_cons_succ]
        refine wpAnyH_all (rs := [7]) (by kernel_rfl) (by simp) (AllH.cons rfl (fun K hK => ?_) AllH.nil)
        refine st28 rfl (.tmp 3) (.tmp 17) rfl rfl rfl hl2 rfl A6.out ?_
        have G7 := grown_put28 w6 q6 N2
        have F7 := Hid.mk' (Blk.put28 hl2 rfl A6.out)
        have E7 := Hid.mk' (E6.out.off_bk A6.out G7)
        skip
        have L7 : Hid (Below w.heap.size w (put28 w6 q6 N2)) := below_put28 L6.out (by have := HQq6.out; omega) N2
        have X7 : Hid (Blk (put28 w6 q6 N2) w2.heap.size 28 (bk N1)) := X6.out.grown G7 (by have := HNq6.out; simpa using this)
        clear G7
        generalize put28 w6 q6 N2 = w7 at *
        refine hK _ _ ⟨X7.out, ?_⟩
        clear hK K
        try simp only [Act.put, List.getElem_toArray, List.getElem_cons_zero, List.getElem_cons_succ, List.setIfInBounds_toArray, List.set_cons_zero, List.set_cons_succ]
        refine wpAnyH_take (i := 8) (v := .int .i64 0) rfl (by kernel_rfl) (by kernel_rfl) (by kernel_rfl) (fun _ _ _ h => h) (Yields.yieldsIf (Or.inl ⟨by rfl, fun w => by go_simp⟩)) X7.out ?_
        try simp only [Act.put, List.getElem_toArray, List.getElem_cons_zero, List.getElem_cons_succ, List.setIfInBounds_toArray, List.set_cons_zero, List.set_cons_succ]
        refine wpAnyH_done (by kernel_rfl) ?_ _
        go_wp2_with fail
        go_meet
        exact ⟨rfl, _, _, rfl, hl2, F7.out, E7.out, L7.out⟩
      · skip
        go_simp
        have hb4 := bAlloc (Below.refl _ w4) (.cells (bk zb) 28)
        have X5 := Hid.mk' (X4.out.keep hb4)
        have L5 := Hid.mk' (bT L4.out hb4)
        have A5 : Hid (Blk (w4.alloc (.cells (bk zb) 28)) w4.heap.size 28 (bk zb)) := Blk.new _ _ _
        have T5 := Hid.mk' (T4.out.keep hb4)
        have D5 := Hid.mk' (D4.out.keep hb4)
        clear hb4
        obtain ⟨q5, hq5⟩ : ∃ q, q = w4.heap.size := ⟨_, rfl⟩
        have HQq5 : Hid (w.heap.size ≤ q5) := by have h1 := L4.out.size; unfold Hid; omega
        have HNq5 : Hid (w2.heap.size ≠ q5) := by have h1 := X4.out.lt; unfold Hid; omega
        rw [← hq5] at A5 ⊢
        generalize w4.alloc (.cells (bk zb) 28) = w5 at *
        clear hq5
        refine hK _ _ ⟨X5.out, ?_⟩
        clear hK K
        try simp only [Act.put, List.getElem_toArray, List.getElem_cons_zero, List.getElem_cons_succ, List.setIfInBounds_toArray, List.set_cons_zero, List.set_cons_succ]
        refine wpAnyH_all (rs := [2]) (by kernel_rfl) (by simp) (AllH.cons rfl (fun K hK => ?_) AllH.nil)
        go_simp
        refine (PA.out _ _ _ D5.out T5.out).mono ?_
        rintro e w6 ⟨N2, rfl, hN2⟩
        have hb4 := hN2.own.bel
        have hl2 := hN2.len
        have X6 := Hid.mk' (X5.out.keep hb4)
        have L6 := Hid.mk' (bT L5.out hb4)
        have E6 : Hid (Rdb w6 N2 aP2) := New.rdb (P := aP2) hN2 (fun k c h => Nat.le_trans (short_at aS2 k c h) (by decide))
        have A6 := Hid.mk' (A5.out.keep hb4)
        clear hN2 hb4
        dsimp only
        refine hK _ _ ⟨X6.out, ?_⟩
        clear hK K
        try simp only [Act.put, List.getElem_toArray, List.getElem_cons_zero, List.getElem_cons_succ, List.setIfInBounds_toArray, List.set_cons_zero, List.set_cons_succ]
        refine wpAnyH_take (i := 3) (v := .tuple #[.agg (bk N2), .int .i64 0]) rfl (by kernel_rfl) (by kernel_rfl) (by kernel_rfl) (fun _ _ _ h => h) (Yields.yieldsIf (Or.inl ⟨by rfl, fun w => by go_simp⟩)) X6.out ?_
        try simp only [Act.put, List.getElem_toArray, List.getElem_cons_zero, List.getElem_cons_succ, List.setIfInBounds_toArray, List.set_cons_zero, List.set_cons_succ]
        refine wpAnyH_take (i := 4) (v := .agg (bk N2)) rfl (by kernel_rfl) (by kernel_rfl) (by kernel_rfl) (fun _ _ _ h => h) (Yields.yieldsIf (Or.inl ⟨by rfl, fun w => by go_simp⟩)) X6.out ?_
        try simp only [Act.put, List.getElem_toArray, List.getElem_cons_zero, List.getElem_cons_succ, List.setIfInBounds_toArray, List.set_cons_zero, List.set_cons_succ]
        refine wpAnyH_take (i := 5) (v := .int .i64 0) rfl (by kernel_rfl) (by kernel_rfl) (by kernel_rfl) (fun _ _ _ h => h) (Yields.yieldsIf (Or.inl ⟨by rfl, fun w => by go_simp⟩)) X6.out ?_
        try simp only [Act.put, List.getElem_toArray, List.getElem_cons_zero, List.getElem_cons_succ, List.setIfInBounds_toArray, List.set_cons_zero, List.set_cons_succ]
        refine wpAnyH_all (rs := [7]) (by kernel_rfl) (by simp) (AllH.cons rfl (fun K hK => ?_) AllH.nil)
        refine st28 rfl (.tmp 3) (.tmp 17) rfl rfl rfl hl2 rfl A6.out ?_
        have G7 := grown_put28 w6 q5 N2
        have F7 := Hid.mk' (Blk.put28 hl2 rfl A6.out)
        have E7 := Hid.mk' (E6.out.off_bk A6.out G7)
        skip
        have L7 : Hid (Below w.heap.size w (put28 w6 q5 N2)) := below_put28 L6.out (by have := HQq5.out; omega) N2
        have X7 : Hid (Blk (put28 w6 q5 N2) w2.heap.size 28 (bk N1)) := X6.out.grown G7 (by have := HNq5.out; simpa using this)
        clear G7
        generalize put28 w6 q5 N2 = w7 at *
        refine hK _ _ ⟨X7.out, ?_⟩
        clear hK K
        try simp only [Act.put, List.getElem_toArray, List.getElem_cons_zero, List.getElem_cons_succ, List.setIfInBounds_toArray, List.set_cons_zero, List.set_cons_succ]
        refine wpAnyH_take (i := 8) (v := .int .i64 0) rfl (by kernel_rfl) (by kernel_rfl) (by kernel_rfl) (fun _ _ _ h => h) (Yields.yieldsIf (Or.inl ⟨by rfl, fun w => by go_simp⟩)) X7.out ?_
        try simp only [Act.put, List.getElem_toArray, List.getElem_cons_zero, List.getElem_cons_succ, List.setIfInBounds_toArray, List.set_cons_zero, List.set_cons_succ]
        refine wpAnyH_done (by kernel_rfl) ?_ _
        go_wp2_with fail
        go_meet
        exact ⟨rfl, _, _, rfl, hl2, F7.out, E7.out, L7.out⟩
    · skip
      go_simp
      have hb4 := bAlloc (Below.refl _ V3) (.cells (bk zb) 28)
      have X4 := Hid.mk' (XD.out.keep hb4)
      have L4 := Hid.mk' (bT LD.out hb4)
      have A4 : Hid (Blk (V3.alloc (.cells (bk zb) 28)) V3.heap.size 28 (bk zb)) := Blk.new _ _ _
      have D4 := Hid.mk' (DD.out.keep hb4)
      clear hb4
      obtain ⟨q4, hq4⟩ : ∃ q, q = V3.heap.size := ⟨_, rfl⟩
      have HQq4 : Hid (w.heap.size ≤ q4) := by have h1 := LD.out.size; unfold Hid; omega
      have HNq4 : Hid (w2.heap.size ≠ q4) := by have h1 := XD.out.lt; unfold Hid; omega
      rw [← hq4] at A4 ⊢
      generalize V3.alloc (.cells (bk zb) 28) = w4 at *
      clear hq4
      refine hK _ _ ⟨X4.out, ?_⟩
      clear hK K
      try simp only [Act.put, List.getElem_toArray, List.getElem_cons_zero, List.getElem_cons_succ, List.setIfInBounds_toArray, List.set_cons_zero, List.set_cons_succ]
      refine wpAnyH_all (rs := [1]) (by kernel_rfl) (by simp) (AllH.cons rfl (fun K hK => ?_) AllH.nil)
      go_simp
      refine (R2.out _).mono ?_
      rintro e w5 ⟨a4, c4, rfl, hT4, hb4⟩
      have T5 := Hid.mk' hT4
      have X5 := Hid.mk' (X4.out.keep hb4)
      have D5 := Hid.mk' (D4.out.keep hb4)
      have L5 := Hid.mk' (bT L4.out hb4)
      have A5 := Hid.mk' (A4.out.keep hb4)
      clear hT4 hb4
      dsimp only
      refine hK _ _ ⟨X5.out, ?_⟩
      clear hK K
      try simp only [Act.put, List.getElem_toArray, List.getElem_cons_zero, List.getElem_cons_succ, List.setIfInBounds_toArray, List.set_cons_zero, List.set_cons_succ]
      refine wpAnyH_all (rs := [2]) (by kernel_rfl) (by simp) (AllH.cons rfl (fun K hK => ?_) AllH.nil)
      go_simp
      refine (PA.out _ _ _ D5.out T5.out).mono ?_
      rintro e w6 ⟨N2, rfl, hN2⟩
      have hb4 := hN2.own.bel
      have hl2 := hN2.len
      have X6 := Hid.mk' (X5.out.keep hb4)
      have L6 := Hid.mk' (bT L5.out hb4)
      have E6 : Hid (Rdb w6 N2 aP2) := New.rdb (P := aP2) hN2 (fun k c h => Nat.le_trans (short_at aS2 k c h) (by decide))
      have A6 := Hid.mk' (A5.out.keep hb4)
      clear hN2 hb4
      dsimp only
      refine hK _ _ ⟨X6.out, ?_⟩
      clear hK K
      try simp only [Act.put, List.getElem_toArray, List.getElem_cons_zero, List.getElem_cons_succ, List.setIfInBounds_toArray, List.set_cons_zero, List.set_cons_succ]
      refine wpAnyH_take (i := 3) (v := .tuple #[.agg (bk N2), .int .i64 0]) rfl (by kernel_rfl) (by kernel_rfl) (by kernel_rfl) (fun _ _ _ h => h) (Yields.yieldsIf (Or.inl ⟨by rfl, fun w => by go_simp⟩)) X6.out ?_
      try simp only [Act.put, List.getElem_toArray, List.getElem_cons_zero, List.getElem_cons_succ, List.setIfInBounds_toArray, List.set_cons_zero, List.set_cons_succ]
      refine wpAnyH_take (i := 4) (v := .agg (bk N2)) rfl (by kernel_rfl) (by kernel_rfl) (by kernel_rfl) (fun _ _ _ h => h) (Yields.yieldsIf (Or.inl ⟨by rfl, fun w => by go_simp⟩)) X6.out ?_
      try simp only [Act.put, List.getElem_toArray, List.getElem_cons_zero, List.getElem_cons_succ, List.setIfInBounds_toArray, List.set_cons_zero, List.set_cons_succ]
      refine wpAnyH_take (i := 5) (v := .int .i64 0) rfl (by kernel_rfl) (by kernel_rfl) (by kernel_rfl) (fun _ _ _ h => h) (Yields.yieldsIf (Or.inl ⟨by rfl, fun w => by go_simp⟩)) X6.out ?_
      try simp only [Act.put, List.getElem_toArray, List.getElem_cons_zero, List.getElem_cons_succ, List.setIfInBounds_toArray, List.set_cons_zero, List.set_cons_succ]
      refine wpAnyH_all (rs := [7]) (by kernel_rfl) (by simp) (AllH.cons rfl (fun K hK => ?_) AllH.nil)
      refine st28 rfl (.tmp 3) (.tmp 17) rfl rfl rfl hl2 rfl A6.out ?_
      have G7 := grown_put28 w6 q4 N2
      have F7 := Hid.mk' (Blk.put28 hl2 rfl A6.out)
      have E7 := Hid.mk' (E6.out.off_bk A6.out G7)
      skip
      have L7 : Hid (Below w.heap.size w (put28 w6 q4 N2)) := below_put28 L6.out (by have := HQq4.out; omega) N2
      have X7 : Hid (Blk (put28 w6 q4 N2) w2.heap.size 28 (bk N1)) := X6.out.grown G7 (by have := HNq4.out; simpa using this)
      clear G7
      generalize put28 w6 q4 N2 = w7 at *
      refine hK _ _ ⟨X7.out, ?_⟩
      clear hK K
      try simp only [Act.put, List.getElem_toArray, List.getElem_cons_zero, List.getElem_cons_succ, List.setIfInBounds_toArray, List.set_cons_zero, List.set_cons_succ]
      refine wpAnyH_take (i := 8) (v := .int .i64 0) rfl (by kernel_rfl) (by kernel_rfl) (by kernel_rfl) (fun _ _ _ h => h) (Yields.yieldsIf (Or.inl ⟨by rfl, fun w => by go_simp⟩)) X7.out ?_
      try simp only [Act.put, List.getElem_toArray, List.getElem_cons_zero, List.getElem_cons_succ, List.setIfInBounds_toArray, List.set_cons_zero, List.set_cons_succ]
      refine wpAnyH_done (by kernel_rfl) ?_ _
      go_wp2_with fail
      go_meet
      exact ⟨rfl, _, _, rfl, hl2, F7.out, E7.out, L7.out⟩
  case rest =>
  obtain ⟨rfl, q, N2, rfl, hl2, KB, KR, KL⟩ := hcut
  clear R2 PA BX RD1 BL2 hBz
  have CG := Hid.mk' (get_any N2 aP2 97 wc (by decide) KR.out)
  rw [aG.1, aG.2.1, aG.2.2.1, aG.2.2.2] at CG
  unfold gE at CG
  go_wp2_with (refine wl_load28 (.tmp 3) rfl rfl rfl hl2 KB.out ?_)
  refine CG.out.mono ?_
  rintro e w8 ⟨a8, c8, n8, hn8, rfl, hO8, hb8⟩
  obtain rfl : n8 = 2 := hn8
  obtain ⟨a9, c9, hv9, hT9⟩ := own_txl hO8 (by decide)
  obtain ⟨ea, ec⟩ : a8 = a9 ∧ c8 = c9 := by simpa using hv9
  subst ea ec
  have L8 := Hid.mk' (bT KL.out hb8)
  have T8 := Hid.mk' hT9
  clear hO8 hb8 hv9 hT9 CG KB KR KL
  have BA := bAlloc (Below.refl _ w8) (.cells #[.bool true, .bool false, .slice a8 2 c8] 24)
  have X8 := Hid.mk' (Blk.new w8 24 #[.bool true, .bool false, .slice a8 2 c8])
  have T9 := Hid.mk' (T8.out.keep BA)
  have L9 := Hid.mk' (bT L8.out BA)
  clear BA T8 L8
  go_wp2_with fail
  generalize w8.alloc (.cells #[.bool true, .bool false, .slice a8 2 c8] 24) = w9 at *
  have q0 : w9.cell? ⟨w8.heap.size, 0, none⟩ = some (.bool true) := X8.out.cell rfl
  have q1 : w9.cell? ⟨w8.heap.size, 1, none⟩ = some (.bool false) := X8.out.cell rfl
  have q2 : w9.cell? ⟨w8.heap.size, 2, none⟩ = some (.slice a8 2 c8) := X8.out.cell rfl
  have R3 := Hid.mk' (reg_any [112, 113] w9.drew (by decide))
  have V1 := Hid.mk' (fun W => valid_any 122 W (by decide))
  have V2 := Hid.mk' (fun W => valid_any 95 W (by decide))
  rw [show (rix 122).isSome = true from by decide +kernel] at V1
  rw [show (rix 95).isSome = false from by decide +kernel] at V2
  go_region_held3 (fun w' => w'.cell? ⟨w8.heap.size, 0, none⟩ = some (.bool true) ∧ w'.cell? ⟨w8.heap.size, 1, none⟩ = some (.bool false) ∧ w'.cell? ⟨w8.heap.size, 2, none⟩ = some (.slice a8 2 c8)) (first | with_reducible assumption | simp [*, go_sem])
    (first | (go_at_call 23; refine R3.out.mono ?_; rintro e wa ⟨aa, ca, rfl, hTa, hba⟩; (have TA := Hid.mk' hTa); (have TB := Hid.mk' (T9.out.keep (bD hba))); (have LA := Hid.mk' (bT L9.out (bD hba))); (have XA := Hid.mk' (X8.out.keep (bD hba))); clear hTa hba q0 q1 q2; (have q0 : wa.cell? ⟨w8.heap.size, 0, none⟩ = some (.bool true) := XA.out.cell rfl); (have q1 : wa.cell? ⟨w8.heap.size, 1, none⟩ = some (.bool false) := XA.out.cell rfl); (have q2 : wa.cell? ⟨w8.heap.size, 2, none⟩ = some (.slice a8 2 c8) := XA.out.cell rfl))
           | (go_at_call 12; refine (same_yes true false a8 aa 2 2 c8 ca [112, 113] wa TB.out TA.out).mono ?_; rintro e wb ⟨rfl, hbb⟩; (have LB := Hid.mk' (bT LA.out hbb)); (have XB := Hid.mk' (XA.out.keep hbb)); clear hbb q0 q1 q2; (have q0 : wb.cell? ⟨w8.heap.size, 0, none⟩ = some (.bool true) := XB.out.cell rfl); (have q1 : wb.cell? ⟨w8.heap.size, 1, none⟩ = some (.bool false) := XB.out.cell rfl); (have q2 : wb.cell? ⟨w8.heap.size, 2, none⟩ = some (.slice a8 2 c8) := XB.out.cell rfl))
           | (go_at_call_of 13 (Value.int IntKind.u8 122); refine (V1.out wb).mono ?_; rintro e wd ⟨rfl, hbd⟩; (have LD := Hid.mk' (bT LB.out hbd)); (have XD := Hid.mk' (XB.out.keep hbd)); clear hbd q0 q1 q2; (have q0 : wd.cell? ⟨w8.heap.size, 0, none⟩ = some (.bool true) := XD.out.cell rfl); (have q1 : wd.cell? ⟨w8.heap.size, 1, none⟩ = some (.bool false) := XD.out.cell rfl); (have q2 : wd.cell? ⟨w8.heap.size, 2, none⟩ = some (.slice a8 2 c8) := XD.out.cell rfl))
           | (go_at_call_of 13 (Value.int IntKind.u8 95); refine (V2.out wd).mono ?_; rintro e we ⟨rfl, hbe⟩; (have LE := Hid.mk' (bT LD.out hbe)); (have XE := Hid.mk' (XD.out.keep hbe)); clear hbe q0 q1 q2; (have q0 : we.cell? ⟨w8.heap.size, 0, none⟩ = some (.bool true) := XE.out.cell rfl); (have q1 : we.cell? ⟨w8.heap.size, 1, none⟩ = some (.bool false) := XE.out.cell rfl); (have q2 : we.cell? ⟨w8.heap.size, 2, none⟩ = some (.slice a8 2 c8) := XE.out.cell rfl))
           | fail)
  go_wp2
  go_ret
  exact ⟨rfl, LE.out⟩
end Go.Proofs.Ytienamngmalkaaa
