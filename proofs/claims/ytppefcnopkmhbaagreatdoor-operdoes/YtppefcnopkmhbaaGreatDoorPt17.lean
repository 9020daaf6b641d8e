/- Let -/
import Derived.Test.YtppefcnopkmhbaaGreatDoorPt16
import Derived.Laws.EntriesVeiled
namespace Go.Proofs.YtppefcnopkmhbaaGreatDoor
open Go.RowKit

set_option maxRecDepth 8000
set_option maxHeartbeats 4000000 in
theorem letters_tog (w : World) : Calls Tryz.prog 73 #[(.func (.func 74) #[] #[])] w fun e w' => ∃ C, e = .returned (.func (.func 106) #[] #[.pointer (some ⟨C, 0, none⟩)]) ∧ Blk w' C 110 #[(.func (.func 74) #[] #[])] ∧ w.heap.size ≤ C ∧ Below w.heap.size w w' := by
  go_enter Tryz.func73, Tryz.ntmps73
  go_wp2
  go_ret
  exact ⟨w.heap.size, rfl, Blk.new w 110 _, Nat.le_refl _, bAlloc (Below.refl _ _) _⟩
set_option maxHeartbeats 8000000 in
set_option linter.unusedSimpArgs false in
theorem let_tog (ao : Option Addr) (n c k f t C : Nat) (L D : Bool) (a b : Nat) (q : Int) (l : List UInt8) (w : World) (HT : Hid (Tx w ao n c l)) (hbig : n ≤ 1048576) (hft : f ≤ t) (ht : t ≤ n) (hk : k ≤ n) (ha : (a : Int) ≤ 9223372036854775807) (HC : Hid (Blk w C 110 #[(.func (.func 74) #[] #[])])) :
    Calls Tryz.prog 106 #[tsk (.slice ao n c) (k : Int) (f : Int) (t : Int) L D (a : Int) (b : Int) q, .pointer (some ⟨C, 0, none⟩)] w fun e w' => EfQ ⟨sw l f t ((sl l f t).map (tw tgB)), hmc l k f L (a : Int), false, false, [], 0, false⟩ 0 w e w' := by
  show Calls Tryz.prog 106 #[.agg #[.slice ao n c, .int .i64 (k : Int), .int .i64 (f : Int), .int .i64 (t : Int), .bool L, .bool D, .int .i64 (a : Int), .int .i64 (b : Int), .int .i64 q], .pointer (some ⟨C, 0, none⟩)] w _
  obtain ⟨W1, hW1⟩ : ∃ x, (w.alloc (.cells #[.slice ao n c, .int .i64 (k : Int), .int .i64 (f : Int), .int .i64 (t : Int), .bool L, .bool D, .int .i64 (a : Int), .int .i64 (b : Int), .int .i64 q] 90)).alloc (.cells #[.slice none 0 0, .int .i64 0, .bool false, .bool false, .slice none 0 0, .int .i64 0, .bool false] 35) = x := ⟨_, rfl⟩
  have T1 : Hid (Two w W1 (.slice ao n c) (k : Int) (f : Int) (t : Int) L D (a : Int) (b : Int) q) := by unfold Hid; rw [← hW1]; exact Two.new w _ _ _ _ _ _ _ _ _
  have hln := HT.out.len
  have HT1 := Hid.mk' (HT.out.keep T1.out.bel)
  obtain ⟨a3, c3, hs3, hT3⟩ := sl_lh' HT1.out hft ht
  have hcap := HT.out.cap
  have HT3 := Hid.mk' hT3
  have hsl : (sl l f t).length = t - f := sl_len (by omega)
  have CE : Hid (∀ W, Below W1.heap.size W1 W → Calls Tryz.prog 89 #[.slice a3 (t - f) c3, (.func (.func 74) #[] #[])] W fun e w' => WbP ((sl l f t).map (tw tgB)) W e w') := fun W hW => each_tog a3 (t - f) c3 (sl l f t) W (HT3.out.keep hW) (by omega)
  have hml : ((sl l f t).map (tw tgB)).length ≤ 140737488355328 := by rw [List.length_map]; omega
  have CS : Hid (∀ W0 W xp xn xc, Below W1.heap.size W1 W → Below W0.heap.size W0 W → Wb W W0.heap.size W.heap.size (.slice xp xn xc) ((sl l f t).map (tw tgB)) → Calls Tryz.prog 83 #[.slice ao n c, .int .i64 (f : Int), .int .i64 (t : Int), .slice xp xn xc] W fun e w' => EsP (sw l f t ((sl l f t).map (tw tgB))) W0 e w') := fun W0 W xp xn xc hW h0 hX => swap_any W0 ao n c f t l xp xn xc _ W (HT1.out.keep hW) hft ht (by omega) h0 hX hml
  have CH : Hid (∀ W, Below W1.heap.size W1 W → Calls Tryz.prog 101 #[tsk (.slice ao n c) (k : Int) (f : Int) (t : Int) L D (a : Int) (b : Int) q] W fun e w' => e = .returned (.int .i64 (hmc l k f L (a : Int))) ∧ Below W.heap.size W w') := fun W hW => home_any ao n c k f (t : Int) L D (a : Int) (b : Int) q l W (HT1.out.keep hW) hk ha
  have HC1 := Hid.mk' (HC.out.keep T1.out.bel)
  generalize (sl l f t).map (tw tgB) = X at *
  generalize hmc l k f L (a : Int) = hm at *
  generalize sw l f t X = DD at *
  obtain ⟨B, hB⟩ : ∃ b, w.heap.size = b := ⟨_, rfl⟩
  have HB := Hid.mk' hB
  have K1 : Hid (Blk W1 B 90 (tskC (.slice ao n c) (k : Int) (f : Int) (t : Int) L D (a : Int) (b : Int) q)) := by unfold Hid; rw [← hB]; exact T1.out.tk
  have J1 : Hid (Blk W1 (B + 1) 35 (ef7 (.slice none 0 0) 0 false false (.slice none 0 0) 0 false)) := by unfold Hid; rw [← hB]; exact T1.out.ef
  have L1 := Hid.mk' T1.out.bel
  have J1s := Hid.mk' J1.out.lt
  have HW1 := Hid.mk' L1.out.size
  have K1d : Hid (Blk W1.drew B 90 (tskC (.slice ao n c) (k : Int) (f : Int) (t : Int) L D (a : Int) (b : Int) q)) := K1.out
  have J1d : Hid (Blk W1.drew (B + 1) 35 (ef7 (.slice none 0 0) 0 false false (.slice none 0 0) 0 false)) := J1.out
  have C1d : Hid (Blk W1.drew C 110 #[(.func (.func 74) #[] #[])]) := HC1.out
  have L1d : Hid (Below W1.heap.size W1 W1.drew) := (Below.refl _ _).drew
  have HCB : Hid (C ≠ B + 1) := by have := HC.out.lt; have := HB.out; unfold Hid; omega
  have hz0 : (0 : Int) ≤ (f : Int) := by omega
  have hz1 : (f : Int) ≤ (t : Int) := by omega
  have hz2 : (t : Int) ≤ (n : Int) := by omega
  have hz3 : (t : Int) ≤ (c : Int) := by omega
  obtain ⟨c0, c1, c2, c3', c4, c5, c6, c7, c8⟩ := tsk_cells K1d.out
  clear T1 HT hln K1 J1 HC1 HC hT3 HT3 HT1 hsl hml hcap
  go_enter Tryz.func106, Tryz.ntmps106
  go_upto_region 1 with fail
  clear hW1 hB
  go_region
  generalize W1.drew = V1 at *
  clear c0 c1 c2 c3' c4 c5 c6 c7 c8
  go_upto_region 2 with fail
  have SZ : Hid (Blk V1.drew B 90 (tskC (.slice ao n c) (k : Int) (f : Int) (t : Int) L D (a : Int) (b : Int) q) ∧ Blk V1.drew C 110 #[(.func (.func 74) #[] #[])]) := ⟨K1d.out, C1d.out⟩
  have J4 : Hid (Blk V1.drew (B + 1) 35 (ef7 (.slice none 0 0) 0 false false (.slice none 0 0) 0 false)) := J1d.out
  have B4 : Hid (Below W1.heap.size W1 V1.drew) := L1d.out.drew
  have HV4 : Hid (W1.heap.size ≤ V1.drew.heap.size) := B4.out.size
  clear K1d C1d J1d L1d
  refine wp_region_held (S := fun w' => Blk w' B 90 (tskC (.slice ao n c) (k : Int) (f : Int) (t : Int) L D (a : Int) (b : Int) q) ∧ Blk w' C 110 #[(.func (.func 74) #[] #[])]) (by kernel_rfl) ?_
  change wpAnyH _ _ _ _ _ _ _ _ (World.drew _)
  generalize V1.drew = V4 at *
  refine wpAnyH_take (i := 0) (v := .pointer (some ⟨B, 0, none⟩)) rfl (by kernel_rfl) (by kernel_rfl) (by kernel_rfl) (fun _ _ _ h => h) (Yields.yieldsIf (Or.inl ⟨by rfl, fun w => by go_simp⟩)) SZ.out ?_
  try simp only [Act.put, List.getElem_toArray, List.getElem_cons_zero, List.getElem_cons_succ, List.setIfInBounds_toArray, List.set_cons_zero, List.set_cons_succ]
  refine wpAnyH_take (i := 1) (v := .slice ao n c) rfl (by kernel_rfl) (by kernel_rfl) (by kernel_rfl) (fun _ _ _ h => h) (Or.inl ⟨by rfl, fun w9 h9 => by obtain ⟨h1, h2⟩ := h9; obtain ⟨c0, c1, c2, c3', c4, c5, c6, c7, c8⟩ := tsk_cells h1; have r0 : w9.cell? ⟨C, 0, none⟩ = some (.func (.func 74) #[] #[]) := h2.cell rfl; go_simp⟩) SZ.out ?_
  try simp only [Act.put, List.getElem_toArray, List.getElem_cons_zero, List.getElem_cons_succ, List.setIfInBounds_toArray, List.set_cons_zero, List.set_cons_succ]
  refine wpAnyH_take (i := 2) (v := .int .i64 (f : Int)) rfl (by kernel_rfl) (by kernel_rfl) (by kernel_rfl) (fun _ _ _ h => h) (Yields.yieldsIf (Or.inl ⟨by rfl, fun w => by go_simp⟩)) SZ.out ?_
  try simp only [Act.put, List.getElem_toArray, List.getElem_cons_zero, List.getElem_cons_succ, List.setIfInBounds_toArray, List.set_cons_zero, List.set_cons_succ]
  refine wpAnyH_take (i := 3) (v := .int .i64 (t : Int)) rfl (by kernel_rfl) (by kernel_rfl) (by kernel_rfl) (fun _ _ _ h => h) (Yields.yieldsIf (Or.inl ⟨by rfl, fun w => by go_simp⟩)) SZ.out ?_
  try simp only [Act.put, List.getElem_toArray, List.getElem_cons_zero, List.getElem_cons_succ, List.setIfInBounds_toArray, List.set_cons_zero, List.set_cons_succ]
  refine wpAnyH_take (i := 4) (v := .pointer (some ⟨B, 0, none⟩)) rfl (by kernel_rfl) (by kernel_rfl) (by kernel_rfl) (fun _ _ _ h => h) (Yields.yieldsIf (Or.inl ⟨by rfl, fun w => by go_simp⟩)) SZ.out ?_
  try simp only [Act.put, List.getElem_toArray, List.getElem_cons_zero, List.getElem_cons_succ, List.setIfInBounds_toArray, List.set_cons_zero, List.set_cons_succ]
  refine wpAnyH_take (i := 5) (v := .slice ao n c) rfl (by kernel_rfl) (by kernel_rfl) (by kernel_rfl) (fun _ _ _ h => h) (Or.inl ⟨by rfl, fun w9 h9 => by obtain ⟨h1, h2⟩ := h9; obtain ⟨c0, c1, c2, c3', c4, c5, c6, c7, c8⟩ := tsk_cells h1; have r0 : w9.cell? ⟨C, 0, none⟩ = some (.func (.func 74) #[] #[]) := h2.cell rfl; go_simp⟩) SZ.out ?_
  try simp only [Act.put, List.getElem_toArray, List.getElem_cons_zero, List.getElem_cons_succ, List.setIfInBounds_toArray, List.set_cons_zero, List.set_cons_succ]
  refine wpAnyH_take (i := 6) (v := .int .i64 (f : Int)) rfl (by kernel_rfl) (by kernel_rfl) (by kernel_rfl) (fun _ _ _ h => h) (Yields.yieldsIf (Or.inl ⟨by rfl, fun w => by go_simp⟩)) SZ.out ?_
  try simp only [Act.put, List.getElem_toArray, List.getElem_cons_zero, List.getElem_cons_succ, List.setIfInBounds_toArray, List.set_cons_zero, List.set_cons_succ]
  refine wpAnyH_take (i := 7) (v := .int .i64 (t : Int)) rfl (by kernel_rfl) (by kernel_rfl) (by kernel_rfl) (fun _ _ _ h => h) (Yields.yieldsIf (Or.inl ⟨by rfl, fun w => by go_simp⟩)) SZ.out ?_
  try simp only [Act.put, List.getElem_toArray, List.getElem_cons_zero, List.getElem_cons_succ, List.setIfInBounds_toArray, List.set_cons_zero, List.set_cons_succ]
  refine wpAnyH_take (i := 8) (v := .slice a3 (t - f) c3) rfl (by kernel_rfl) (by kernel_rfl) (by kernel_rfl) (fun _ _ _ h => h) (Yields.yieldsIf (Or.inl ⟨by rfl, fun w => by go_simp⟩)) SZ.out ?_
  try simp only [Act.put, List.getElem_toArray, List.getElem_cons_zero, List.getElem_cons_succ, List.setIfInBounds_toArray, List.set_cons_zero, List.set_cons_succ]
  refine wpAnyH_take (i := 9) (v := .func (.func 74) #[] #[]) rfl (by kernel_rfl) (by kernel_rfl) (by kernel_rfl) (fun _ _ _ h => h) (Or.inl ⟨by rfl, fun w9 h9 => by obtain ⟨h1, h2⟩ := h9; obtain ⟨c0, c1, c2, c3', c4, c5, c6, c7, c8⟩ := tsk_cells h1; have r0 : w9.cell? ⟨C, 0, none⟩ = some (.func (.func 74) #[] #[]) := h2.cell rfl; go_simp⟩) SZ.out ?_
  try simp only [Act.put, List.getElem_toArray, List.getElem_cons_zero, List.getElem_cons_succ, List.setIfInBounds_toArray, List.set_cons_zero, List.set_cons_succ]
  refine wpAnyH_take (i := 12) (v := .agg #[.slice ao n c, .int .i64 (k : Int), .int .i64 (f : Int), .int .i64 (t : Int), .bool L, .bool D, .int .i64 (a : Int), .int .i64 (b : Int), .int .i64 q]) rfl (by kernel_rfl) (by kernel_rfl) (by kernel_rfl) (fun _ _ _ h => h) (Or.inl ⟨by rfl, fun w9 h9 => by obtain ⟨h1, h2⟩ := h9; obtain ⟨c0, c1, c2, c3', c4, c5, c6, c7, c8⟩ := tsk_cells h1; have r0 : w9.cell? ⟨C, 0, none⟩ = some (.func (.func 74) #[] #[]) := h2.cell rfl; go_simp⟩) SZ.out ?_
  try simp only [Act.put, List.getElem_toArray, List.getElem_cons_zero, List.getElem_cons_succ, List.setIfInBounds_toArray, List.set_cons_zero, List.set_cons_succ]
  refine wpAnyH_all (rs := [10]) (by kernel_rfl) (by simp) (AllH.cons rfl (fun K hK => ?_) AllH.nil)
  go_simp
  refine (CE.out V4 B4.out).mono ?_
  rintro e w5 ⟨v5, rfl, hW5, hb5⟩
  obtain ⟨xp, xc, rfl⟩ := hW5.shape
  have S5 : Hid _ := And.intro (SZ.out.1.keep hb5) (SZ.out.2.keep hb5)
  have B5 := Hid.mk' (bT B4.out hb5)
  have W5 := Hid.mk' hW5
  have H5 := Hid.mk' hb5
  clear hb5 hW5 CE
  dsimp only
  refine hK _ _ ⟨S5.out, ?_⟩
  clear hK K
  try simp only [Act.put, List.getElem_toArray, List.getElem_cons_zero, List.getElem_cons_succ, List.setIfInBounds_toArray, List.set_cons_zero, List.set_cons_succ]
  refine wpAnyH_all (rs := [11]) (by kernel_rfl) (by simp) (AllH.cons rfl (fun K hK => ?_) AllH.nil)
  go_simp
  refine (CS.out V4 w5 xp X.length xc B5.out H5.out W5.out).mono ?_
  rintro e w6 ⟨v6, F, rfl, hFD, hE6, hb6⟩
  obtain ⟨eo, ec, rfl, -, -⟩ := hE6.edz
  obtain ⟨en, hen⟩ : ∃ en, F.length = en := ⟨_, rfl⟩
  rw [hen] at hE6 ⊢
  have HFD := Hid.mk' hFD
  have E6 := Hid.mk' hE6
  have S6 : Hid _ := And.intro (SZ.out.1.keep hb6) (SZ.out.2.keep hb6)
  have J6 := Hid.mk' (J4.out.keep hb6)
  have B6 := Hid.mk' (bT B4.out hb6)
  clear hen hFD hE6 hb6 CS S5 B5 W5 H5 SZ J4 B4
  dsimp only
  refine hK _ _ ⟨S6.out, ?_⟩
  clear hK K
  try simp only [Act.put, List.getElem_toArray, List.getElem_cons_zero, List.getElem_cons_succ, List.setIfInBounds_toArray, List.set_cons_zero, List.set_cons_succ]
  refine wpAnyH_all (rs := [13]) (by kernel_rfl) (by simp) (AllH.cons rfl (fun K hK => ?_) AllH.nil)
  go_simp
  refine (CH.out w6 B6.out).mono ?_
  rintro e w7 ⟨rfl, hb7⟩
  have S7 : Hid _ := And.intro (S6.out.1.keep hb7) (S6.out.2.keep hb7)
  have J7 := Hid.mk' (J6.out.keep hb7)
  have B7 := Hid.mk' (bT B6.out hb7)
  have E7 := Hid.mk' (E6.out.keep hb7)
  have HS7 := Hid.mk' hb7.size
  clear hb7 CH S6 J6 B6 E6
  dsimp only
  refine hK _ _ ⟨S7.out, ?_⟩
  clear hK K
  try simp only [Act.put, List.getElem_toArray, List.getElem_cons_zero, List.getElem_cons_succ, List.setIfInBounds_toArray, List.set_cons_zero, List.set_cons_succ]
  refine wpAnyH_take (i := 14) (v := .agg #[.slice eo en ec, .int .i64 hm, .bool false, .bool false, .slice none 0 0, .int .i64 0, .bool false]) rfl (by kernel_rfl) (by kernel_rfl) (by kernel_rfl) (fun _ _ _ h => h) (Yields.yieldsIf (Or.inl ⟨by rfl, fun w => by go_simp⟩)) S7.out ?_
  try simp only [Act.put, List.getElem_toArray, List.getElem_cons_zero, List.getElem_cons_succ, List.setIfInBounds_toArray, List.set_cons_zero, List.set_cons_succ]
  refine wpAnyH_all (rs := [15]) (by kernel_rfl) (by simp) (AllH.cons rfl (fun K hK => ?_) AllH.nil)
  obtain ⟨e0, e1, e2, e3, e4, e5, e6⟩ := ef_cells J7.out
  obtain ⟨f0, f1, f2, f3, f4, f5, f6⟩ := ef_frozen J7.out
  have hbk := ef_store J7.out (.slice eo en ec) (.int .i64 hm) (.bool false) (.bool false) (.slice none 0 0) (.int .i64 0) (.bool false)
  have hgr := ef_grown w7 (B + 1) (.slice eo en ec) (.int .i64 hm) (.bool false) (.bool false) (.slice none 0 0) (.int .i64 0) (.bool false)
  have ho1 := ef_off (B := B + 1) S7.out.1 (Nat.ne_of_lt (Nat.lt_succ_self B)) (.slice eo en ec) (.int .i64 hm) (.bool false) (.bool false) (.slice none 0 0) (.int .i64 0) (.bool false)
  have ho2 := ef_off (B := B + 1) S7.out.2 HCB.out (.slice eo en ec) (.int .i64 hm) (.bool false) (.bool false) (.slice none 0 0) (.int .i64 0) (.bool false)
  go_simp
  generalize (((((((w7.setCell ⟨B + 1, 0, none⟩ (.slice eo en ec)).setCell ⟨B + 1, 1, none⟩ (.int .i64 hm)).setCell ⟨B + 1, 2, none⟩ (.bool false)).setCell ⟨B + 1, 3, none⟩ (.bool false)).setCell ⟨B + 1, 4, none⟩ (.slice none 0 0)).setCell ⟨B + 1, 5, none⟩ (.int .i64 0)).setCell ⟨B + 1, 6, none⟩ (.bool false)) = w8 at *
  have S8 : Hid _ := And.intro ho1 ho2
  have J8 := Hid.mk' hbk
  have G8 := Hid.mk' hgr
  clear hbk hgr ho1 ho2 e0 e1 e2 e3 e4 e5 e6 f0 f1 f2 f3 f4 f5 f6
  refine hK _ _ ⟨S8.out, ?_⟩
  clear hK K
  try simp only [Act.put, List.getElem_toArray, List.getElem_cons_zero, List.getElem_cons_succ, List.setIfInBounds_toArray, List.set_cons_zero, List.set_cons_succ]
  refine wpAnyH_take (i := 16) (v := .int .i64 0) rfl (by kernel_rfl) (by kernel_rfl) (by kernel_rfl) (fun _ _ _ h => h) (Yields.yieldsIf (Or.inl ⟨by rfl, fun w => by go_simp⟩)) S8.out ?_
  try simp only [Act.put, List.getElem_toArray, List.getElem_cons_zero, List.getElem_cons_succ, List.setIfInBounds_toArray, List.set_cons_zero, List.set_cons_succ]
  refine wpAnyH_done (by kernel_rfl) ?_ _
  go_wp2_with fail
  obtain ⟨g0, g1, g2, g3, g4, g5, g6⟩ := ef_cells J8.out
  refine bodyPost_ret (v := .tuple #[.agg #[.slice eo en ec, .int .i64 hm, .bool false, .bool false, .slice none 0 0, .int .i64 0, .bool false], .int .i64 0]) (by simp [results, Tryz.results106, go_sem, g0, g1, g2, g3, g4, g5, g6]) rfl ⟨.slice eo en ec, F, .slice none 0 0, rfl, HFD.out, ?_, ?_⟩
  · exact Efm.bare ((E7.out.grown G8.out (.inl (Nat.lt_of_lt_of_le J1s.out HV4.out))).wide (Nat.le_trans HW1.out HV4.out) (Nat.le_trans HS7.out G8.out.size))
  · exact (bT L1.out B7.out).grown G8.out (bT L1.out B7.out).size (fun g hg => by injection hg with hg; rw [← hg, HB.out]; exact Nat.le_succ B)
set_option maxHeartbeats 4000000 in
theorem letters_low (w : World) : Calls Tryz.prog 73 #[(.func (.func 75) #[] #[])] w fun e w' => ∃ C, e = .returned (.func (.func 106) #[] #[.pointer (some ⟨C, 0, none⟩)]) ∧ Blk w' C 110 #[(.func (.func 75) #[] #[])] ∧ w.heap.size ≤ C ∧ Below w.heap.size w w' := by
  go_enter Tryz.func73, Tryz.ntmps73
  go_wp2
  go_ret
  exact ⟨w.heap.size, rfl, Blk.new w 110 _, Nat.le_refl _, bAlloc (Below.refl _ _) _⟩
set_option maxHeartbeats 8000000 in
set_option linter.unusedSimpArgs false in
theorem let_low (ao : Option Addr) (n c k f t C : Nat) (L D : Bool) (a b : Nat) (q : Int) (l : List UInt8) (w : World) (HT : Hid (Tx w ao n c l)) (hbig : n ≤ 1048576) (hft : f ≤ t) (ht : t ≤ n) (hk : k ≤ n) (ha : (a : Int) ≤ 9223372036854775807) (HC : Hid (Blk w C 110 #[(.func (.func 75) #[] #[])])) :
    Calls Tryz.prog 106 #[tsk (.slice ao n c) (k : Int) (f : Int) (t : Int) L D (a : Int) (b : Int) q, .pointer (some ⟨C, 0, none⟩)] w fun e w' => EfQ ⟨sw l f t ((sl l f t).map (tw loB)), hmc l k f L (a : Int), false, false, [], 0, false⟩ 0 w e w' := by
  show Calls Tryz.prog 106 #[.agg #[.slice ao n c, .int .i64 (k : Int), .int .i64 (f : Int), .int .i64 (t : Int), .bool L, .bool D, .int .i64 (a : Int), .int .i64 (b : Int), .int .i64 q], .pointer (some ⟨C, 0, none⟩)] w _
  obtain ⟨W1, hW1⟩ : ∃ x, (w.alloc (.cells #[.slice ao n c, .int .i64 (k : Int), .int .i64 (f : Int), .int .i64 (t : Int), .bool L, .bool D, .int .i64 (a : Int), .int .i64 (b : Int), .int .i64 q] 90)).alloc (.cells #[.slice none 0 0, .int .i64 0, .bool false, .bool false, .slice none 0 0, .int .i64 0, .bool false] 35) = x := ⟨_, rfl⟩
  have T1 : Hid (Two w W1 (.slice ao n c) (k : Int) (f : Int) (t : Int) L D (a : Int) (b : Int) q) := by unfold Hid; rw [← hW1]; exact Two.new w _ _ _ _ _ _ _ _ _
  have hln := HT.out.len
  have HT1 := Hid.mk' (HT.out.keep T1.out.bel)
  obtain ⟨a3, c3, hs3, hT3⟩ := sl_lh' HT1.out hft ht
  have hcap := HT.out.cap
  have HT3 := Hid.mk' hT3
  have hsl : (sl l f t).length = t - f := sl_len (by omega)
  have CE : Hid (∀ W, Below W1.heap.size W1 W → Calls Tryz.prog 89 #[.slice a3 (t - f) c3, (.func (.func 75) #[] #[])] W fun e w' => WbP ((sl l f t).map (tw loB)) W e w') := fun W hW => each_low a3 (t - f) c3 (sl l f t) W (HT3.out.keep hW) (by omega)
  have hml : ((sl l f t).map (tw loB)).length ≤ 140737488355328 := by rw [List.length_map]; omega
  have CS : Hid (∀ W0 W xp xn xc, Below W1.heap.size W1 W → Below W0.heap.size W0 W → Wb W W0.heap.size W.heap.size (.slice xp xn xc) ((sl l f t).map (tw loB)) → Calls Tryz.prog 83 #[.slice ao n c, .int .i64 (f : Int), .int .i64 (t : Int), .slice xp xn xc] W fun e w' => EsP (sw l f t ((sl l f t).map (tw loB))) W0 e w') := fun W0 W xp xn xc hW h0 hX => swap_any W0 ao n c f t l xp xn xc _ W (HT1.out.keep hW) hft ht (by omega) h0 hX hml
  have CH : Hid (∀ W, Below W1.heap.size W1 W → Calls Tryz.prog 101 #[tsk (.slice ao n c) (k : Int) (f : Int) (t : Int) L D (a : Int) (b : Int) q] W fun e w' => e = .returned (.int .i64 (hmc l k f L (a : Int))) ∧ Below W.heap.size W w') := fun W hW => home_any ao n c k f (t : Int) L D (a : Int) (b : Int) q l W (HT1.out.keep hW) hk ha
  have HC1 := Hid.mk' (HC.out.keep T1.out.bel)
  generalize (sl l f t).map (tw loB) = X at *
  generalize hmc l k f L (a : Int) = hm at *
  generalize sw l f t X = DD at *
  obtain ⟨B, hB⟩ : ∃ b, w.heap.size = b := ⟨_, rfl⟩
  have HB := Hid.mk' hB
  have K1 : Hid (Blk W1 B 90 (tskC (.slice ao n c) (k : Int) (f : Int) (t : Int) L D (a : Int) (b : Int) q)) := by unfold Hid; rw [← hB]; exact T1.out.tk
  have J1 : Hid (Blk W1 (B + 1) 35 (ef7 (.slice none 0 0) 0 false false (.slice none 0 0) 0 false)) := by unfold Hid; rw [← hB]; exact T1.out.ef
  have L1 := Hid.mk' T1.out.bel
  have J1s := Hid.mk' J1.out.lt
  have HW1 := Hid.mk' L1.out.size
  have K1d : Hid (Blk W1.drew B 90 (tskC (.slice ao n c) (k : Int) (f : Int) (t : Int) L D (a : Int) (b : Int) q)) := K1.out
  have J1d : Hid (Blk W1.drew (B + 1) 35 (ef7 (.slice none 0 0) 0 false false (.slice none 0 0) 0 false)) := J1.out
  have C1d : Hid (Blk W1.drew C 110 #[(.func (.func 75) #[] #[])]) := HC1.out
  have L1d : Hid (Below W1.heap.size W1 W1.drew) := (Below.refl _ _).drew
  have HCB : Hid (C ≠ B + 1) := by have := HC.out.lt; have := HB.out; unfold Hid; omega
  have hz0 : (0 : Int) ≤ (f : Int) := by omega
  have hz1 : (f : Int) ≤ (t : Int) := by omega
  have hz2 : (t : Int) ≤ (n : Int) := by omega
  have hz3 : (t : Int) ≤ (c : Int) := by omega
  obtain ⟨c0, c1, c2, c3', c4, c5, c6, c7, c8⟩ := tsk_cells K1d.out
  clear T1 HT hln K1 J1 HC1 HC hT3 HT3 HT1 hsl hml hcap
  go_enter Tryz.func106, Tryz.ntmps106
  go_upto_region 1 with fail
  clear hW1 hB
  go_region
  generalize W1.drew = V1 at *
  clear c0 c1 c2 c3' c4 c5 c6 c7 c8
  go_upto_region 2 with fail
  have SZ : Hid (Blk V1.drew B 90 (tskC (.slice ao n c) (k : Int) (f : Int) (t : Int) L D (a : Int) (b : Int) q) ∧ Blk V1.drew C 110 #[(.func (.func 75) #[] #[])]) := ⟨K1d.out, C1d.out⟩
  have J4 : Hid (Blk V1.drew (B + 1) 35 (ef7 (.slice none 0 0) 0 false false (.slice none 0 0) 0 false)) := J1d.out
  have B4 : Hid (Below W1.heap.size W1 V1.drew) := L1d.out.drew
  have HV4 : Hid (W1.heap.size ≤ V1.drew.heap.size) := B4.out.size
  clear K1d C1d J1d L1d
  refine wp_region_held (S := fun w' => Blk w' B 90 (tskC (.slice ao n c) (k : Int) (f : Int) (t : Int) L D (a : Int) (b : Int) q) ∧ Blk w' C 110 #[(.func (.func 75) #[] #[])]) (by kernel_rfl) ?_
  change wpAnyH _ _ _ _ _ _ _ _ (World.drew _)
  generalize V1.drew = V4 at *
  refine wpAnyH_take (i := 0) (v := .pointer (some ⟨B, 0, none⟩)) rfl (by kernel_rfl) (by kernel_rfl) (by kernel_rfl) (fun _ _ _ h => h) (Yields.yieldsIf (Or.inl ⟨by rfl, fun w => by go_simp⟩)) SZ.out ?_
  try simp only [Act.put, List.getElem_toArray, List.getElem_cons_zero, List.getElem_cons_succ, List.setIfInBounds_toArray, List.set_cons_zero, List.set_cons_succ]
  refine wpAnyH_take (i := 1) (v := .slice ao n c) rfl (by kernel_rfl) (by kernel_rfl) (by kernel_rfl) (fun _ _ _ h => h) (Or.inl ⟨by rfl, fun w9 h9 => by obtain ⟨h1, h2⟩ := h9; obtain ⟨c0, c1, c2, c3', c4, c5, c6, c7, c8⟩ := tsk_cells h1; have r0 : w9.cell? ⟨C, 0, none⟩ = some (.func (.func 75) #[] #[]) := h2.cell rfl; go_simp⟩) SZ.out ?_
  try simp only [Act.put, List.getElem_toArray, List.getElem_cons_zero, List.getElem_cons_succ, List.setIfInBounds_toArray, List.set_cons_zero, List.set_cons_succ]
  refine wpAnyH_take (i := 2) (v := .int .i64 (f : Int)) rfl (by kernel_rfl) (by kernel_rfl) (by kernel_rfl) (fun _ _ _ h => h) (Yields.yieldsIf (Or.inl ⟨by rfl, fun w => by go_simp⟩)) SZ.out ?_
  try simp only [Act.put, List.getElem_toArray, List.getElem_cons_zero, List.getElem_cons_succ, List.setIfInBounds_toArray, List.set_cons_zero, List.set_cons_succ]
  refine wpAnyH_take (i := 3) (v := .int .i64 (t : Int)) rfl (by kernel_rfl) (by kernel_rfl) (by kernel_rfl) (fun _ _ _ h => h) (Yields.yieldsIf (Or.inl ⟨by rfl, fun w => by go_simp⟩)) SZ.out ?_
  try simp only [Act.put, List.getElem_toArray, List.getElem_cons_zero, List.getElem_cons_succ, List.setIfInBounds_toArray, List.set_cons_zero, List.set_cons_succ]
  refine wpAnyH_take (i := 4) (v := .pointer (some ⟨B, 0, none⟩)) rfl (by kernel_rfl) (by kernel_rfl) (by kernel_rfl) (fun _ _ _ h => h) (Yields.yieldsIf (Or.inl ⟨by rfl, fun w => by go_simp⟩)) SZ.out ?_
  try simp only [Act.put, List.getElem_toArray, List.getElem_cons_zero, List.getElem_cons_succ, List.setIfInBounds_toArray, List.set_cons_zero, List.set_cons_succ]
  refine wpAnyH_take (i := 5) (v := .slice ao n c) rfl (by kernel_rfl) (by kernel_rfl) (by kernel_rfl) (fun _ _ _ h => h) (Or.inl ⟨by rfl, fun w9 h9 => by obtain ⟨h1, h2⟩ := h9; obtain ⟨c0, c1, c2, c3', c4, c5, c6, c7, c8⟩ := tsk_cells h1; have r0 : w9.cell? ⟨C, 0, none⟩ = some (.func (.func 75) #[] #[]) := h2.cell rfl; go_simp⟩) SZ.out ?_
  try simp only [Act.put, List.getElem_toArray, List.getElem_cons_zero, List.getElem_cons_succ, List.setIfInBounds_toArray, List.set_cons_zero, List.set_cons_succ]
  refine wpAnyH_take (i := 6) (v := .int .i64 (f : Int)) rfl (by kernel_rfl) (by kernel_rfl) (by kernel_rfl) (fun _ _ _ h => h) (Yields.yieldsIf (Or.inl ⟨by rfl, fun w => by go_simp⟩)) SZ.out ?_
  try simp only [Act.put, List.getElem_toArray, List.getElem_cons_zero, List.getElem_cons_succ, List.setIfInBounds_toArray, List.set_cons_zero, List.set_cons_succ]
  refine wpAnyH_take (i := 7) (v := .int .i64 (t : Int)) rfl (by kernel_rfl) (by kernel_rfl) (by kernel_rfl) (fun _ _ _ h => h) (Yields.yieldsIf (Or.inl ⟨by rfl, fun w => by go_simp⟩)) SZ.out ?_
  try simp only [Act.put, List.getElem_toArray, List.getElem_cons_zero, List.getElem_cons_succ, List.setIfInBounds_toArray, List.set_cons_zero, List.set_cons_succ]
  refine wpAnyH_take (i := 8) (v := .slice a3 (t - f) c3) rfl (by kernel_rfl) (by kernel_rfl) (by kernel_rfl) (fun _ _ _ h => h) (Yields.yieldsIf (Or.inl ⟨by rfl, fun w => by go_simp⟩)) SZ.out ?_
  try simp only [Act.put, List.getElem_toArray, List.getElem_cons_zero, List.getElem_cons_succ, List.setIfInBounds_toArray, List.set_cons_zero, List.set_cons_succ]
  refine wpAnyH_take (i := 9) (v := .func (.func 75) #[] #[]) rfl (by kernel_rfl) (by kernel_rfl) (by kernel_rfl) (fun _ _ _ h => h) (Or.inl ⟨by rfl, fun w9 h9 => by obtain ⟨h1, h2⟩ := h9; obtain ⟨c0, c1, c2, c3', c4, c5, c6, c7, c8⟩ := tsk_cells h1; have r0 : w9.cell? ⟨C, 0, none⟩ = some (.func (.func 75) #[] #[]) := h2.cell rfl; go_simp⟩) SZ.out ?_
  try simp only [Act.put, List.getElem_toArray, List.getElem_cons_zero, List.getElem_cons_succ, List.setIfInBounds_toArray, List.set_cons_zero, List.set_cons_succ]
  refine wpAnyH_take (i := 12) (v := .agg #[.slice ao n c, .int .i64 (k : Int), .int .i64 (f : Int), .int .i64 (t : Int), .bool L, .bool D, .int .i64 (a : Int), .int .i64 (b : Int), .int .i64 q]) rfl (by kernel_rfl) (by kernel_rfl) (by kernel_rfl) (fun _ _ _ h => h) (Or.inl ⟨by rfl, fun w9 h9 => by obtain ⟨h1, h2⟩ := h9; obtain ⟨c0, c1, c2, c3', c4, c5, c6, c7, c8⟩ := tsk_cells h1; have r0 : w9.cell? ⟨C, 0, none⟩ = some (.func (.func 75) #[] #[]) := h2.cell rfl; go_simp⟩) SZ.out ?_
  try simp only [Act.put, List.getElem_toArray, List.getElem_cons_zero, List.getElem_cons_succ, List.setIfInBounds_toArray, List.set_cons_zero, List.set_cons_succ]
  refine wpAnyH_all (rs := [10]) (by kernel_rfl) (by simp) (AllH.cons rfl (fun K hK => ?_) AllH.nil)
  go_simp
  refine (CE.out V4 B4.out).mono ?_
  rintro e w5 ⟨v5, rfl, hW5, hb5⟩
  obtain ⟨xp, xc, rfl⟩ := hW5.shape
  have S5 : Hid _ := And.intro (SZ.out.1.keep hb5) (SZ.out.2.keep hb5)
  have B5 := Hid.mk' (bT B4.out hb5)
  have W5 := Hid.mk' hW5
  have H5 := Hid.mk' hb5
  clear hb5 hW5 CE
  dsimp only
  refine hK _ _ ⟨S5.out, ?_⟩
  clear hK K
  try simp only [Act.put, List.getElem_toArray, List.getElem_cons_zero, List.getElem_cons_succ, List.setIfInBounds_toArray, List.set_cons_zero, List.set_cons_succ]
  refine wpAnyH_all (rs := [11]) (by kernel_rfl) (by simp) (AllH.cons rfl (fun K hK => ?_) AllH.nil)
  go_simp
  refine (CS.out V4 w5 xp X.length xc B5.out H5.out W5.out).mono ?_
  rintro e w6 ⟨v6, F, rfl, hFD, hE6, hb6⟩
  obtain ⟨eo, ec, rfl, -, -⟩ := hE6.edz
  obtain ⟨en, hen⟩ : ∃ en, F.length = en := ⟨_, rfl⟩
  rw [hen] at hE6 ⊢
  have HFD := Hid.mk' hFD
  have E6 := Hid.mk' hE6
  have S6 : Hid _ := And.intro (SZ.out.1.keep hb6) (SZ.out.2.keep hb6)
  have J6 := Hid.mk' (J4.out.keep hb6)
  have B6 := Hid.mk' (bT B4.out hb6)
  clear hen hFD hE6 hb6 CS S5 B5 W5 H5 SZ J4 B4
  dsimp only
  refine hK _ _ ⟨S6.out, ?_⟩
  clear hK K
  try simp only [Act.put, List.getElem_toArray, List.getElem_cons_zero, List.getElem_cons_succ, List.setIfInBounds_toArray, List.set_cons_zero, List.set_cons_succ]
  refine wpAnyH_all (rs := [13]) (by kernel_rfl) (by simp) (AllH.cons rfl (fun K hK => ?_) AllH.nil)
  go_simp
  refine (CH.out w6 B6.out).mono ?_
  rintro e w7 ⟨rfl, hb7⟩
  have S7 : Hid _ := And.intro (S6.out.1.keep hb7) (S6.out.2.keep hb7)
  have J7 := Hid.mk' (J6.out.keep hb7)
  have B7 := Hid.mk' (bT B6.out hb7)
  have E7 := Hid.mk' (E6.out.keep hb7)
  have HS7 := Hid.mk' hb7.size
  clear hb7 CH S6 J6 B6 E6
  dsimp only
  refine hK _ _ ⟨S7.out, ?_⟩
  clear hK K
  try simp only [Act.put, List.getElem_toArray, List.getElem_cons_zero, List.getElem_cons_succ, List.setIfInBounds_toArray, List.set_cons_zero, List.set_cons_succ]
  refine wpAnyH_take (i := 14) (v := .agg #[.slice eo en ec, .int .i64 hm, .bool false, .bool false, .slice none 0 0, .int .i64 0, .bool false]) rfl (by kernel_rfl) (by kernel_rfl) (by kernel_rfl) (fun _ _ _ h => h) (Yields.yieldsIf (Or.inl ⟨by rfl, fun w => by go_simp⟩)) S7.out ?_
  try simp only [Act.put, List.getElem_toArray, List.getElem_cons_zero, List.getElem_cons_succ, List.setIfInBounds_toArray, List.set_cons_zero, List.set_cons_succ]
  refine wpAnyH_all (rs := [15]) (by kernel_rfl) (by simp) (AllH.cons rfl (fun K hK => ?_) AllH.nil)
  obtain ⟨e0, e1, e2, e3, e4, e5, e6⟩ := ef_cells J7.out
  obtain ⟨f0, f1, f2, f3, f4, f5, f6⟩ := ef_frozen J7.out
  have hbk := ef_store J7.out (.slice eo en ec) (.int .i64 hm) (.bool false) (.bool false) (.slice none 0 0) (.int .i64 0) (.bool false)
  have hgr := ef_grown w7 (B + 1) (.slice eo en ec) (.int .i64 hm) (.bool false) (.bool false) (.slice none 0 0) (.int .i64 0) (.bool false)
  have ho1 := ef_off (B := B + 1) S7.out.1 (Nat.ne_of_lt (Nat.lt_succ_self B)) (.slice eo en ec) (.int .i64 hm) (.bool false) (.bool false) (.slice none 0 0) (.int .i64 0) (.bool false)
  have ho2 := ef_off (B := B + 1) S7.out.2 HCB.out (.slice eo en ec) (.int .i64 hm) (.bool false) (.bool false) (.slice none 0 0) (.int .i64 0) (.bool false)
  go_simp
  generalize (((((((w7.setCell ⟨B + 1, 0, none⟩ (.slice eo en ec)).setCell ⟨B + 1, 1, none⟩ (.int .i64 hm)).setCell ⟨B + 1, 2, none⟩ (.bool false)).setCell ⟨B + 1, 3, none⟩ (.bool false)).setCell ⟨B + 1, 4, none⟩ (.slice none 0 0)).setCell ⟨B + 1, 5, none⟩ (.int .i64 0)).setCell ⟨B + 1, 6, none⟩ (.bool false)) = w8 at *
  have S8 : Hid _ := And.intro ho1 ho2
  have J8 := Hid.mk' hbk
  have G8 := Hid.mk' hgr
  clear hbk hgr ho1 ho2 e0 e1 e2 e3 e4 e5 e6 f0 f1 f2 f3 f4 f5 f6
  refine hK _ _ ⟨S8.out, ?_⟩
  clear hK K
  try simp only [Act.put, List.getElem_toArray, List.getElem_cons_zero, List.getElem_cons_succ, List.setIfInBounds_toArray, List.set_cons_zero, List.set_cons_succ]
  refine wpAnyH_take (i := 16) (v := .int .i64 0) rfl (by kernel_rfl) (by kernel_rfl) (by kernel_rfl) (fun _ _ _ h => h) (Yields.yieldsIf (Or.inl ⟨by rfl, fun w => by go_simp⟩)) S8.out ?_
  try simp only [Act.put, List.getElem_toArray, List.getElem_cons_zero, List.getElem_cons_succ, List.setIfInBounds_toArray, List.set_cons_zero, List.set_cons_succ]
  refine wpAnyH_done (by kernel_rfl) ?_ _
  go_wp2_with fail
  obtain ⟨g0, g1, g2, g3, g4, g5, g6⟩ := ef_cells J8.out
  refine bodyPost_ret (v := .tuple #[.agg #[.slice eo en ec, .int .i64 hm, .bool false, .bool false, .slice none 0 0, .int .i64 0, .bool false], .int .i64 0]) (by simp [results, Tryz.results106, go_sem, g0, g1, g2, g3, g4, g5, g6]) rfl ⟨.slice eo en ec, F, .slice none 0 0, rfl, HFD.out, ?_, ?_⟩
  · exact Efm.bare ((E7.out.grown G8.out (.inl (Nat.lt_of_lt_of_le J1s.out HV4.out))).wide (Nat.le_trans HW1.out HV4.out) (Nat.le_trans HS7.out G8.out.size))
  · exact (bT L1.out B7.out).grown G8.out (bT L1.out B7.out).size (fun g hg => by injection hg with hg; rw [← hg, HB.out]; exact Nat.le_succ B)
set_option maxHeartbeats 4000000 in
theorem letters_upp (w : World) : Calls Tryz.prog 73 #[(.func (.func 76) #[] #[])] w fun e w' => ∃ C, e = .returned (.func (.func 106) #[] #[.pointer (some ⟨C, 0, none⟩)]) ∧ Blk w' C 110 #[(.func (.func 76) #[] #[])] ∧ w.heap.size ≤ C ∧ Below w.heap.size w w' := by
  go_enter Tryz.func73, Tryz.ntmps73
  go_wp2
  go_ret
  exact ⟨w.heap.size, rfl, Blk.new w 110 _, Nat.le_refl _, bAlloc (Below.refl _ _) _⟩
set_option maxHeartbeats 8000000 in
set_option linter.unusedSimpArgs false in
theorem let_upp (ao : Option Addr) (n c k f t C : Nat) (L D : Bool) (a b : Nat) (q : Int) (l : List UInt8) (w : World) (HT : Hid (Tx w ao n c l)) (hbig : n ≤ 1048576) (hft : f ≤ t) (ht : t ≤ n) (hk : k ≤ n) (ha : (a : Int) ≤ 9223372036854775807) (HC : Hid (Blk w C 110 #[(.func (.func 76) #[] #[])])) :
    Calls Tryz.prog 106 #[tsk (.slice ao n c) (k : Int) (f : Int) (t : Int) L D (a : Int) (b : Int) q, .pointer (some ⟨C, 0, none⟩)] w fun e w' => EfQ ⟨sw l f t ((sl l f t).map (tw upB)), hmc l k f L (a : Int), false, false, [], 0, false⟩ 0 w e w' := by
  show Calls Tryz.prog 106 #[.agg #[.slice ao n c, .int .i64 (k : Int), .int .i64 (f : Int), .int .i64 (t : Int), .bool L, .bool D, .int .i64 (a : Int), .int .i64 (b : Int), .int .i64 q], .pointer (some ⟨C, 0, none⟩)] w _
  obtain ⟨W1, hW1⟩ : ∃ x, (w.alloc (.cells #[.slice ao n c, .int .i64 (k : Int), .int .i64 (f : Int), .int .i64 (t : Int), .bool L, .bool D, .int .i64 (a : Int), .int .i64 (b : Int), .int .i64 q] 90)).alloc (.cells #[.slice none 0 0, .int .i64 0, .bool false, .bool false, .slice none 0 0, .int .i64 0, .bool false] 35) = x := ⟨_, rfl⟩
  have T1 : Hid (Two w W1 (.slice ao n c) (k : Int) (f : Int) (t : Int) L D (a : Int) (b : Int) q) := by unfold Hid; rw [← hW1]; exact Two.new w _ _ _ _ _ _ _ _ _
  have hln := HT.out.len
  have HT1 := Hid.mk' (HT.out.keep T1.out.bel)
  obtain ⟨a3, c3, hs3, hT3⟩ := sl_lh' HT1.out hft ht
  have hcap := HT.out.cap
  have HT3 := Hid.mk' hT3
  have hsl : (sl l f t).length = t - f := sl_len (by omega)
  have CE : Hid (∀ W, Below W1.heap.size W1 W → Calls Tryz.prog 89 #[.slice a3 (t - f) c3, (.func (.func 76) #[] #[])] W fun e w' => WbP ((sl l f t).map (tw upB)) W e w') := fun W hW => each_upp a3 (t - f) c3 (sl l f t) W (HT3.out.keep hW) (by omega)
  have hml : ((sl l f t).map (tw upB)).length ≤ 140737488355328 := by rw [List.length_map]; omega
  have CS : Hid (∀ W0 W xp xn xc, Below W1.heap.size W1 W → Below W0.heap.size W0 W → Wb W W0.heap.size W.heap.size (.slice xp xn xc) ((sl l f t).map (tw upB)) → Calls Tryz.prog 83 #[.slice ao n c, .int .i64 (f : Int), .int .i64 (t : Int), .slice xp xn xc] W fun e w' => EsP (sw l f t ((sl l f t).map (tw upB))) W0 e w') := fun W0 W xp xn xc hW h0 hX => swap_any W0 ao n c f t l xp xn xc _ W (HT1.out.keep hW) hft ht (by omega) h0 hX hml
  have CH : Hid (∀ W, Below W1.heap.size W1 W → Calls Tryz.prog 101 #[tsk (.slice ao n c) (k : Int) (f : Int) (t : Int) L D (a : Int) (b : Int) q] W fun e w' => e = .returned (.int .i64 (hmc l k f L (a : Int))) ∧ Below W.heap.size W w') := fun W hW => home_any ao n c k f (t : Int) L D (a : Int) (b : Int) q l W (HT1.out.keep hW) hk ha
  have HC1 := Hid.mk' (HC.out.keep T1.out.bel)
  generalize (sl l f t).map (tw upB) = X at *
  generalize hmc l k f L (a : Int) = hm at *
  generalize sw l f t X = DD at *
  obtain ⟨B, hB⟩ : ∃ b, w.heap.size = b := ⟨_, rfl⟩
  have HB := Hid.mk' hB
  have K1 : Hid (Blk W1 B 90 (tskC (.slice ao n c) (k : Int) (f : Int) (t : Int) L D (a : Int) (b : Int) q)) := by unfold Hid; rw [← hB]; exact T1.out.tk
  have J1 : Hid (Blk W1 (B + 1) 35 (ef7 (.slice none 0 0) 0 false false (.slice none 0 0) 0 false)) := by unfold Hid; rw [← hB]; exact T1.out.ef
  have L1 := Hid.mk' T1.out.bel
  have J1s := Hid.mk' J1.out.lt
  have HW1 := Hid.mk' L1.out.size
  have K1d : Hid (Blk W1.drew B 90 (tskC (.slice ao n c) (k : Int) (f : Int) (t : Int) L D (a : Int) (b : Int) q)) := K1.out
  have J1d : Hid (Blk W1.drew (B + 1) 35 (ef7 (.slice none 0 0) 0 false false (.slice none 0 0) 0 false)) := J1.out
  have C1d : Hid (Blk W1.drew C 110 #[(.func (.func 76) #[] #[])]) := HC1.out
  have L1d : Hid (Below W1.heap.size W1 W1.drew) := (Below.refl _ _).drew
  have HCB : Hid (C ≠ B + 1) := by have := HC.out.lt; have := HB.out; unfold Hid; omega
  have hz0 : (0 : Int) ≤ (f : Int) := by omega
  have hz1 : (f : Int) ≤ (t : Int) := by omega
  have hz2 : (t : Int) ≤ (n : Int) := by omega
  have hz3 : (t : Int) ≤ (c : Int) := by omega
  obtain ⟨c0, c1, c2, c3', c4, c5, c6, c7, c8⟩ := tsk_cells K1d.out
  clear T1 HT hln K1 J1 HC1 HC hT3 HT3 HT1 hsl hml hcap
  go_enter Tryz.func106, Tryz.ntmps106
  go_upto_region 1 with fail
  clear hW1 hB
  go_region
  generalize W1.drew = V1 at *
  clear c0 c1 c2 c3' c4 c5 c6 c7 c8
  go_upto_region 2 with fail
  have SZ : Hid (Blk V1.drew B 90 (tskC (.slice ao n c) (k : Int) (f : Int) (t : Int) L D (a : Int) (b : Int) q) ∧ Blk V1.drew C 110 #[(.func (.func 76) #[] #[])]) := ⟨K1d.out, C1d.out⟩
  have J4 : Hid (Blk V1.drew (B + 1) 35 (ef7 (.slice none 0 0) 0 false false (.slice none 0 0) 0 false)) := J1d.out
  have B4 : Hid (Below W1.heap.size W1 V1.drew) := L1d.out.drew
  have HV4 : Hid (W1.heap.size ≤ V1.drew.heap.size) := B4.out.size
  clear K1d C1d J1d L1d
  refine wp_region_held (S := fun w' => Blk w' B 90 (tskC (.slice ao n c) (k : Int) (f : Int) (t : Int) L D (a : Int) (b : Int) q) ∧ Blk w' C 110 #[(.func (.func 76) #[] #[])]) (by kernel_rfl) ?_
  change wpAnyH _ _ _ _ _ _ _ _ (World.drew _)
  generalize V1.drew = V4 at *
  refine wpAnyH_take (i := 0) (v := .pointer (some ⟨B, 0, none⟩)) rfl (by kernel_rfl) (by kernel_rfl) (by kernel_rfl) (fun _ _ _ h => h) (Yields.yieldsIf (Or.inl ⟨by rfl, fun w => by go_simp⟩)) SZ.out ?_
  try simp only [Act.put, List.getElem_toArray, List.getElem_cons_zero, List.getElem_cons_succ, List.setIfInBounds_toArray, List.set_cons_zero, List.set_cons_succ]
  refine wpAnyH_take (i := 1) (v := .slice ao n c) rfl (by kernel_rfl) (by kernel_rfl) (by kernel_rfl) (fun _ _ _ h => h) (Or.inl ⟨by rfl, fun w9 h9 => by obtain ⟨h1, h2⟩ := h9; obtain ⟨c0, c1, c2, c3', c4, c5, c6, c7, c8⟩ := tsk_cells h1; have r0 : w9.cell? ⟨C, 0, none⟩ = some (.func (.func 76) #[] #[]) := h2.cell rfl; go_simp⟩) SZ.out ?_
  try simp only [Act.put, List.getElem_toArray, List.getElem_cons_zero, List.getElem_cons_succ, List.setIfInBounds_toArray, List.set_cons_zero, List.set_cons_succ]
  refine wpAnyH_take (i := 2) (v := .int .i64 (f : Int)) rfl (by kernel_rfl) (by kernel_rfl) (by kernel_rfl) (fun _ _ _ h => h) (Yields.yieldsIf (Or.inl ⟨by rfl, fun w => by go_simp⟩)) SZ.out ?_
  try simp only [Act.put, List.getElem_toArray, List.getElem_cons_zero, List.getElem_cons_succ, List.setIfInBounds_toArray, List.set_cons_zero, List.set_cons_succ]
  refine wpAnyH_take (i := 3) (v := .int .i64 (t : Int)) rfl (by kernel_rfl) (by kernel_rfl) (by kernel_rfl) (fun _ _ _ h => h) (Yields.yieldsIf (Or.inl ⟨by rfl, fun w => by go_simp⟩)) SZ.out ?_
  try simp only [Act.put, List.getElem_toArray, List.getElem_cons_zero, List.getElem_cons_succ, List.setIfInBounds_toArray, List.set_cons_zero, List.set_cons_succ]
  refine wpAnyH_take (i := 4) (v := .pointer (some ⟨B, 0, none⟩)) rfl (by kernel_rfl) (by kernel_rfl) (by kernel_rfl) (fun _ _ _ h => h) (Yields.yieldsIf (Or.inl ⟨by rfl, fun w => by go_simp⟩)) SZ.out ?_
  try simp only [Act.put, List.getElem_toArray, List.getElem_cons_zero, List.getElem_cons_succ, List.setIfInBounds_toArray, List.set_cons_zero, List.set_cons_succ]
  refine wpAnyH_take (i := 5) (v := .slice ao n c) rfl (by kernel_rfl) (by kernel_rfl) (by kernel_rfl) (fun _ _ _ h => h) (Or.inl ⟨by rfl, fun w9 h9 => by obtain ⟨h1, h2⟩ := h9; obtain ⟨c0, c1, c2, c3', c4, c5, c6, c7, c8⟩ := tsk_cells h1; have r0 : w9.cell? ⟨C, 0, none⟩ = some (.func (.func 76) #[] #[]) := h2.cell rfl; go_simp⟩) SZ.out ?_
  try simp only [Act.put, List.getElem_toArray, List.getElem_cons_zero, List.getElem_cons_succ, List.setIfInBounds_toArray, List.set_cons_zero, List.set_cons_succ]
  refine wpAnyH_take (i := 6) (v := .int .i64 (f : Int)) rfl (by kernel_rfl) (by kernel_rfl) (by kernel_rfl) (fun _ _ _ h => h) (Yields.yieldsIf (Or.inl ⟨by rfl, fun w => by go_simp⟩)) SZ.out ?_
  try simp only [Act.put, List.getElem_toArray, List.getElem_cons_zero, List.getElem_cons_succ, List.setIfInBounds_toArray, List.set_cons_zero, List.set_cons_succ]
  refine wpAnyH_take (i := 7) (v := .int .i64 (t : Int)) rfl (by kernel_rfl) (by kernel_rfl) (by kernel_rfl) (fun _ _ _ h => h) (Yields.yieldsIf (Or.inl ⟨by rfl, fun w => by go_simp⟩)) SZ.out ?_
  try simp only [Act.put, List.getElem_toArray, List.getElem_cons_zero, List.getElem_cons_succ, List.setIfInBounds_toArray, List.set_cons_zero, List.set_cons_succ]
  refine wpAnyH_take (i := 8) (v := .slice a3 (t - f) c3) rfl (by kernel_rfl) (by kernel_rfl) (by kernel_rfl) (fun _ _ _ h => h) (Yields.yieldsIf (Or.inl ⟨by rfl, fun w => by go_simp⟩)) SZ.out ?_
  try simp only [Act.put, List.getElem_toArray, List.getElem_cons_zero, List.getElem_cons_succ, List.setIfInBounds_toArray, List.set_cons_zero, List.set_cons_succ]
  refine wpAnyH_take (i := 9) (v := .func (.func 76) #[] #[]) rfl (by kernel_rfl) (by kernel_rfl) (by kernel_rfl) (fun _ _ _ h => h) (Or.inl ⟨by rfl, fun w9 h9 => by obtain ⟨h1, h2⟩ := h9; obtain ⟨c0, c1, c2, c3', c4, c5, c6, c7, c8⟩ := tsk_cells h1; have r0 : w9.cell? ⟨C, 0, none⟩ = some (.func (.func 76) #[] #[]) := h2.cell rfl; go_simp⟩) SZ.out ?_
  try simp only [Act.put, List.getElem_toArray, List.getElem_cons_zero, List.getElem_cons_succ, List.setIfInBounds_toArray, List.set_cons_zero, List.set_cons_succ]
  refine wpAnyH_take (i := 12) (v := .agg #[.slice ao n c, .int .i64 (k : Int), .int .i64 (f : Int), .int .i64 (t : Int), .bool L, .bool D, .int .i64 (a : Int), .int .i64 (b : Int), .int .i64 q]) rfl (by kernel_rfl) (by kernel_rfl) (by kernel_rfl) (fun _ _ _ h => h) (Or.inl ⟨by rfl, fun w9 h9 => by obtain ⟨h1, h2⟩ := h9; obtain ⟨c0, c1, c2, c3', c4, c5, c6, c7, c8⟩ := tsk_cells h1; have r0 : w9.cell? ⟨C, 0, none⟩ = some (.func (.func 76) #[] #[]) := h2.cell rfl; go_simp⟩) SZ.out ?_
  try simp only [Act.put, List.getElem_toArray, List.getElem_cons_zero, List.getElem_cons_succ, List.setIfInBounds_toArray, List.set_cons_zero, List.set_cons_succ]
  refine wpAnyH_all (rs := [10]) (by kernel_rfl) (by simp) (AllH.cons rfl (fun K hK => ?_) AllH.nil)
  go_simp
  refine (CE.out V4 B4.out).mono ?_
  rintro e w5 ⟨v5, rfl, hW5, hb5⟩
  obtain ⟨xp, xc, rfl⟩ := hW5.shape
  have S5 : Hid _ := And.intro (SZ.out.1.keep hb5) (SZ.out.2.keep hb5)
  have B5 := Hid.mk' (bT B4.out hb5)
  have W5 := Hid.mk' hW5
  have H5 := Hid.mk' hb5
  clear hb5 hW5 CE
  dsimp only
  refine hK _ _ ⟨S5.out, ?_⟩
  clear hK K
  try simp only [Act.put, List.getElem_toArray, List.getElem_cons_zero, List.getElem_cons_succ, List.setIfInBounds_toArray, List.set_cons_zero, List.set_cons_succ]
  refine wpAnyH_all (rs := [11]) (by kernel_rfl) (by simp) (AllH.cons rfl (fun K hK => ?_) AllH.nil)
  go_simp
  refine (CS.out V4 w5 xp X.length xc B5.out H5.out W5.out).mono ?_
  rintro e w6 ⟨v6, F, rfl, hFD, hE6, hb6⟩
  obtain ⟨eo, ec, rfl, -, -⟩ := hE6.edz
  obtain ⟨en, hen⟩ : ∃ en, F.length = en := ⟨_, rfl⟩
  rw [hen] at hE6 ⊢
  have HFD := Hid.mk' hFD
  have E6 := Hid.mk' hE6
  have S6 : Hid _ := And.intro (SZ.out.1.keep hb6) (SZ.out.2.keep hb6)
  have J6 := Hid.mk' (J4.out.keep hb6)
  have B6 := Hid.mk' (bT B4.out hb6)
  clear hen hFD hE6 hb6 CS S5 B5 W5 H5 SZ J4 B4
  dsimp only
  refine hK _ _ ⟨S6.out, ?_⟩
  clear hK K
  try simp only [Act.put, List.getElem_toArray, List.getElem_cons_zero, List.getElem_cons_succ, List.setIfInBounds_toArray, List.set_cons_zero, List.set_cons_succ]
  refine wpAnyH_all (rs := [13]) (by kernel_rfl) (by simp) (AllH.cons rfl (fun K hK => ?_) AllH.nil)
  go_simp
  refine (CH.out w6 B6.out).mono ?_
  rintro e w7 ⟨rfl, hb7⟩
  have S7 : Hid _ := And.intro (S6.out.1.keep hb7) (S6.out.2.keep hb7)
  have J7 := Hid.mk' (J6.out.keep hb7)
  have B7 := Hid.mk' (bT B6.out hb7)
  have E7 := Hid.mk' (E6.out.keep hb7)
  have HS7 := Hid.mk' hb7.size
  clear hb7 CH S6 J6 B6 E6
  dsimp only
  refine hK _ _ ⟨S7.out, ?_⟩
  clear hK K
  try simp only [Act.put, List.getElem_toArray, List.getElem_cons_zero, List.getElem_cons_succ, List.setIfInBounds_toArray, List.set_cons_zero, List.set_cons_succ]
  refine wpAnyH_take (i := 14) (v := .agg #[.slice eo en ec, .int .i64 hm, .bool false, .bool false, .slice none 0 0, .int .i64 0, .bool false]) rfl (by kernel_rfl) (by kernel_rfl) (by kernel_rfl) (fun _ _ _ h => h) (Yields.yieldsIf (Or.inl ⟨by rfl, fun w => by go_simp⟩)) S7.out ?_
  try simp only [Act.put, List.getElem_toArray, List.getElem_cons_zero, List.getElem_cons_succ, List.setIfInBounds_toArray, List.set_cons_zero, List.set_cons_succ]
  refine wpAnyH_all (rs := [15]) (by kernel_rfl) (by simp) (AllH.cons rfl (fun K hK => ?_) AllH.nil)
  obtain ⟨e0, e1, e2, e3, e4, e5, e6⟩ := ef_cells J7.out
  obtain ⟨f0, f1, f2, f3, f4, f5, f6⟩ := ef_frozen J7.out
  have hbk := ef_store J7.out (.slice eo en ec) (.int .i64 hm) (.bool false) (.bool false) (.slice none 0 0) (.int .i64 0) (.bool false)
  have hgr := ef_grown w7 (B + 1) (.slice eo en ec) (.int .i64 hm) (.bool false) (.bool false) (.slice none 0 0) (.int .i64 0) (.bool false)
  have ho1 := ef_off (B := B + 1) S7.out.1 (Nat.ne_of_lt (Nat.lt_succ_self B)) (.slice eo en ec) (.int .i64 hm) (.bool false) (.bool false) (.slice none 0 0) (.int .i64 0) (.bool false)
  have ho2 := ef_off (B := B + 1) S7.out.2 HCB.out (.slice eo en ec) (.int .i64 hm) (.bool false) (.bool false) (.slice none 0 0) (.int .i64 0) (.bool false)
  go_simp
  generalize (((((((w7.setCell ⟨B + 1, 0, none⟩ (.slice eo en ec)).setCell ⟨B + 1, 1, none⟩ (.int .i64 hm)).setCell ⟨B + 1, 2, none⟩ (.bool false)).setCell ⟨B + 1, 3, none⟩ (.bool false)).setCell ⟨B + 1, 4, none⟩ (.slice none 0 0)).setCell ⟨B + 1, 5, none⟩ (.int .i64 0)).setCell ⟨B + 1, 6, none⟩ (.bool false)) = w8 at *
  have S8 : Hid _ := And.intro ho1 ho2
  have J8 := Hid.mk' hbk
  have G8 := Hid.mk' hgr
  clear hbk hgr ho1 ho2 e0 e1 e2 e3 e4 e5 e6 f0 f1 f2 f3 f4 f5 f6
  refine hK _ _ ⟨S8.out, ?_⟩
  clear hK K
  try simp only [Act.put, List.getElem_toArray, List.getElem_cons_zero, List.getElem_cons_succ, List.setIfInBounds_toArray, List.set_cons_zero, List.set_cons_succ]
  refine wpAnyH_take (i := 16) (v := .int .i64 0) rfl (by kernel_rfl) (by kernel_rfl) (by kernel_rfl) (fun _ _ _ h => h) (Yields.yieldsIf (Or.inl ⟨by rfl, fun w => by go_simp⟩)) S8.out ?_
  try simp only [Act.put, List.getElem_toArray, List.getElem_cons_zero, List.getElem_cons_succ, List.setIfInBounds_toArray, List.set_cons_zero, List.set_cons_succ]
  refine wpAnyH_done (by kernel_rfl) ?_ _
  go_wp2_with fail
  obtain ⟨g0, g1, g2, g3, g4, g5, g6⟩ := ef_cells J8.out
  refine bodyPost_ret (v := .tuple #[.agg #[.slice eo en ec, .int .i64 hm, .bool false, .bool false, .slice none 0 0, .int .i64 0, .bool false], .int .i64 0]) (by simp [results, Tryz.results106, go_sem, g0, g1, g2, g3, g4, g5, g6]) rfl ⟨.slice eo en ec, F, .slice none 0 0, rfl, HFD.out, ?_, ?_⟩
  · exact Efm.bare ((E7.out.grown G8.out (.inl (Nat.lt_of_lt_of_le J1s.out HV4.out))).wide (Nat.le_trans HW1.out HV4.out) (Nat.le_trans HS7.out G8.out.size))
  · exact (bT L1.out B7.out).grown G8.out (bT L1.out B7.out).size (fun g hg => by injection hg with hg; rw [← hg, HB.out]; exact Nat.le_succ B)
end Go.Proofs.YtppefcnopkmhbaaGreatDoor
