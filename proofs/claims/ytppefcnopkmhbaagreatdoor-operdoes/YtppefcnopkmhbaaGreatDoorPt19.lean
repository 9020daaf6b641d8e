/- Shf -/
import Derived.Test.YtppefcnopkmhbaaGreatDoorPt18
namespace Go.Proofs.YtppefcnopkmhbaaGreatDoor
open Go.RowKit

set_option maxRecDepth 8000
theorem crp_nine (W : World) (a' : Option Addr) (c' k : Nat) (hk : k ≤ 9999) (h : Tx W a' 1 c' [9]) : Calls Tryz.prog 48 #[.slice a' 1 c', .int .i64 (k : Int)] W fun e w' => WbP (rp [9] k) W e w' := by
  have h1 : 1 ≤ 65536 := by omega
  have h2 : 1 * k ≤ 65536 := by omega
  exact repeat_any a' 1 c' k [9] W h h1 hk h2
theorem fbh_call {ao : Option Addr} {n c a en : Nat} {l : List UInt8} {W : World} {eo : Option Addr} {ec : Nat} {E : List Er} {DD : List Ed} (HT : Tx W ao n c l) (hbig : n ≤ 1048576) (ha : a ≤ n + 1) (hen : E.length = en) (he : en ≤ 1048577) (hE : Edz W eo E) (hD : E.map Er.d = DD) (hs : nsum DD ≤ 1073741824) :
    Calls Tryz.prog 84 #[.slice ao n c, .slice eo en ec, .int .i64 (a : Int)] W fun e w' => e = .returned (.int .i64 (fbh l DD a)) ∧ Below W.heap.size W w' :=
  firstBehind_any ao n c l eo en ec a E W HT (by omega) hE hen (by omega) hD (mod_n (by have := HT.len; omega)) (by omega)
/-- the edits of shift, line by line; none: too long -/
def shf (hd : List UInt8 → Nat × Nat) (l : List UInt8) : Nat → Nat → Int → Option (List Ed)
  | 0, _, _ => some []
  | m + 1, i, g =>
    if 65536 < g + ((hd (ln l i)).2 : Int) then none
    else (shf hd l m (i + 1) (g + (((hd (ln l i)).2 : Int) - ((hd (ln l i)).1 : Int)))).map fun D =>
      (if 0 < (hd (ln l i)).1 + (hd (ln l i)).2 then [⟨(sp l i : Int) + g, (ln l i).take (hd (ln l i)).1, rp [9] (hd (ln l i)).2⟩] else []) ++ D
/-- what shift answers -/
def ShQ (l : List UInt8) (o : Option (List Ed)) (a : Nat) (w : World) (e : Ending) (w' : World) : Prop := match o with
  | none => EfQ ef0 1 w e w'
  | some D => EfQ ⟨D, fbh l (D.take 1) a, false, false, [], 0, false⟩ 0 w e w'
theorem hdI_le (k : Nat) (p : List UInt8) (hk : k ≤ 9999) : (hdI k p).1 ≤ p.length ∧ (hdI k p).2 ≤ 9999 := by
  unfold hdI
  split
  · exact ⟨Nat.zero_le _, Nat.zero_le _⟩
  · exact ⟨Nat.zero_le _, hk⟩
theorem hdO_le (k : Nat) (p : List UInt8) (_hk : k ≤ 9999) : (hdO k p).1 ≤ p.length ∧ (hdO k p).2 ≤ 9999 := ⟨(mgn_le p k 0 (Nat.zero_le _)).2, Nat.zero_le _⟩
set_option maxHeartbeats 8000000 in
set_option linter.unusedSimpArgs false in
theorem shift_in (ao : Option Addr) (n c k a b q C : Nat) (fF tT : Int) (L D : Bool) (l : List UInt8) (w : World) (HT : Hid (Tx w ao n c l)) (hbig : n ≤ 1048576) (hab : a ≤ b) (hbn : b ≤ nl l) (hq : q ≤ 9999) (HC : Hid (Blk w C 90 (tskC (.slice ao n c) (k : Int) fF tT L D (a : Int) (b : Int) (q : Int)))) :
    Calls Tryz.prog 102 #[tsk (.slice ao n c) (k : Int) fF tT L D (a : Int) (b : Int) (q : Int), .func (.func 103) #[] #[.pointer (some ⟨C, 0, none⟩)]] w fun e w' => ShQ l (shf (hdI q) l (b + 1 - a) a 0) a w e w' := by
  show Calls Tryz.prog 102 #[.agg #[.slice ao n c, .int .i64 (k : Int), .int .i64 fF, .int .i64 tT, .bool L, .bool D, .int .i64 (a : Int), .int .i64 (b : Int), .int .i64 (q : Int)], .func (.func 103) #[] #[.pointer (some ⟨C, 0, none⟩)]] w _
  obtain ⟨W1, hW1⟩ : ∃ x, (w.alloc (.cells #[.slice ao n c, .int .i64 (k : Int), .int .i64 fF, .int .i64 tT, .bool L, .bool D, .int .i64 (a : Int), .int .i64 (b : Int), .int .i64 (q : Int)] 90)).alloc (.cells #[.slice none 0 0, .int .i64 0, .bool false, .bool false, .slice none 0 0, .int .i64 0, .bool false] 35) = x := ⟨_, rfl⟩
  have T1 : Hid (Two w W1 (.slice ao n c) (k : Int) fF tT L D (a : Int) (b : Int) (q : Int)) := by unfold Hid; rw [← hW1]; exact Two.new w _ _ _ _ _ _ _ _ _
  have hln := HT.out.len
  have hnl := nl_le l
  have HLN := Hid.mk' hln
  have HAB := Hid.mk' hab
  have HBN := Hid.mk' hbn
  have HT1 := Hid.mk' (HT.out.keep T1.out.bel)
  have HC1 := Hid.mk' (HC.out.keep T1.out.bel)
  have CST : Hid (∀ W, Below W1.heap.size W1 W → Calls Tryz.prog 82 #[.slice ao n c, .int .i64 (a : Int)] W fun e w' => e = .returned (.tuple #[.int .i64 (sp l a : Int), .int .i64 0]) ∧ w' = W) := fun W hW => by
    have h := start_any ao n c (a : Int) l W (by omega) (HT1.out.keep hW)
    have e : aStart l (a : Int) = ((sp l a : Int), 0) := by
      unfold aStart ans lnB
      rw [decide_eq_true (show (0 : Int) ≤ (a : Int) ∧ (a : Int) ≤ (nl l : Int) by omega), if_pos rfl]
      rfl
    rw [e] at h
    unfold pr at h
    exact h
  have CO : Hid (∀ (W : World) (i : Nat), i ≤ n → Below W1.heap.size W1 W → Calls Tryz.prog 88 #[.slice ao n c, .int .i64 (i : Int)] W fun e w' => e = .returned (.int .i64 (ow l i : Int)) ∧ w' = W) := fun W i hi hW => onward_any ao n c i l W hi (HT1.out.keep hW)
  have CHD : Hid (∀ (W : World) (a' : Option Addr) (n' c' : Nat) (p : List UInt8), Below W1.heap.size W1 W → Tx W a' n' c' p → Calls Tryz.prog 103 #[.slice a' n' c', .pointer (some ⟨C, 0, none⟩)] W fun e w' => e = .returned (hdV (hdI q p)) ∧ Below W.heap.size W w') := fun W a' n' c' p hW hp => ind1_any a' n' c' C p W hp (.slice ao n c) (k : Int) fF tT L D (a : Int) (b : Int) q  (HC1.out.keep hW)
  have CCL : Hid (∀ (W : World) (a' : Option Addr) (n' c' : Nat) (p : List UInt8), n' ≤ 140737488355328 → Tx W a' n' c' p → Calls Tryz.prog 46 #[.slice a' n' c'] W fun e w' => WbP p W e w') := fun W a' n' c' p h1 h2 => cloneW_any a' n' c' p W h1 h2
  have CRP : Hid (∀ (W : World) (a' : Option Addr) (c' k : Nat), k ≤ 9999 → Tx W a' 1 c' [9] → Calls Tryz.prog 48 #[.slice a' 1 c', .int .i64 (k : Int)] W fun e w' => WbP (rp [9] k) W e w') := fun W a' c' k hk h => crp_nine W a' c' k hk h
  have CF : Hid (∀ (W : World) (eo : Option Addr) (ec : Nat) (E : List Er) (DD : List Ed) (en : Nat), E.length = en → en ≤ 1 → Below W1.heap.size W1 W → Edz W eo E → E.map Er.d = DD → nsum DD ≤ 9999 → Calls Tryz.prog 84 #[.slice ao n c, .slice eo en ec, .int .i64 (a : Int)] W fun e w' => e = .returned (.int .i64 (fbh l DD a)) ∧ Below W.heap.size W w') := fun W eo ec E DD en hen he1 hW hE hD hs => fbh_call (HT1.out.keep hW) hbig (by omega) hen (by omega) hE hD (by omega)
  have HHD : Hid (∀ p : List UInt8, (hdI q p).1 ≤ p.length ∧ (hdI q p).2 ≤ 9999) := fun p => hdI_le q p hq
  obtain ⟨B, hB⟩ : ∃ b, w.heap.size = b := ⟨_, rfl⟩
  have HB := Hid.mk' hB
  have K1 : Hid (Blk W1 B 90 (tskC (.slice ao n c) (k : Int) fF tT L D (a : Int) (b : Int) (q : Int))) := by unfold Hid; rw [← hB]; exact T1.out.tk
  have J1 : Hid (Blk W1 (B + 1) 35 (ef7 (.slice none 0 0) 0 false false (.slice none 0 0) 0 false)) := by unfold Hid; rw [← hB]; exact T1.out.ef
  have L1 := Hid.mk' T1.out.bel
  have HS1 : Hid (W1.heap.size = B + 2) := by unfold Hid; rw [← hW1, World.size_alloc, World.size_alloc, hB]
  obtain ⟨c0, c1, c2, c3, c4, c5, c6, c7, c8⟩ := tsk_cells K1.out
  have hw0 : IntKind.i64.wrap ((b : Int) - (a : Int)) = ((b - a : Nat) : Int) := by rw [IntKind.wrap_i64]; omega
  have hw1 : IntKind.i64.wrap (((b - a : Nat) : Int) + 1) = ((b + 1 - a : Nat) : Int) := by rw [IntKind.wrap_i64]; omega
  clear T1 HT HC HC1 hln hnl
  obtain ⟨hd, hhd⟩ : ∃ hd, hdI q = hd := ⟨_, rfl⟩
  rw [hhd] at CHD HHD ⊢
  clear hhd
  obtain ⟨oo, hoo⟩ : ∃ oo, shf hd l (b + 1 - a) a 0 = oo := ⟨_, rfl⟩
  have HOO := Hid.mk' hoo
  rw [hoo]
  clear hoo
  go_enter Tryz.func102, Tryz.ntmps102
  go_upto_region 3 with fail
  clear hW1 hB
  go_wp2_with fail
  refine (CST.out W1 (Below.refl _ _)).mono ?_
  rintro e w2 ⟨rfl, hw2⟩
  have hq := hw2.symm
  subst hq
  clear hw2
  have hb2 := Below.refl W1.heap.size W1
  have B2 := Hid.mk' hb2
  have K2 := Hid.mk' (K1.out.keep hb2)
  have J2 := Hid.mk' (J1.out.keep hb2)
  clear hb2 CST K1 J1 c0 c1 c2 c3 c4 c5 c6 c7 c8
  obtain ⟨c0, c1, c2, c3, c4, c5, c6, c7, c8⟩ := tsk_cells K2.out
  dsimp only
  go_wp2_with fail
  clear c0 c1 c2 c3 c4 c5 c6 c7 c8
  obtain ⟨gg, hgg⟩ : ∃ g, b + 1 - a = g := ⟨_, rfl⟩
  rw [hgg] at HOO ⊢
  have HG := Hid.mk' hgg
  clear hgg
  go_loopg [6, 7, 8, 10, 11, 12, 27] gg (fun m x6 x7 x8 x10 x11 x12 x27 wx => ∃ (i : Nat) (g : Int) (s : Nat) (F : List Er) (DD : List Ed) (v6 : Value), x6 = v6 ∧ x7 = .int .i64 g ∧ x8 = .int .i64 (s : Int) ∧ x27 = .int .i64 ((i : Nat) : Int) ∧ i + m = gg ∧ Hid (0 < m → s = sp l (a + i)) ∧ s ≤ n + 1 ∧ g ≤ 65536 ∧ 0 ≤ g + (s : Int) ∧ Hid (F.map Er.d = DD) ∧ F.length ≤ i ∧ Hid (nsum (DD.take 1) ≤ 9999) ∧ Hid (oo = (shf hd l m (a + i) g).map (DD ++ ·)) ∧ Hid (Eds wx (B + 2) wx.heap.size v6 F) ∧ Hid (Blk wx B 90 (tskC (.slice ao n c) (k : Int) fF tT L D (a : Int) (b : Int) (q : Int))) ∧ Hid (Blk wx (B + 1) 35 (ef7 (.slice none 0 0) 0 false false (.slice none 0 0) 0 false)) ∧ Hid (Below W1.heap.size W1 wx))
  case atStart => exact ⟨0, 0, sp l a, [], [], _, rfl, rfl, rfl, rfl, by omega, fun _ => rfl, by have := sp_le (t := l) (n := a) (by have := HAB.out; have := HBN.out; omega); have := HLN.out; omega, by omega, by omega, rfl, Nat.le_refl _, by simp [Hid, nsum], by unfold Hid; rw [← HOO.out]; cases shf hd l gg (a + 0) 0 <;> simp_all, Eds.nil _ _ _, K2.out, J2.out, B2.out⟩
  case round =>
    clear B2 K2 J2 HOO
    obtain ⟨i, g, s, F, DD, v6, rfl, rfl, rfl, rfl, him, HSP, hsn, hg1, hg2, HFD, hFi, HNS, HSH, KE, KK, KJ, KB⟩ := hrel
    have hgn : gg ≤ n + 1 := by have := HG.out; have := HLN.out; have := HBN.out; have := nl_le l; omega
    by_cases hgk : gk = 0
    · subst hgk
      have hik : ¬ ((i : Int) < (gg : Int)) := by omega
      obtain rfl : oo = some DD := by have := HSH.out; simpa [shf] using this
      clear HSH HSP
      obtain ⟨hm, hhm⟩ : ∃ x, fbh l (DD.take 1) a = x := ⟨_, rfl⟩
      have HHM := Hid.mk' hhm
      clear hhm
      obtain ⟨eo, en, ec, rfl, hen, hZ, hsl⟩ := so_he KE.out (z := (min 1 F.length : Nat)) (k := min 1 F.length) (Nat.min_le_right _ _) rfl
      have HEN := Hid.mk' hen.symm
      obtain ⟨mn, hmn⟩ : ∃ m, min 1 en = m := ⟨_, rfl⟩
      rw [← hen, hmn] at hsl
      have hmn1 : mn ≤ 1 := by omega
      have hmi : (if (en : Int) < 1 then (en : Int) else 1) = (mn : Int) := by split <;> omega
      have HZ4 : Hid (Edz wr.drew eo F) := hZ.keep (Below.refl _ _).drew
      have J4 : Hid (Blk wr.drew (B + 1) 35 (ef7 (.slice none 0 0) 0 false false (.slice none 0 0) 0 false)) := KJ.out
      have SZ : Hid (Blk wr.drew B 90 (tskC (.slice ao n c) (k : Int) fF tT L D (a : Int) (b : Int) (q : Int))) := KK.out
      have B4 : Hid (Below W1.heap.size W1 wr.drew) := KB.out.drew
      have E4 : Hid (Eds wr.drew (B + 2) wr.drew.heap.size (.slice eo en ec) F) := (KE.out.keep (Below.refl _ _).drew)
      clear KK KJ KB KE hZ hen CO CHD CCL CRP HHD hg1 hg2 hsn hFi him
      go_upto_region 15 with fail
      refine wp_region_held (S := fun w' => Blk w' B 90 (tskC (.slice ao n c) (k : Int) fF tT L D (a : Int) (b : Int) (q : Int))) (by kernel_rfl) ?_
      change wpAnyH _ _ _ _ _ _ _ _ (World.drew _)
      generalize wr.drew = V4 at *
      refine wpAnyH_take (i := 0) (v := .slice eo en ec) rfl (by kernel_rfl) (by kernel_rfl) (by kernel_rfl) (fun _ _ _ h => h) (Yields.yieldsIf (Or.inl ⟨by rfl, fun w => by go_simp⟩)) SZ.out ?_
      try simp only [Act.put, List.getElem_toArray, List.getElem_cons_zero, List.getElem_cons_succ, List.setIfInBounds_toArray, List.set_cons_zero, List.set_cons_succ]
      refine wpAnyH_take (i := 1) (v := .pointer (some ⟨B, 0, none⟩)) rfl (by kernel_rfl) (by kernel_rfl) (by kernel_rfl) (fun _ _ _ h => h) (Yields.yieldsIf (Or.inl ⟨by rfl, fun w => by go_simp⟩)) SZ.out ?_
      try simp only [Act.put, List.getElem_toArray, List.getElem_cons_zero, List.getElem_cons_succ, List.setIfInBounds_toArray, List.set_cons_zero, List.set_cons_succ]
      refine wpAnyH_take (i := 2) (v := .slice ao n c) rfl (by kernel_rfl) (by kernel_rfl) (by kernel_rfl) (fun _ _ _ h => h) (Or.inl ⟨by rfl, fun w9 h9 => by obtain ⟨c0, c1, c2, c3, c4, c5, c6, c7, c8⟩ := tsk_cells h9; go_simp⟩) SZ.out ?_
      try simp only [Act.put, List.getElem_toArray, List.getElem_cons_zero, List.getElem_cons_succ, List.setIfInBounds_toArray, List.set_cons_zero, List.set_cons_succ]
      refine wpAnyH_take (i := 3) (v := .slice eo en ec) rfl (by kernel_rfl) (by kernel_rfl) (by kernel_rfl) (fun _ _ _ h => h) (Yields.yieldsIf (Or.inl ⟨by rfl, fun w => by go_simp⟩)) SZ.out ?_
      try simp only [Act.put, List.getElem_toArray, List.getElem_cons_zero, List.getElem_cons_succ, List.setIfInBounds_toArray, List.set_cons_zero, List.set_cons_succ]
      refine wpAnyH_take (i := 4) (v := .slice eo en ec) rfl (by kernel_rfl) (by kernel_rfl) (by kernel_rfl) (fun _ _ _ h => h) (Yields.yieldsIf (Or.inl ⟨by rfl, fun w => by go_simp⟩)) SZ.out ?_
      try simp only [Act.put, List.getElem_toArray, List.getElem_cons_zero, List.getElem_cons_succ, List.setIfInBounds_toArray, List.set_cons_zero, List.set_cons_succ]
      refine wpAnyH_take (i := 5) (v := .int .i64 ((en : Nat) : Int)) rfl (by kernel_rfl) (by kernel_rfl) (by kernel_rfl) (fun _ _ _ h => h) (Yields.yieldsIf (Or.inl ⟨by rfl, fun w => by go_simp⟩)) SZ.out ?_
      try simp only [Act.put, List.getElem_toArray, List.getElem_cons_zero, List.getElem_cons_succ, List.setIfInBounds_toArray, List.set_cons_zero, List.set_cons_succ]
      refine wpAnyH_take (i := 6) (v := .int .i64 (mn : Int)) rfl (by kernel_rfl) (by kernel_rfl) (by kernel_rfl) (fun _ _ _ h => h) (Yields.yieldsIf (Or.inl ⟨by rfl, fun w => by go_simp; omega⟩)) SZ.out ?_
      try simp only [Act.put, List.getElem_toArray, List.getElem_cons_zero, List.getElem_cons_succ, List.setIfInBounds_toArray, List.set_cons_zero, List.set_cons_succ]
      refine wpAnyH_take (i := 7) (v := .slice eo mn ec) rfl (by kernel_rfl) (by kernel_rfl) (by kernel_rfl) (fun _ _ _ h => h) (Yields.yieldsIf (Or.inl ⟨by rfl, fun w => by go_simp⟩)) SZ.out ?_
      try simp only [Act.put, List.getElem_toArray, List.getElem_cons_zero, List.getElem_cons_succ, List.setIfInBounds_toArray, List.set_cons_zero, List.set_cons_succ]
      refine wpAnyH_take (i := 8) (v := .pointer (some ⟨B, 6, none⟩)) rfl (by kernel_rfl) (by kernel_rfl) (by kernel_rfl) (fun _ _ _ h => h) (Yields.yieldsIf (Or.inl ⟨by rfl, fun w => by go_simp⟩)) SZ.out ?_
      try simp only [Act.put, List.getElem_toArray, List.getElem_cons_zero, List.getElem_cons_succ, List.setIfInBounds_toArray, List.set_cons_zero, List.set_cons_succ]
      refine wpAnyH_take (i := 9) (v := .int .i64 (a : Int)) rfl (by kernel_rfl) (by kernel_rfl) (by kernel_rfl) (fun _ _ _ h => h) (Or.inl ⟨by rfl, fun w9 h9 => by obtain ⟨c0, c1, c2, c3, c4, c5, c6, c7, c8⟩ := tsk_cells h9; go_simp⟩) SZ.out ?_
      try simp only [Act.put, List.getElem_toArray, List.getElem_cons_zero, List.getElem_cons_succ, List.setIfInBounds_toArray, List.set_cons_zero, List.set_cons_succ]
      refine wpAnyH_all (rs := [10]) (by kernel_rfl) (by simp) (AllH.cons rfl (fun K hK => ?_) AllH.nil)
      go_simp
      refine (CF.out V4 eo ec (F.take 1) (DD.take 1) mn (by rw [List.length_take, HEN.out]; exact hmn) hmn1 B4.out (HZ4.out.take 1) (by rw [List.map_take, HFD.out]) HNS.out).mono ?_
      rintro e w5 ⟨rfl, hb5⟩
      have S5 : Hid (Blk w5 B 90 (tskC (.slice ao n c) (k : Int) fF tT L D (a : Int) (b : Int) (q : Int))) := SZ.out.keep hb5
      have J5 := Hid.mk' (J4.out.keep hb5)
      have E5 := Hid.mk' ((E4.out.keep hb5).wide (Nat.le_refl _) hb5.size)
      have B5 := Hid.mk' (bT B4.out hb5)
      clear hb5 CF SZ J4 E4 B4
      rw [HHM.out]
      dsimp only
      refine hK _ _ ⟨S5.out, ?_⟩
      clear hK K
      try simp only [Act.put, List.getElem_toArray, List.getElem_cons_zero, List.getElem_cons_succ, List.setIfInBounds_toArray, List.set_cons_zero, List.set_cons_succ]
      refine wpAnyH_take (i := 11) (v := .agg #[.slice eo en ec, .int .i64 hm, .bool false, .bool false, .slice none 0 0, .int .i64 0, .bool false]) rfl (by kernel_rfl) (by kernel_rfl) (by kernel_rfl) (fun _ _ _ h => h) (Yields.yieldsIf (Or.inl ⟨by rfl, fun w => by go_simp⟩)) S5.out ?_
      try simp only [Act.put, List.getElem_toArray, List.getElem_cons_zero, List.getElem_cons_succ, List.setIfInBounds_toArray, List.set_cons_zero, List.set_cons_succ]
      refine wpAnyH_all (rs := [12]) (by kernel_rfl) (by simp) (AllH.cons rfl (fun K hK => ?_) AllH.nil)
      obtain ⟨e0, e1, e2, e3, e4, e5, e6⟩ := ef_cells J5.out
      obtain ⟨f0, f1, f2, f3, f4, f5, f6⟩ := ef_frozen J5.out
      have hbk := ef_store J5.out (.slice eo en ec) (.int .i64 hm) (.bool false) (.bool false) (.slice none 0 0) (.int .i64 0) (.bool false)
      have hgr := ef_grown w5 (B + 1) (.slice eo en ec) (.int .i64 hm) (.bool false) (.bool false) (.slice none 0 0) (.int .i64 0) (.bool false)
      have ho1 := ef_off (B := B + 1) S5.out (Nat.ne_of_lt (Nat.lt_succ_self B)) (.slice eo en ec) (.int .i64 hm) (.bool false) (.bool false) (.slice none 0 0) (.int .i64 0) (.bool false)
      go_simp
      generalize (((((((w5.setCell ⟨B + 1, 0, none⟩ (.slice eo en ec)).setCell ⟨B + 1, 1, none⟩ (.int .i64 hm)).setCell ⟨B + 1, 2, none⟩ (.bool false)).setCell ⟨B + 1, 3, none⟩ (.bool false)).setCell ⟨B + 1, 4, none⟩ (.slice none 0 0)).setCell ⟨B + 1, 5, none⟩ (.int .i64 0)).setCell ⟨B + 1, 6, none⟩ (.bool false)) = w6 at *
      have S6 := Hid.mk' ho1
      have J6 := Hid.mk' hbk
      have G6 := Hid.mk' hgr
      clear hbk hgr ho1 e0 e1 e2 e3 e4 e5 e6 f0 f1 f2 f3 f4 f5 f6
      refine hK _ _ ⟨S6.out, ?_⟩
      clear hK K
      try simp only [Act.put, List.getElem_toArray, List.getElem_cons_zero, List.getElem_cons_succ, List.setIfInBounds_toArray, List.set_cons_zero, List.set_cons_succ]
      refine wpAnyH_take (i := 13) (v := .int .i64 0) rfl (by kernel_rfl) (by kernel_rfl) (by kernel_rfl) (fun _ _ _ h => h) (Yields.yieldsIf (Or.inl ⟨by rfl, fun w => by go_simp⟩)) S6.out ?_
      try simp only [Act.put, List.getElem_toArray, List.getElem_cons_zero, List.getElem_cons_succ, List.setIfInBounds_toArray, List.set_cons_zero, List.set_cons_succ]
      refine wpAnyH_done (by kernel_rfl) ?_ _
      go_wp2_with fail
      obtain rfl := HHM.out
      obtain ⟨g0, g1, g2, g3, g4, g5, g6⟩ := ef_cells J6.out
      refine bodyPost_ret (v := .tuple #[.agg #[.slice eo en ec, .int .i64 (fbh l (DD.take 1) a), .bool false, .bool false, .slice none 0 0, .int .i64 0, .bool false], .int .i64 0]) (by simp [results, Tryz.results102, go_sem, g0, g1, g2, g3, g4, g5, g6]) rfl ⟨.slice eo en ec, F, .slice none 0 0, rfl, HFD.out, ?_, ?_⟩
      · exact Efm.bare (((E5.out.grown G6.out (.inl (Nat.lt_succ_self _))).wide (by have := HB.out; omega) G6.out.size))
      · exact (bT L1.out B5.out).grown G6.out (bT L1.out B5.out).size (fun g hg => by injection hg with hg; have := HB.out; omega)
    · obtain ⟨go, hgo⟩ : ∃ g, gk = g + 1 := ⟨gk - 1, by omega⟩
      subst hgo
      have hik : (i : Int) < (gg : Int) := by omega
      obtain rfl := HSP.out (Nat.succ_pos _)
      have hil : a + i ≤ nl l := by have := HG.out; have := HBN.out; omega
      have hsl := sp_le (t := l) hil
      have hel := en_le hsl
      have hge := en_ge l (sp l (a + i))
      have HNX : Hid (0 < go → en l (sp l (a + i)) + 1 = sp l (a + (i + 1))) := fun hgo => by
        have := HG.out; have := HBN.out
        exact (sp_next (by omega)).2.symm
      have hen := ow_en l (sp l (a + i))
      rw [HLN.out] at hsl hel
      have C1 := Hid.mk' (CO.out wr (sp l (a + i)) hsl KB.out)
      obtain ⟨a3, c3, hs3, hT3⟩ := sl_lh' (HT1.out.keep KB.out) hge hel
      have C2 := Hid.mk' (CHD.out wr a3 _ c3 _ KB.out hT3)
      have hHD := HHD.out (ln l (a + i))
      have hX : ∀ o, o ≤ en l (sp l (a + i)) - sp l (a + i) → sl l (sp l (a + i)) (sp l (a + i) + o) = (ln l (a + i)).take o := fun o ho => by
        unfold sl ln
        rw [List.take_take, Nat.add_sub_cancel_left, Nat.min_eq_left ho]
      have hpl : (ln l (a + i)).length = en l (sp l (a + i)) - sp l (a + i) := by
        unfold ln
        rw [List.length_take, List.length_drop, HLN.out]
        omega
      have HSH2 : Hid (oo = (shf hd l (go + 1) (a + i) g).map (DD ++ ·)) := HSH.out
      unfold shf at HSH2
      rw [show sl l (sp l (a + i)) (en l (sp l (a + i))) = ln l (a + i) from rfl] at C2
      unfold hdV at C2
      rw [hpl] at hHD
      obtain ⟨⟨o, ii⟩, hoi⟩ : ∃ x, hd (ln l (a + i)) = x := ⟨_, rfl⟩
      rw [hoi] at C2 HSH2 hHD
      dsimp only at C2 HSH2 hHD
      have hX2 := hX o hHD.1
      obtain ⟨a4, c4', hs4, hT4⟩ := sl_lh' (HT1.out) (Nat.le_add_right (sp l (a + i)) o) (by omega)
      rw [hX2, Nat.add_sub_cancel_left] at hT4
      rw [Nat.add_sub_cancel_left] at hs4
      have HT4 := Hid.mk' hT4
      have HXL : Hid (((ln l (a + i)).take o).length = o) := by unfold Hid; rw [List.length_take, hpl]; omega
      have HRL : Hid ((rp [9] ii).length = ii) := by unfold Hid; rw [rp_len]; simp
      generalize (ln l (a + i)).take o = X at *
      obtain ⟨Y, hY⟩ : ∃ Y, rp [9] ii = Y := ⟨_, rfl⟩
      clear hX hpl hoi HSH HSP hT3 hT4 hX2
      generalize ow l (sp l (a + i)) = oww at *
      generalize en l (sp l (a + i)) = ee at *
      generalize sp l (a + i) = s at *
      subst hen
      have hp0 : (0 : Int) ≤ (s : Int) := by omega
      have hp1 : (s : Int) ≤ (s : Int) + (oww : Int) := by omega
      have hp2 : (s : Int) + (oww : Int) ≤ (n : Int) := by omega
      have hp3 : (s : Int) ≤ (s : Int) + (o : Int) := by omega
      rw [Int.natCast_add] at hs3 hs4
      rw [Nat.add_sub_cancel_left] at hs3 C2
      have hw1 : IntKind.i64.wrap ((i : Int) + 1) = ((i + 1 : Nat) : Int) := by rw [IntKind.wrap_i64]; omega
      have hw2 : IntKind.i64.wrap ((s : Int) + (oww : Int)) = (s : Int) + (oww : Int) := by rw [IntKind.wrap_i64]; omega
      have hw3 : IntKind.i64.wrap (g + (ii : Int)) = g + (ii : Int) := by rw [IntKind.wrap_i64]; omega
      have hw4 : IntKind.i64.wrap ((o : Int) + (ii : Int)) = (o : Int) + (ii : Int) := by rw [IntKind.wrap_i64]; omega
      have hw5 : IntKind.i64.wrap ((s : Int) + g) = (s : Int) + g := by rw [IntKind.wrap_i64]; omega
      have hw6 : IntKind.i64.wrap ((s : Int) + (o : Int)) = (s : Int) + (o : Int) := by rw [IntKind.wrap_i64]; omega
      have hw7 : IntKind.i64.wrap ((ii : Int) - (o : Int)) = (ii : Int) - (o : Int) := by rw [IntKind.wrap_i64]; omega
      have hw8 : IntKind.i64.wrap (g + ((ii : Int) - (o : Int))) = g + ((ii : Int) - (o : Int)) := by rw [IntKind.wrap_i64]; omega
      have hw9 : IntKind.i64.wrap ((s : Int) + (oww : Int) + 1) = (s : Int) + (oww : Int) + 1 := by rw [IntKind.wrap_i64]; omega
      obtain ⟨c0, c1, c2, c3', c4, c5, c6, c7, c8⟩ := tsk_cells KK.out
      by_cases hA : 65536 < g + (ii : Int)
      · rw [if_pos hA] at HSH2
        obtain rfl : oo = none := HSH2.out
        go_upto_region 9 with (first | (go_at_call 88; refine C1.out.mono ?_; rintro e w' ⟨rfl, hw⟩; have hq := hw.symm; subst hq; clear hw) | (go_at_call 103; refine C2.out.mono ?_; rintro e w3 ⟨rfl, hb3⟩; have B3 := Hid.mk' (bT KB.out hb3); have E3 := Hid.mk' ((KE.out.keep hb3).wide (Nat.le_refl _) hb3.size); have K3 := Hid.mk' (KK.out.keep hb3); have J3 := Hid.mk' (KJ.out.keep hb3); have S3 := Hid.mk' hb3.size; have KB2 := Hid.mk' KJ.out.lt; clear hb3 KE KK KJ KB c0 c1 c2 c3' c4 c5 c6 c7 c8; obtain ⟨c0, c1, c2, c3', c4, c5, c6, c7, c8⟩ := tsk_cells K3.out) | fail)
        obtain ⟨j0, j1, j2, j3, j4, j5, j6⟩ := ef_cells J3.out
        obtain ⟨f0, f1, f2, f3, f4, f5, f6⟩ := ef_frozen J3.out
        have hbk := ef_store J3.out (.slice none 0 0) (.int .i64 0) (.bool false) (.bool false) (.slice none 0 0) (.int .i64 0) (.bool false)
        have hgr := ef_grown w3 (B + 1) (.slice none 0 0) (.int .i64 0) (.bool false) (.bool false) (.slice none 0 0) (.int .i64 0) (.bool false)
        clear c0 c1 c2 c3' c4 c5 c6 c7 c8
        go_wp2_with fail
        generalize (((((((w3.setCell ⟨B + 1, 0, none⟩ (.slice none 0 0)).setCell ⟨B + 1, 1, none⟩ (.int .i64 0)).setCell ⟨B + 1, 2, none⟩ (.bool false)).setCell ⟨B + 1, 3, none⟩ (.bool false)).setCell ⟨B + 1, 4, none⟩ (.slice none 0 0)).setCell ⟨B + 1, 5, none⟩ (.int .i64 0)).setCell ⟨B + 1, 6, none⟩ (.bool false)) = w9 at *
        obtain ⟨g0, g1, g2, g3, g4, g5, g6⟩ := ef_cells hbk
        refine bodyPost_ret (v := .tuple #[efz, .int .i64 1]) (by simp [results, efz, Tryz.results102, go_sem, g0, g1, g2, g3, g4, g5, g6]) rfl (EfQ.no ?_)
        exact (bT L1.out B3.out).grown hgr (bT L1.out B3.out).size (fun g hg => by injection hg with hg; rw [← hg, HB.out]; exact Nat.le_succ B)
      · rw [if_neg hA] at HSH2
        have hE2 : oww + s + 0 = s + oww := by omega
        by_cases h0 : 0 < o + ii
        · have h0' : (0 : Int) < (o : Int) + (ii : Int) := by omega
          have CR2 : Hid (∀ (W : World) (a' : Option Addr) (c' : Nat), Tx W a' 1 c' [9] → Calls Tryz.prog 48 #[.slice a' 1 c', .int .i64 (ii : Int)] W fun e w' => WbP Y W e w') := fun W a' c' h => by rw [← hY]; exact CRP.out W a' c' ii hHD.2 h
          rw [if_pos h0] at HSH2
          rw [hY] at HSH2 HRL
          clear hY CRP CF
          go_upto_region 11 with (first | (go_at_call 88; refine C1.out.mono ?_; rintro e w' ⟨rfl, hw⟩; have hq := hw.symm; subst hq; clear hw) | (go_at_call 103; refine C2.out.mono ?_; rintro e w3 ⟨rfl, hb3⟩; have B3 := Hid.mk' (bT KB.out hb3); have E3 := Hid.mk' ((KE.out.keep hb3).wide (Nat.le_refl _) hb3.size); have K3 := Hid.mk' (KK.out.keep hb3); have J3 := Hid.mk' (KJ.out.keep hb3); have S3 := Hid.mk' hb3.size; have KB2 := Hid.mk' KJ.out.lt; clear hb3 KE KK KJ KB c0 c1 c2 c3' c4 c5 c6 c7 c8; obtain ⟨c0, c1, c2, c3', c4, c5, c6, c7, c8⟩ := tsk_cells K3.out) | fail)
          have CL := Hid.mk' (CCL.out w3 a4 o c4' X (by omega) (HT4.out.keep B3.out))
          clear CCL
          go_wp2_with (first | (go_at_call 46; refine CL.out.mono ?_; rintro e w4 ⟨v4, rfl, hW4, hb4⟩; obtain ⟨p4, d4, rfl⟩ := hW4.shape; have W4 := Hid.mk' hW4; have B4 := Hid.mk' hb4; clear hW4 hb4 c0 c1 c2 c3' c4 c5 c6 c7 c8 CL) | (go_at_call 48; refine (CR2.out (w4.alloc (.cells #[.int .u8 9] 5)) (some ⟨w4.heap.size, 0, none⟩) 1 (nine_tx (Blk.new w4 5 _))).mono ?_; rintro e w5 ⟨v5, rfl, hW5, hb5⟩; obtain ⟨p5, d5, rfl⟩ := hW5.shape; have W5 := Hid.mk' hW5; have B5 := Hid.mk' hb5; clear hW5 hb5) | (at_builtin; obtain ⟨v9, w9, hr9, hE9, hs9, hb9⟩ := ape_step (w3 := w3) (w6 := w5) (m := w4.heap.size) E3.out (by have := S3.out; have := KB2.out; omega) (bT B4.out (bT (bAlloc (Below.refl w4.heap.size w4) (.cells #[.int .u8 9] 5)) B5.out)) (W4.out.keep (bT (bAlloc (Below.refl w4.heap.size w4) (.cells #[.int .u8 9] 5)) B5.out)) (W5.out.wide (by rw [World.size_alloc]; omega) (Nat.le_refl _)) B4.out.size (by have := B5.out.size; rw [World.size_alloc] at this; omega) (by have := HXL.out; omega) (by have := HRL.out; omega) (by omega) ((s : Int) + g); refine wl_ape rfl _ _ rfl _ _ rfl rfl hr9 ?_; have R9 := Hid.mk' hr9; clear hr9) | fail)
          have K9 := Hid.mk' (K3.out.low (hb9 w3 (B + 2) (Nat.le_refl _) (Below.refl _ _)) (by omega))
          have J9 := Hid.mk' (J3.out.low (hb9 w3 (B + 2) (Nat.le_refl _) (Below.refl _ _)) (by omega))
          have L9 := Hid.mk' (hb9 W1 W1.heap.size (by have := HS1.out; omega) B3.out)
          clear hb9
          go_roundg go
          case measure => omega
          case rel =>
            refine ⟨i + 1, g + ((ii : Int) - (o : Int)), s + oww + 1, F ++ [⟨(s : Int) + g, p4, X.length, d4, X, p5, Y.length, d5, Y⟩], DD ++ [⟨(s : Int) + g, X, Y⟩], v9, rfl, by go_num, by go_num, by go_num, by omega, ?_, by omega, by omega, by have := HXL.out; omega, ?_, by rw [List.length_append]; simp; omega, ?_, ?_, Hid.mk' hE9, K9.out, J9.out, L9.out⟩
            · exact HNX.out
            · unfold Hid; rw [List.map_append, HFD.out]; rfl
            · unfold Hid
              cases DD with
              | nil => simp [nsum, HRL.out]; exact hHD.2
              | cons x t => simpa [nsum] using HNS.out
            · unfold Hid; rw [HSH2.out, Option.map_map]; congr 1; funext D; simp
        · have h0' : ¬ (0 : Int) < (o : Int) + (ii : Int) := by omega
          rw [if_neg h0] at HSH2
          clear CCL CRP CF hY
          go_wp2_with (first | (go_at_call 88; refine C1.out.mono ?_; rintro e w' ⟨rfl, hw⟩; have hq := hw.symm; subst hq; clear hw) | (go_at_call 103; refine C2.out.mono ?_; rintro e w3 ⟨rfl, hb3⟩; have B3 := Hid.mk' (bT KB.out hb3); have E3 := Hid.mk' ((KE.out.keep hb3).wide (Nat.le_refl _) hb3.size); have K3 := Hid.mk' (KK.out.keep hb3); have J3 := Hid.mk' (KJ.out.keep hb3); have S3 := Hid.mk' hb3.size; have KB2 := Hid.mk' KJ.out.lt; clear hb3 KE KK KJ KB c0 c1 c2 c3' c4 c5 c6 c7 c8; obtain ⟨c0, c1, c2, c3', c4, c5, c6, c7, c8⟩ := tsk_cells K3.out) | fail)
          go_roundg go
          case measure => omega
          case rel =>
            refine ⟨i + 1, g + ((ii : Int) - (o : Int)), s + oww + 1, F, DD, _, rfl, by go_num, by go_num, by go_num, by omega, ?_, by omega, by omega, by omega, HFD.out, by omega, HNS.out, ?_, E3.out, K3.out, J3.out, B3.out⟩
            · exact HNX.out
            · unfold Hid; rw [HSH2.out, Option.map_map]; (try congr 1); (try (funext D; simp))
set_option maxHeartbeats 8000000 in
set_option linter.unusedSimpArgs false in
theorem shift_out (ao : Option Addr) (n c k a b q C : Nat) (fF tT : Int) (L D : Bool) (l : List UInt8) (w : World) (HT : Hid (Tx w ao n c l)) (hbig : n ≤ 1048576) (hab : a ≤ b) (hbn : b ≤ nl l) (hq : q ≤ 9999) (HC : Hid (Blk w C 90 (tskC (.slice ao n c) (k : Int) fF tT L D (a : Int) (b : Int) (q : Int)))) :
    Calls Tryz.prog 102 #[tsk (.slice ao n c) (k : Int) fF tT L D (a : Int) (b : Int) (q : Int), .func (.func 104) #[] #[.pointer (some ⟨C, 0, none⟩)]] w fun e w' => ShQ l (shf (hdO q) l (b + 1 - a) a 0) a w e w' := by
  show Calls Tryz.prog 102 #[.agg #[.slice ao n c, .int .i64 (k : Int), .int .i64 fF, .int .i64 tT, .bool L, .bool D, .int .i64 (a : Int), .int .i64 (b : Int), .int .i64 (q : Int)], .func (.func 104) #[] #[.pointer (some ⟨C, 0, none⟩)]] w _
  obtain ⟨W1, hW1⟩ : ∃ x, (w.alloc (.cells #[.slice ao n c, .int .i64 (k : Int), .int .i64 fF, .int .i64 tT, .bool L, .bool D, .int .i64 (a : Int), .int .i64 (b : Int), .int .i64 (q : Int)] 90)).alloc (.cells #[.slice none 0 0, .int .i64 0, .bool false, .bool false, .slice none 0 0, .int .i64 0, .bool false] 35) = x := ⟨_, rfl⟩
  have T1 : Hid (Two w W1 (.slice ao n c) (k : Int) fF tT L D (a : Int) (b : Int) (q : Int)) := by unfold Hid; rw [← hW1]; exact Two.new w _ _ _ _ _ _ _ _ _
  have hln := HT.out.len
  have hnl := nl_le l
  have HLN := Hid.mk' hln
  have HAB := Hid.mk' hab
  have HBN := Hid.mk' hbn
  have HT1 := Hid.mk' (HT.out.keep T1.out.bel)
  have HC1 := Hid.mk' (HC.out.keep T1.out.bel)
  have CST : Hid (∀ W, Below W1.heap.size W1 W → Calls Tryz.prog 82 #[.slice ao n c, .int .i64 (a : Int)] W fun e w' => e = .returned (.tuple #[.int .i64 (sp l a : Int), .int .i64 0]) ∧ w' = W) := fun W hW => by
    have h := start_any ao n c (a : Int) l W (by omega) (HT1.out.keep hW)
    have e : aStart l (a : Int) = ((sp l a : Int), 0) := by
      unfold aStart ans lnB
      rw [decide_eq_true (show (0 : Int) ≤ (a : Int) ∧ (a : Int) ≤ (nl l : Int) by omega), if_pos rfl]
      rfl
    rw [e] at h
    unfold pr at h
    exact h
  have CO : Hid (∀ (W : World) (i : Nat), i ≤ n → Below W1.heap.size W1 W → Calls Tryz.prog 88 #[.slice ao n c, .int .i64 (i : Int)] W fun e w' => e = .returned (.int .i64 (ow l i : Int)) ∧ w' = W) := fun W i hi hW => onward_any ao n c i l W hi (HT1.out.keep hW)
  have CHD : Hid (∀ (W : World) (a' : Option Addr) (n' c' : Nat) (p : List UInt8), Below W1.heap.size W1 W → Tx W a' n' c' p → Calls Tryz.prog 104 #[.slice a' n' c', .pointer (some ⟨C, 0, none⟩)] W fun e w' => e = .returned (hdV (hdO q p)) ∧ Below W.heap.size W w') := fun W a' n' c' p hW hp => out1_any a' n' c' C p W hp (.slice ao n c) (k : Int) fF tT L D (a : Int) (b : Int) q hq (HC1.out.keep hW)
  have CCL : Hid (∀ (W : World) (a' : Option Addr) (n' c' : Nat) (p : List UInt8), n' ≤ 140737488355328 → Tx W a' n' c' p → Calls Tryz.prog 46 #[.slice a' n' c'] W fun e w' => WbP p W e w') := fun W a' n' c' p h1 h2 => cloneW_any a' n' c' p W h1 h2
  have CRP : Hid (∀ (W : World) (a' : Option Addr) (c' k : Nat), k ≤ 9999 → Tx W a' 1 c' [9] → Calls Tryz.prog 48 #[.slice a' 1 c', .int .i64 (k : Int)] W fun e w' => WbP (rp [9] k) W e w') := fun W a' c' k hk h => crp_nine W a' c' k hk h
  have CF : Hid (∀ (W : World) (eo : Option Addr) (ec : Nat) (E : List Er) (DD : List Ed) (en : Nat), E.length = en → en ≤ 1 → Below W1.heap.size W1 W → Edz W eo E → E.map Er.d = DD → nsum DD ≤ 9999 → Calls Tryz.prog 84 #[.slice ao n c, .slice eo en ec, .int .i64 (a : Int)] W fun e w' => e = .returned (.int .i64 (fbh l DD a)) ∧ Below W.heap.size W w') := fun W eo ec E DD en hen he1 hW hE hD hs => fbh_call (HT1.out.keep hW) hbig (by omega) hen (by omega) hE hD (by omega)
  have HHD : Hid (∀ p : List UInt8, (hdO q p).1 ≤ p.length ∧ (hdO q p).2 ≤ 9999) := fun p => hdO_le q p hq
  obtain ⟨B, hB⟩ : ∃ b, w.heap.size = b := ⟨_, rfl⟩
  have HB := Hid.mk' hB
  have K1 : Hid (Blk W1 B 90 (tskC (.slice ao n c) (k : Int) fF tT L D (a : Int) (b : Int) (q : Int))) := by unfold Hid; rw [← hB]; exact T1.out.tk
  have J1 : Hid (Blk W1 (B + 1) 35 (ef7 (.slice none 0 0) 0 false false (.slice none 0 0) 0 false)) := by unfold Hid; rw [← hB]; exact T1.out.ef
  have L1 := Hid.mk' T1.out.bel
  have HS1 : Hid (W1.heap.size = B + 2) := by unfold Hid; rw [← hW1, World.size_alloc, World.size_alloc, hB]
  obtain ⟨c0, c1, c2, c3, c4, c5, c6, c7, c8⟩ := tsk_cells K1.out
  have hw0 : IntKind.i64.wrap ((b : Int) - (a : Int)) = ((b - a : Nat) : Int) := by rw [IntKind.wrap_i64]; omega
  have hw1 : IntKind.i64.wrap (((b - a : Nat) : Int) + 1) = ((b + 1 - a : Nat) : Int) := by rw [IntKind.wrap_i64]; omega
  clear T1 HT HC HC1 hln hnl
  obtain ⟨hd, hhd⟩ : ∃ hd, hdO q = hd := ⟨_, rfl⟩
  rw [hhd] at CHD HHD ⊢
  clear hhd
  obtain ⟨oo, hoo⟩ : ∃ oo, shf hd l (b + 1 - a) a 0 = oo := ⟨_, rfl⟩
  have HOO := Hid.mk' hoo
  rw [hoo]
  clear hoo
  go_enter Tryz.func102, Tryz.ntmps102
  go_upto_region 3 with fail
  clear hW1 hB
  go_wp2_with fail
  refine (CST.out W1 (Below.refl _ _)).mono ?_
  rintro e w2 ⟨rfl, hw2⟩
  have hq := hw2.symm
  subst hq
  clear hw2
  have hb2 := Below.refl W1.heap.size W1
  have B2 := Hid.mk' hb2
  have K2 := Hid.mk' (K1.out.keep hb2)
  have J2 := Hid.mk' (J1.out.keep hb2)
  clear hb2 CST K1 J1 c0 c1 c2 c3 c4 c5 c6 c7 c8
  obtain ⟨c0, c1, c2, c3, c4, c5, c6, c7, c8⟩ := tsk_cells K2.out
  dsimp only
  go_wp2_with fail
  clear c0 c1 c2 c3 c4 c5 c6 c7 c8
  obtain ⟨gg, hgg⟩ : ∃ g, b + 1 - a = g := ⟨_, rfl⟩
  rw [hgg] at HOO ⊢
  have HG := Hid.mk' hgg
  clear hgg
  go_loopg [6, 7, 8, 10, 11, 12, 27] gg (fun m x6 x7 x8 x10 x11 x12 x27 wx => ∃ (i : Nat) (g : Int) (s : Nat) (F : List Er) (DD : List Ed) (v6 : Value), x6 = v6 ∧ x7 = .int .i64 g ∧ x8 = .int .i64 (s : Int) ∧ x27 = .int .i64 ((i : Nat) : Int) ∧ i + m = gg ∧ Hid (0 < m → s = sp l (a + i)) ∧ s ≤ n + 1 ∧ g ≤ 65536 ∧ 0 ≤ g + (s : Int) ∧ Hid (F.map Er.d = DD) ∧ F.length ≤ i ∧ Hid (nsum (DD.take 1) ≤ 9999) ∧ Hid (oo = (shf hd l m (a + i) g).map (DD ++ ·)) ∧ Hid (Eds wx (B + 2) wx.heap.size v6 F) ∧ Hid (Blk wx B 90 (tskC (.slice ao n c) (k : Int) fF tT L D (a : Int) (b : Int) (q : Int))) ∧ Hid (Blk wx (B + 1) 35 (ef7 (.slice none 0 0) 0 false false (.slice none 0 0) 0 false)) ∧ Hid (Below W1.heap.size W1 wx))
  case atStart => exact ⟨0, 0, sp l a, [], [], _, rfl, rfl, rfl, rfl, by omega, fun _ => rfl, by have := sp_le (t := l) (n := a) (by have := HAB.out; have := HBN.out; omega); have := HLN.out; omega, by omega, by omega, rfl, Nat.le_refl _, by simp [Hid, nsum], by unfold Hid; rw [← HOO.out]; cases shf hd l gg (a + 0) 0 <;> simp_all, Eds.nil _ _ _, K2.out, J2.out, B2.out⟩
  case round =>
    clear B2 K2 J2 HOO
    obtain ⟨i, g, s, F, DD, v6, rfl, rfl, rfl, rfl, him, HSP, hsn, hg1, hg2, HFD, hFi, HNS, HSH, KE, KK, KJ, KB⟩ := hrel
    have hgn : gg ≤ n + 1 := by have := HG.out; have := HLN.out; have := HBN.out; have := nl_le l; omega
    by_cases hgk : gk = 0
    · subst hgk
      have hik : ¬ ((i : Int) < (gg : Int)) := by omega
      obtain rfl : oo = some DD := by have := HSH.out; simpa [shf] using this
      clear HSH HSP
      obtain ⟨hm, hhm⟩ : ∃ x, fbh l (DD.take 1) a = x := ⟨_, rfl⟩
      have HHM := Hid.mk' hhm
      clear hhm
      obtain ⟨eo, en, ec, rfl, hen, hZ, hsl⟩ := so_he KE.out (z := (min 1 F.length : Nat)) (k := min 1 F.length) (Nat.min_le_right _ _) rfl
      have HEN := Hid.mk' hen.symm
      obtain ⟨mn, hmn⟩ : ∃ m, min 1 en = m := ⟨_, rfl⟩
      rw [← hen, hmn] at hsl
      have hmn1 : mn ≤ 1 := by omega
      have hmi : (if (en : Int) < 1 then (en : Int) else 1) = (mn : Int) := by split <;> omega
      have HZ4 : Hid (Edz wr.drew eo F) := hZ.keep (Below.refl _ _).drew
      have J4 : Hid (Blk wr.drew (B + 1) 35 (ef7 (.slice none 0 0) 0 false false (.slice none 0 0) 0 false)) := KJ.out
      have SZ : Hid (Blk wr.drew B 90 (tskC (.slice ao n c) (k : Int) fF tT L D (a : Int) (b : Int) (q : Int))) := KK.out
      have B4 : Hid (Below W1.heap.size W1 wr.drew) := KB.out.drew
      have E4 : Hid (Eds wr.drew (B + 2) wr.drew.heap.size (.slice eo en ec) F) := (KE.out.keep (Below.refl _ _).drew)
      clear KK KJ KB KE hZ hen CO CHD CCL CRP HHD hg1 hg2 hsn hFi him
      go_upto_region 15 with fail
      refine wp_region_held (S := fun w' => Blk w' B 90 (tskC (.slice ao n c) (k : Int) fF tT L D (a : Int) (b : Int) (q : Int))) (by kernel_rfl) ?_
      change wpAnyH _ _ _ _ _ _ _ _ (World.drew _)
      generalize wr.drew = V4 at *
      refine wpAnyH_take (i := 0) (v := .slice eo en ec) rfl (by kernel_rfl) (by kernel_rfl) (by kernel_rfl) (fun _ _ _ h => h) (Yields.yieldsIf (Or.inl ⟨by rfl, fun w => by go_simp⟩)) SZ.out ?_
      try simp only [Act.put, List.getElem_toArray, List.getElem_cons_zero, List.getElem_cons_succ, List.setIfInBounds_toArray, List.set_cons_zero, List.set_cons_succ]
      refine wpAnyH_take (i := 1) (v := .pointer (some ⟨B, 0, none⟩)) rfl (by kernel_rfl) (by kernel_rfl) (by kernel_rfl) (fun _ _ _ h => h) (Yields.yieldsIf (Or.inl ⟨by rfl, fun w => by go_simp⟩)) SZ.out ?_
      try simp only [Act.put, List.getElem_toArray, List.getElem_cons_zero, List.getElem_cons_succ, List.setIfInBounds_toArray, List.set_cons_zero, List.set_cons_succ]
      refine wpAnyH_take (i := 2) (v := .slice ao n c) rfl (by kernel_rfl) (by kernel_rfl) (by kernel_rfl) (fun _ _ _ h => h) (Or.inl ⟨by rfl, fun w9 h9 => by obtain ⟨c0, c1, c2, c3, c4, c5, c6, c7, c8⟩ := tsk_cells h9; go_simp⟩) SZ.out ?_
      try simp only [Act.put, List.getElem_toArray, List.getElem_cons_zero, List.getElem_cons_succ, List.setIfInBounds_toArray, List.set_cons_zero, List.set_cons_succ]
      refine wpAnyH_take (i := 3) (v := .slice eo en ec) rfl (by kernel_rfl) (by kernel_rfl) (by kernel_rfl) (fun _ _ _ h => h) (Yields.yieldsIf (Or.inl ⟨by rfl, fun w => by go_simp⟩)) SZ.out ?_
      try simp only [Act.put, List.getElem_toArray, List.getElem_cons_zero, List.getElem_cons_succ, List.setIfInBounds_toArray, List.set_cons_zero, List.set_cons_succ]
      refine wpAnyH_take (i := 4) (v := .slice eo en ec) rfl (by kernel_rfl) (by kernel_rfl) (by kernel_rfl) (fun _ _ _ h => h) (Yields.yieldsIf (Or.inl ⟨by rfl, fun w => by go_simp⟩)) SZ.out ?_
      try simp only [Act.put, List.getElem_toArray, List.getElem_cons_zero, List.getElem_cons_succ, List.setIfInBounds_toArray, List.set_cons_zero, List.set_cons_succ]
      refine wpAnyH_take (i := 5) (v := .int .i64 ((en : Nat) : Int)) rfl (by kernel_rfl) (by kernel_rfl) (by kernel_rfl) (fun _ _ _ h => h) (Yields.yieldsIf (Or.inl ⟨by rfl, fun w => by go_simp⟩)) SZ.out ?_
      try simp only [Act.put, List.getElem_toArray, List.getElem_cons_zero, List.getElem_cons_succ, List.setIfInBounds_toArray, List.set_cons_zero, List.set_cons_succ]
      refine wpAnyH_take (i := 6) (v := .int .i64 (mn : Int)) rfl (by kernel_rfl) (by kernel_rfl) (by kernel_rfl) (fun _ _ _ h => h) (Yields.yieldsIf (Or.inl ⟨by rfl, fun w => by go_simp; omega⟩)) SZ.out ?_
      try simp only [Act.put, List.getElem_toArray, List.getElem_cons_zero, List.getElem_cons_succ, List.setIfInBounds_toArray, List.set_cons_zero, List.set_cons_succ]
      refine wpAnyH_take (i := 7) (v := .slice eo mn ec) rfl (by kernel_rfl) (by kernel_rfl) (by kernel_rfl) (fun _ _ _ h => h) (Yields.yieldsIf (Or.inl ⟨by rfl, fun w => by go_simp⟩)) SZ.out ?_
      try simp only [Act.put, List.getElem_toArray, List.getElem_cons_zero, List.getElem_cons_succ, List.setIfInBounds_toArray, List.set_cons_zero, List.set_cons_succ]
      refine wpAnyH_take (i := 8) (v := .pointer (some ⟨B, 6, none⟩)) rfl (by kernel_rfl) (by kernel_rfl) (by kernel_rfl) (fun _ _ _ h => h) (Yields.yieldsIf (Or.inl ⟨by rfl, fun w => by go_simp⟩)) SZ.out ?_
      try simp only [Act.put, List.getElem_toArray, List.getElem_cons_zero, List.getElem_cons_succ, List.setIfInBounds_toArray, List.set_cons_zero, List.set_cons_succ]
      refine wpAnyH_take (i := 9) (v := .int .i64 (a : Int)) rfl (by kernel_rfl) (by kernel_rfl) (by kernel_rfl) (fun _ _ _ h => h) (Or.inl ⟨by rfl, fun w9 h9 => by obtain ⟨c0, c1, c2, c3, c4, c5, c6, c7, c8⟩ := tsk_cells h9; go_simp⟩) SZ.out ?_
      try simp only [Act.put, List.getElem_toArray, List.getElem_cons_zero, List.getElem_cons_succ, List.setIfInBounds_toArray, List.set_cons_zero, List.set_cons_succ]
      refine wpAnyH_all (rs := [10]) (by kernel_rfl) (by simp) (AllH.cons rfl (fun K hK => ?_) AllH.nil)
      go_simp
      refine (CF.out V4 eo ec (F.take 1) (DD.take 1) mn (by rw [List.length_take, HEN.out]; exact hmn) hmn1 B4.out (HZ4.out.take 1) (by rw [List.map_take, HFD.out]) HNS.out).mono ?_
      rintro e w5 ⟨rfl, hb5⟩
      have S5 : Hid (Blk w5 B 90 (tskC (.slice ao n c) (k : Int) fF tT L D (a : Int) (b : Int) (q : Int))) := SZ.out.keep hb5
      have J5 := Hid.mk' (J4.out.keep hb5)
      have E5 := Hid.mk' ((E4.out.keep hb5).wide (Nat.le_refl _) hb5.size)
      have B5 := Hid.mk' (bT B4.out hb5)
      clear hb5 CF SZ J4 E4 B4
      rw [HHM.out]
      dsimp only
      refine hK _ _ ⟨S5.out, ?_⟩
      clear hK K
      try simp only [Act.put, List.getElem_toArray, List.getElem_cons_zero, List.getElem_cons_succ, List.setIfInBounds_toArray, List.set_cons_zero, List.set_cons_succ]
      refine wpAnyH_take (i := 11) (v := .agg #[.slice eo en ec, .int .i64 hm, .bool false, .bool false, .slice none 0 0, .int .i64 0, .bool false]) rfl (by kernel_rfl) (by kernel_rfl) (by kernel_rfl) (fun _ _ _ h => h) (Yields.yieldsIf (Or.inl ⟨by rfl, fun w => by go_simp⟩)) S5.out ?_
      try simp only [Act.put, List.getElem_toArray, List.getElem_cons_zero, List.getElem_cons_succ, List.setIfInBounds_toArray, List.set_cons_zero, List.set_cons_succ]
      refine wpAnyH_all (rs := [12]) (by kernel_rfl) (by simp) (AllH.cons rfl (fun K hK => ?_) AllH.nil)
      obtain ⟨e0, e1, e2, e3, e4, e5, e6⟩ := ef_cells J5.out
      obtain ⟨f0, f1, f2, f3, f4, f5, f6⟩ := ef_frozen J5.out
      have hbk := ef_store J5.out (.slice eo en ec) (.int .i64 hm) (.bool false) (.bool false) (.slice none 0 0) (.int .i64 0) (.bool false)
      have hgr := ef_grown w5 (B + 1) (.slice eo en ec) (.int .i64 hm) (.bool false) (.bool false) (.slice none 0 0) (.int .i64 0) (.bool false)
      have ho1 := ef_off (B := B + 1) S5.out (Nat.ne_of_lt (Nat.lt_succ_self B)) (.slice eo en ec) (.int .i64 hm) (.bool false) (.bool false) (.slice none 0 0) (.int .i64 0) (.bool false)
      go_simp
      generalize (((((((w5.setCell ⟨B + 1, 0, none⟩ (.slice eo en ec)).setCell ⟨B + 1, 1, none⟩ (.int .i64 hm)).setCell ⟨B + 1, 2, none⟩ (.bool false)).setCell ⟨B + 1, 3, none⟩ (.bool false)).setCell ⟨B + 1, 4, none⟩ (.slice none 0 0)).setCell ⟨B + 1, 5, none⟩ (.int .i64 0)).setCell ⟨B + 1, 6, none⟩ (.bool false)) = w6 at *
      have S6 := Hid.mk' ho1
      have J6 := Hid.mk' hbk
      have G6 := Hid.mk' hgr
      clear hbk hgr ho1 e0 e1 e2 e3 e4 e5 e6 f0 f1 f2 f3 f4 f5 f6
      refine hK _ _ ⟨S6.out, ?_⟩
      clear hK K
      try simp only [Act.put, List.getElem_toArray, List.getElem_cons_zero, List.getElem_cons_succ, List.setIfInBounds_toArray, List.set_cons_zero, List.set_cons_succ]
      refine wpAnyH_take (i := 13) (v := .int .i64 0) rfl (by kernel_rfl) (by kernel_rfl) (by kernel_rfl) (fun _ _ _ h => h) (Yields.yieldsIf (Or.inl ⟨by rfl, fun w => by go_simp⟩)) S6.out ?_
      try simp only [Act.put, List.getElem_toArray, List.getElem_cons_zero, List.getElem_cons_succ, List.setIfInBounds_toArray, List.set_cons_zero, List.set_cons_succ]
      refine wpAnyH_done (by kernel_rfl) ?_ _
      go_wp2_with fail
      obtain rfl := HHM.out
      obtain ⟨g0, g1, g2, g3, g4, g5, g6⟩ := ef_cells J6.out
      refine bodyPost_ret (v := .tuple #[.agg #[.slice eo en ec, .int .i64 (fbh l (DD.take 1) a), .bool false, .bool false, .slice none 0 0, .int .i64 0, .bool false], .int .i64 0]) (by simp [results, Tryz.results102, go_sem, g0, g1, g2, g3, g4, g5, g6]) rfl ⟨.slice eo en ec, F, .slice none 0 0, rfl, HFD.out, ?_, ?_⟩
      · exact Efm.bare (((E5.out.grown G6.out (.inl (Nat.lt_succ_self _))).wide (by have := HB.out; omega) G6.out.size))
      · exact (bT L1.out B5.out).grown G6.out (bT L1.out B5.out).size (fun g hg => by injection hg with hg; have := HB.out; omega)
    · obtain ⟨go, hgo⟩ : ∃ g, gk = g + 1 := ⟨gk - 1, by omega⟩
      subst hgo
      have hik : (i : Int) < (gg : Int) := by omega
      obtain rfl := HSP.out (Nat.succ_pos _)
      have hil : a + i ≤ nl l := by have := HG.out; have := HBN.out; omega
      have hsl := sp_le (t := l) hil
      have hel := en_le hsl
      have hge := en_ge l (sp l (a + i))
      have HNX : Hid (0 < go → en l (sp l (a + i)) + 1 = sp l (a + (i + 1))) := fun hgo => by
        have := HG.out; have := HBN.out
        exact (sp_next (by omega)).2.symm
      have hen := ow_en l (sp l (a + i))
      rw [HLN.out] at hsl hel
      have C1 := Hid.mk' (CO.out wr (sp l (a + i)) hsl KB.out)
      obtain ⟨a3, c3, hs3, hT3⟩ := sl_lh' (HT1.out.keep KB.out) hge hel
      have C2 := Hid.mk' (CHD.out wr a3 _ c3 _ KB.out hT3)
      have hHD := HHD.out (ln l (a + i))
      have hX : ∀ o, o ≤ en l (sp l (a + i)) - sp l (a + i) → sl l (sp l (a + i)) (sp l (a + i) + o) = (ln l (a + i)).take o := fun o ho => by
        unfold sl ln
        rw [List.take_take, Nat.add_sub_cancel_left, Nat.min_eq_left ho]
      have hpl : (ln l (a + i)).length = en l (sp l (a + i)) - sp l (a + i) := by
        unfold ln
        rw [List.length_take, List.length_drop, HLN.out]
        omega
      have HSH2 : Hid (oo = (shf hd l (go + 1) (a + i) g).map (DD ++ ·)) := HSH.out
      unfold shf at HSH2
      rw [show sl l (sp l (a + i)) (en l (sp l (a + i))) = ln l (a + i) from rfl] at C2
      unfold hdV at C2
      rw [hpl] at hHD
      obtain ⟨⟨o, ii⟩, hoi⟩ : ∃ x, hd (ln l (a + i)) = x := ⟨_, rfl⟩
      rw [hoi] at C2 HSH2 hHD
      dsimp only at C2 HSH2 hHD
      have hX2 := hX o hHD.1
      obtain ⟨a4, c4', hs4, hT4⟩ := sl_lh' (HT1.out) (Nat.le_add_right (sp l (a + i)) o) (by omega)
      rw [hX2, Nat.add_sub_cancel_left] at hT4
      rw [Nat.add_sub_cancel_left] at hs4
      have HT4 := Hid.mk' hT4
      have HXL : Hid (((ln l (a + i)).take o).length = o) := by unfold Hid; rw [List.length_take, hpl]; omega
      have HRL : Hid ((rp [9] ii).length = ii) := by unfold Hid; rw [rp_len]; simp
      generalize (ln l (a + i)).take o = X at *
      obtain ⟨Y, hY⟩ : ∃ Y, rp [9] ii = Y := ⟨_, rfl⟩
      clear hX hpl hoi HSH HSP hT3 hT4 hX2
      generalize ow l (sp l (a + i)) = oww at *
      generalize en l (sp l (a + i)) = ee at *
      generalize sp l (a + i) = s at *
      subst hen
      have hp0 : (0 : Int) ≤ (s : Int) := by omega
      have hp1 : (s : Int) ≤ (s : Int) + (oww : Int) := by omega
      have hp2 : (s : Int) + (oww : Int) ≤ (n : Int) := by omega
      have hp3 : (s : Int) ≤ (s : Int) + (o : Int) := by omega
      rw [Int.natCast_add] at hs3 hs4
      rw [Nat.add_sub_cancel_left] at hs3 C2
      have hw1 : IntKind.i64.wrap ((i : Int) + 1) = ((i + 1 : Nat) : Int) := by rw [IntKind.wrap_i64]; omega
      have hw2 : IntKind.i64.wrap ((s : Int) + (oww : Int)) = (s : Int) + (oww : Int) := by rw [IntKind.wrap_i64]; omega
      have hw3 : IntKind.i64.wrap (g + (ii : Int)) = g + (ii : Int) := by rw [IntKind.wrap_i64]; omega
      have hw4 : IntKind.i64.wrap ((o : Int) + (ii : Int)) = (o : Int) + (ii : Int) := by rw [IntKind.wrap_i64]; omega
      have hw5 : IntKind.i64.wrap ((s : Int) + g) = (s : Int) + g := by rw [IntKind.wrap_i64]; omega
      have hw6 : IntKind.i64.wrap ((s : Int) + (o : Int)) = (s : Int) + (o : Int) := by rw [IntKind.wrap_i64]; omega
      have hw7 : IntKind.i64.wrap ((ii : Int) - (o : Int)) = (ii : Int) - (o : Int) := by rw [IntKind.wrap_i64]; omega
      have hw8 : IntKind.i64.wrap (g + ((ii : Int) - (o : Int))) = g + ((ii : Int) - (o : Int)) := by rw [IntKind.wrap_i64]; omega
      have hw9 : IntKind.i64.wrap ((s : Int) + (oww : Int) + 1) = (s : Int) + (oww : Int) + 1 := by rw [IntKind.wrap_i64]; omega
      obtain ⟨c0, c1, c2, c3', c4, c5, c6, c7, c8⟩ := tsk_cells KK.out
      by_cases hA : 65536 < g + (ii : Int)
      · rw [if_pos hA] at HSH2
        obtain rfl : oo = none := HSH2.out
        go_upto_region 9 with (first | (go_at_call 88; refine C1.out.mono ?_; rintro e w' ⟨rfl, hw⟩; have hq := hw.symm; subst hq; clear hw) | (go_at_call 104; refine C2.out.mono ?_; rintro e w3 ⟨rfl, hb3⟩; have B3 := Hid.mk' (bT KB.out hb3); have E3 := Hid.mk' ((KE.out.keep hb3).wide (Nat.le_refl _) hb3.size); have K3 := Hid.mk' (KK.out.keep hb3); have J3 := Hid.mk' (KJ.out.keep hb3); have S3 := Hid.mk' hb3.size; have KB2 := Hid.mk' KJ.out.lt; clear hb3 KE KK KJ KB c0 c1 c2 c3' c4 c5 c6 c7 c8; obtain ⟨c0, c1, c2, c3', c4, c5, c6, c7, c8⟩ := tsk_cells K3.out) | fail)
        obtain ⟨j0, j1, j2, j3, j4, j5, j6⟩ := ef_cells J3.out
        obtain ⟨f0, f1, f2, f3, f4, f5, f6⟩ := ef_frozen J3.out
        have hbk := ef_store J3.out (.slice none 0 0) (.int .i64 0) (.bool false) (.bool false) (.slice none 0 0) (.int .i64 0) (.bool false)
        have hgr := ef_grown w3 (B + 1) (.slice none 0 0) (.int .i64 0) (.bool false) (.bool false) (.slice none 0 0) (.int .i64 0) (.bool false)
        clear c0 c1 c2 c3' c4 c5 c6 c7 c8
        go_wp2_with fail
        generalize (((((((w3.setCell ⟨B + 1, 0, none⟩ (.slice none 0 0)).setCell ⟨B + 1, 1, none⟩ (.int .i64 0)).setCell ⟨B + 1, 2, none⟩ (.bool false)).setCell ⟨B + 1, 3, none⟩ (.bool false)).setCell ⟨B + 1, 4, none⟩ (.slice none 0 0)).setCell ⟨B + 1, 5, none⟩ (.int .i64 0)).setCell ⟨B + 1, 6, none⟩ (.bool false)) = w9 at *
        obtain ⟨g0, g1, g2, g3, g4, g5, g6⟩ := ef_cells hbk
        refine bodyPost_ret (v := .tuple #[efz, .int .i64 1]) (by simp [results, efz, Tryz.results102, go_sem, g0, g1, g2, g3, g4, g5, g6]) rfl (EfQ.no ?_)
        exact (bT L1.out B3.out).grown hgr (bT L1.out B3.out).size (fun g hg => by injection hg with hg; rw [← hg, HB.out]; exact Nat.le_succ B)
      · rw [if_neg hA] at HSH2
        have hE2 : oww + s + 0 = s + oww := by omega
        by_cases h0 : 0 < o + ii
        · have h0' : (0 : Int) < (o : Int) + (ii : Int) := by omega
          have CR2 : Hid (∀ (W : World) (a' : Option Addr) (c' : Nat), Tx W a' 1 c' [9] → Calls Tryz.prog 48 #[.slice a' 1 c', .int .i64 (ii : Int)] W fun e w' => WbP Y W e w') := fun W a' c' h => by rw [← hY]; exact CRP.out W a' c' ii hHD.2 h
          rw [if_pos h0] at HSH2
          rw [hY] at HSH2 HRL
          clear hY CRP CF
          go_upto_region 11 with (first | (go_at_call 88; refine C1.out.mono ?_; rintro e w' ⟨rfl, hw⟩; have hq := hw.symm; subst hq; clear hw) | (go_at_call 104; refine C2.out.mono ?_; rintro e w3 ⟨rfl, hb3⟩; have B3 := Hid.mk' (bT KB.out hb3); have E3 := Hid.mk' ((KE.out.keep hb3).wide (Nat.le_refl _) hb3.size); have K3 := Hid.mk' (KK.out.keep hb3); have J3 := Hid.mk' (KJ.out.keep hb3); have S3 := Hid.mk' hb3.size; have KB2 := Hid.mk' KJ.out.lt; clear hb3 KE KK KJ KB c0 c1 c2 c3' c4 c5 c6 c7 c8; obtain ⟨c0, c1, c2, c3', c4, c5, c6, c7, c8⟩ := tsk_cells K3.out) | fail)
          have CL := Hid.mk' (CCL.out w3 a4 o c4' X (by omega) (HT4.out.keep B3.out))
          clear CCL
          go_wp2_with (first | (go_at_call 46; refine CL.out.mono ?_; rintro e w4 ⟨v4, rfl, hW4, hb4⟩; obtain ⟨p4, d4, rfl⟩ := hW4.shape; have W4 := Hid.mk' hW4; have B4 := Hid.mk' hb4; clear hW4 hb4 c0 c1 c2 c3' c4 c5 c6 c7 c8 CL) | (go_at_call 48; refine (CR2.out (w4.alloc (.cells #[.int .u8 9] 5)) (some ⟨w4.heap.size, 0, none⟩) 1 (nine_tx (Blk.new w4 5 _))).mono ?_; rintro e w5 ⟨v5, rfl, hW5, hb5⟩; obtain ⟨p5, d5, rfl⟩ := hW5.shape; have W5 := Hid.mk' hW5; have B5 := Hid.mk' hb5; clear hW5 hb5) | (at_builtin; obtain ⟨v9, w9, hr9, hE9, hs9, hb9⟩ := ape_step (w3 := w3) (w6 := w5) (m := w4.heap.size) E3.out (by have := S3.out; have := KB2.out; omega) (bT B4.out (bT (bAlloc (Below.refl w4.heap.size w4) (.cells #[.int .u8 9] 5)) B5.out)) (W4.out.keep (bT (bAlloc (Below.refl w4.heap.size w4) (.cells #[.int .u8 9] 5)) B5.out)) (W5.out.wide (by rw [World.size_alloc]; omega) (Nat.le_refl _)) B4.out.size (by have := B5.out.size; rw [World.size_alloc] at this; omega) (by have := HXL.out; omega) (by have := HRL.out; omega) (by omega) ((s : Int) + g); refine wl_ape rfl _ _ rfl _ _ rfl rfl hr9 ?_; have R9 := Hid.mk' hr9; clear hr9) | fail)
          have K9 := Hid.mk' (K3.out.low (hb9 w3 (B + 2) (Nat.le_refl _) (Below.refl _ _)) (by omega))
          have J9 := Hid.mk' (J3.out.low (hb9 w3 (B + 2) (Nat.le_refl _) (Below.refl _ _)) (by omega))
          have L9 := Hid.mk' (hb9 W1 W1.heap.size (by have := HS1.out; omega) B3.out)
          clear hb9
          go_roundg go
          case measure => omega
          case rel =>
            refine ⟨i + 1, g + ((ii : Int) - (o : Int)), s + oww + 1, F ++ [⟨(s : Int) + g, p4, X.length, d4, X, p5, Y.length, d5, Y⟩], DD ++ [⟨(s : Int) + g, X, Y⟩], v9, rfl, by go_num, by go_num, by go_num, by omega, ?_, by omega, by omega, by have := HXL.out; omega, ?_, by rw [List.length_append]; simp; omega, ?_, ?_, Hid.mk' hE9, K9.out, J9.out, L9.out⟩
            · exact HNX.out
            · unfold Hid; rw [List.map_append, HFD.out]; rfl
            · unfold Hid
              cases DD with
              | nil => simp [nsum, HRL.out]; exact hHD.2
              | cons x t => simpa [nsum] using HNS.out
            · unfold Hid; rw [HSH2.out, Option.map_map]; congr 1; funext D; simp
        · have h0' : ¬ (0 : Int) < (o : Int) + (ii : Int) := by omega
          rw [if_neg h0] at HSH2
          clear CCL CRP CF hY
          go_wp2_with (first | (go_at_call 88; refine C1.out.mono ?_; rintro e w' ⟨rfl, hw⟩; have hq := hw.symm; subst hq; clear hw) | (go_at_call 104; refine C2.out.mono ?_; rintro e w3 ⟨rfl, hb3⟩; have B3 := Hid.mk' (bT KB.out hb3); have E3 := Hid.mk' ((KE.out.keep hb3).wide (Nat.le_refl _) hb3.size); have K3 := Hid.mk' (KK.out.keep hb3); have J3 := Hid.mk' (KJ.out.keep hb3); have S3 := Hid.mk' hb3.size; have KB2 := Hid.mk' KJ.out.lt; clear hb3 KE KK KJ KB c0 c1 c2 c3' c4 c5 c6 c7 c8; obtain ⟨c0, c1, c2, c3', c4, c5, c6, c7, c8⟩ := tsk_cells K3.out) | fail)
          go_roundg go
          case measure => omega
          case rel =>
            refine ⟨i + 1, g + ((ii : Int) - (o : Int)), s + oww + 1, F, DD, _, rfl, by go_num, by go_num, by go_num, by omega, ?_, by omega, by omega, by omega, HFD.out, by omega, HNS.out, ?_, E3.out, K3.out, J3.out, B3.out⟩
            · exact HNX.out
            · unfold Hid; rw [HSH2.out, Option.map_map]; (try congr 1); (try (funext D; simp))
end Go.Proofs.YtppefcnopkmhbaaGreatDoor
