/- Rch, Rwp -/
import Derived.Test.YtppefcnopkmhbaaGreatDoorPt20
import Derived.Test.YtppefcnopkmhbaaGreatDoorPt30
import Derived.Test.YtppefcnopkmhbaaGreatDoorPt31
import Derived.Test.YtppefcnopkmhbaaGreatDoorPt23
import Derived.Test.YtppefcnopkmhbaaGreatDoorPt13
namespace Go.Proofs.YtppefcnopkmhbaaGreatDoor
open Go.RowKit

set_option maxRecDepth 8000
/-- a readable effect is answered -/
def RfE (x : Ef) (w : World) (e : Ending) (w' : World) : Prop := ∃ v F tv, e = .returned (efV v tv x) ∧ Efr w' v tv F x ∧ Below w.heap.size w w'
theorem efr_out {x : Ef} {w5 w6 : World} {ao tp : Option Addr} {c tc : Nat} {F : List Er} {B : Nat} (hF : F.map Er.d = x.es) (hE : Edz w5 ao F) (hT : Tx w5 tp x.txt.length tc x.txt) (hK : Blk w5 B 35 (ef7 (.slice none 0 0) 0 false false (.slice none 0 0) 0 false)) (hg : w5.grownBy w6 (some B)) : Efr w6 (.slice ao F.length c) (.slice tp x.txt.length tc) F x :=
  ⟨hF, ⟨ao, c, rfl, edz_offe hE hK hg⟩, ⟨tp, tc, rfl, hT.offe hK (by intro z e; cases e) (by intro z e; cases e) hg⟩⟩
/-- the three boxes of changed -/
structure Thb (w W : World) (fF tT : Int) (L D set lin : Bool) (v : Value) : Prop where
  bel : Below w.heap.size w W
  rg : Blk W w.heap.size 28 (rgC fF tT L D)
  re : Blk W (w.heap.size + 1) 33 (rrC set lin v)
  ef : Blk W (w.heap.size + 2) 35 (ef7 (.slice none 0 0) 0 false false (.slice none 0 0) 0 false)
theorem Thb.new (w : World) (fF tT : Int) (L D set lin : Bool) (v : Value) : Thb w (((w.alloc (.cells (rgC fF tT L D) 28)).alloc (.cells (rrC set lin v) 33)).alloc (.cells (ef7 (.slice none 0 0) 0 false false (.slice none 0 0) 0 false) 35)) fF tT L D set lin v := by
  have k1 : Below (w.alloc (.cells (rgC fF tT L D) 28)).heap.size (w.alloc (.cells (rgC fF tT L D) 28)) ((w.alloc (.cells (rgC fF tT L D) 28)).alloc (.cells (rrC set lin v) 33)) := bAlloc (Below.refl _ _) _
  have k2 : Below ((w.alloc (.cells (rgC fF tT L D) 28)).alloc (.cells (rrC set lin v) 33)).heap.size ((w.alloc (.cells (rgC fF tT L D) 28)).alloc (.cells (rrC set lin v) 33)) (((w.alloc (.cells (rgC fF tT L D) 28)).alloc (.cells (rrC set lin v) 33)).alloc (.cells (ef7 (.slice none 0 0) 0 false false (.slice none 0 0) 0 false) 35)) := bAlloc (Below.refl _ _) _
  have a2 := Blk.new (w.alloc (.cells (rgC fF tT L D) 28)) 33 (rrC set lin v)
  have a3 := Blk.new ((w.alloc (.cells (rgC fF tT L D) 28)).alloc (.cells (rrC set lin v) 33)) 35 (ef7 (.slice none 0 0) 0 false false (.slice none 0 0) 0 false)
  rw [World.size_alloc] at a2
  rw [World.size_alloc, World.size_alloc] at a3
  exact ⟨bAlloc (bAlloc (bAlloc (Below.refl _ _) _) _) _, ((Blk.new w 28 _).keep k1).keep k2, a2.keep k2, a3⟩
/-- the range's box and the register's -/
structure Rgs (W : World) (B : Nat) (fF tT : Int) (L D set lin : Bool) (v : Value) : Prop where
  rg : Blk W B 28 (rgC fF tT L D)
  re : Blk W (B + 1) 33 (rrC set lin v)
theorem Rgs.keep {W W' : World} {B : Nat} {fF tT : Int} {L D set lin : Bool} {v : Value} (h : Rgs W B fF tT L D set lin v) (hb : Below W.heap.size W W') : Rgs W' B fF tT L D set lin v := ⟨h.rg.keep hb, h.re.keep hb⟩
theorem Rgs.off {W W' : World} {B : Nat} {fF tT : Int} {L D set lin : Bool} {v : Value} (h : Rgs W B fF tT L D set lin v) (hg : W.grownBy W' (some (B + 2))) : Rgs W' B fF tT L D set lin v := ⟨h.rg.off2 hg (fun e => by injection e with e; omega), h.re.off2 hg (fun e => by injection e with e; omega)⟩
set_option maxHeartbeats 8000000 in
set_option linter.unusedSimpArgs false in
theorem rch_lines (ao : Option Addr) (n c f t : Nat) (D : Bool) (a b : Nat) (l : List UInt8) (set lin : Bool) (xp : Option Addr) (xc : Nat) (X : List UInt8) (how : Int) (w : World) (HT : Hid (Tx w ao n c l)) (HX : Hid (Tx w xp X.length xc X)) (hbig : n ≤ 1048576) (ha : a ≤ nl l) (hb : b ≤ nl l) (hab : a ≤ b) :
    Calls Tryz.prog 31 #[.slice ao n c, .agg #[.int .i64 (f : Int), .int .i64 (t : Int), .bool true, .bool D], .int .i64 (a : Int), .int .i64 (b : Int), .agg #[.bool set, .bool lin, .slice xp X.length xc], .int .i64 how] w fun e w' => RfE ⟨sw l (sp l a) (en l (sp l b)) [], (sp l a : Int), set, lin, X, how, true⟩ w e w' := by
  obtain ⟨W1, hW1⟩ : ∃ x, ((w.alloc (.cells #[.int .i64 (f : Int), .int .i64 (t : Int), .bool true, .bool D] 28)).alloc (.cells #[.bool set, .bool lin, .slice xp X.length xc] 33)).alloc (.cells #[.slice none 0 0, .int .i64 0, .bool false, .bool false, .slice none 0 0, .int .i64 0, .bool false] 35) = x := ⟨_, rfl⟩
  have T1 : Hid (Thb w W1 (f : Int) (t : Int) true D set lin (.slice xp X.length xc)) := by unfold Hid; rw [← hW1]; exact Thb.new w _ _ _ _ _ _ _
  have HT1 := Hid.mk' (HT.out.keep T1.out.bel)
  have HX1 := Hid.mk' (HX.out.keep T1.out.bel)
  obtain ⟨B, hB⟩ : ∃ b, w.heap.size = b := ⟨_, rfl⟩
  have HB := Hid.mk' hB
  have S1 : Hid (Rgs W1 B (f : Int) (t : Int) true D set lin (.slice xp X.length xc)) := by unfold Hid; rw [← hB]; exact ⟨T1.out.rg, T1.out.re⟩
  have J1 : Hid (Blk W1 (B + 2) 35 (ef7 (.slice none 0 0) 0 false false (.slice none 0 0) 0 false)) := by unfold Hid; rw [← hB]; exact T1.out.ef
  have L1 := Hid.mk' T1.out.bel
  have HLN := Hid.mk' HT.out.len
  obtain ⟨xn, hxn⟩ : ∃ xn, X.length = xn := ⟨_, rfl⟩
  have HXN := Hid.mk' hxn
  rw [hxn] at HX HX1 S1 hW1 ⊢
  obtain ⟨c0, c1, c2, c3⟩ := rgC_cells S1.out.rg
  obtain ⟨r0, r1, r2⟩ := rrC_cells S1.out.re
  clear hxn
  have hsa := sp_le ha
  have hsb := sp_le hb
  have heb := en_le hsb
  have hge := en_ge l (sp l b)
  have hse : sp l a ≤ en l (sp l b) := Nat.le_trans (sp_mono hab hb) hge
  rw [HLN.out] at hsa heb
  have hnl := nl_le l
  rw [HLN.out] at hnl
  have CST : Hid (∀ W, Below W1.heap.size W1 W → Calls Tryz.prog 45 #[.slice ao n c, .int .i64 (a : Int)] W fun e w' => e = .returned (.tuple #[.int .i64 (sp l a : Int), .int .i64 0]) ∧ w' = W) := fun W hW => by
    have h := refStart_any ao n c (a : Int) l W (by omega) (HT1.out.keep hW)
    rw [pr_start ha] at h
    exact h
  have CEN : Hid (∀ W, Below W1.heap.size W1 W → Calls Tryz.prog 44 #[.slice ao n c, .int .i64 (b : Int)] W fun e w' => e = .returned (.tuple #[.int .i64 (en l (sp l b) : Int), .int .i64 0]) ∧ w' = W) := fun W hW => by
    have h := refEnd_any ao n c (b : Int) l W (by omega) (HT1.out.keep hW)
    rw [pr_end hb] at h
    exact h
  have CX : Hid (∀ W, Below W1.heap.size W1 W → Calls Tryz.prog 29 #[.slice ao n c, .int .i64 (sp l a : Int), .int .i64 (en l (sp l b) : Int), .slice none 0 0] W fun e w' => EdP (sw l (sp l a) (en l (sp l b)) []) W e w') := fun W hW => redit_any ao n c _ _ l none 0 0 [] W (Hid.mk' (HT1.out.keep hW)) hse heb (by omega) (Hid.mk' (tx_nil W)) (by omega)
  obtain ⟨s, hs⟩ : ∃ s, sp l a = s := ⟨_, rfl⟩
  obtain ⟨ee, he⟩ : ∃ e, en l (sp l b) = e := ⟨_, rfl⟩
  rw [hs] at CST CX ⊢
  rw [he] at CEN CX ⊢
  clear hs he hse hge hsb heb hsa
  go_enter Tryz.func31, Tryz.ntmps31
  go_upto_region 1 with fail
  clear hW1 hB T1 HT HX
  go_upto_region 2 with fail
  go_wp2_with fail
  refine (CST.out W1 (Below.refl _ _)).mono ?_
  rintro e w' ⟨rfl, hw⟩
  have hq9 := hw.symm
  subst hq9
  clear hw CST
  dsimp only
  go_upto_region 3 with fail
  go_wp2_with fail
  refine (CEN.out W1 (Below.refl _ _)).mono ?_
  rintro e w' ⟨rfl, hw⟩
  have hq9 := hw.symm
  subst hq9
  clear hw CEN
  dsimp only
  go_upto_region 4 with fail
  have hdw : Below W1.heap.size W1 W1.drew := (Below.refl _ _).drew
  have SZ : Hid (Rgs W1.drew B (f : Int) (t : Int) true D set lin (.slice xp xn xc)) := S1.out.keep hdw
  have JZ := Hid.mk' (J1.out.keep hdw)
  have B0 := Hid.mk' (bT (Below.refl W1.heap.size W1) hdw)
  clear hdw c0 c1 c2 c3 r0 r1 r2
  refine wp_region_held (S := fun w' => Rgs w' B (f : Int) (t : Int) true D set lin (.slice xp xn xc)) (by kernel_rfl) ?_
  change wpAnyH _ _ _ _ _ _ _ _ (World.drew _)
  generalize W1.drew = V0 at *
  refine wpAnyH_take (i := 0) (v := .slice ao n c) rfl (by kernel_rfl) (by kernel_rfl) (by kernel_rfl) (fun _ _ _ h => h) (Yields.yieldsIf (Or.inl ⟨by rfl, fun w => by go_simp⟩)) SZ.out ?_
  try simp only [Act.put, List.getElem_toArray, List.getElem_cons_zero, List.getElem_cons_succ, List.setIfInBounds_toArray, List.set_cons_zero, List.set_cons_succ]
  refine wpAnyH_take (i := 1) (v := .int .i64 (s : Int)) rfl (by kernel_rfl) (by kernel_rfl) (by kernel_rfl) (fun _ _ _ h => h) (Yields.yieldsIf (Or.inl ⟨by rfl, fun w => by go_simp⟩)) SZ.out ?_
  try simp only [Act.put, List.getElem_toArray, List.getElem_cons_zero, List.getElem_cons_succ, List.setIfInBounds_toArray, List.set_cons_zero, List.set_cons_succ]
  refine wpAnyH_take (i := 2) (v := .int .i64 (ee : Int)) rfl (by kernel_rfl) (by kernel_rfl) (by kernel_rfl) (fun _ _ _ h => h) (Yields.yieldsIf (Or.inl ⟨by rfl, fun w => by go_simp⟩)) SZ.out ?_
  try simp only [Act.put, List.getElem_toArray, List.getElem_cons_zero, List.getElem_cons_succ, List.setIfInBounds_toArray, List.set_cons_zero, List.set_cons_succ]
  refine wpAnyH_take (i := 4) (v := .int .i64 (s : Int)) rfl (by kernel_rfl) (by kernel_rfl) (by kernel_rfl) (fun _ _ _ h => h) (Yields.yieldsIf (Or.inl ⟨by rfl, fun w => by go_simp⟩)) SZ.out ?_
  try simp only [Act.put, List.getElem_toArray, List.getElem_cons_zero, List.getElem_cons_succ, List.setIfInBounds_toArray, List.set_cons_zero, List.set_cons_succ]
  refine wpAnyH_take (i := 5) (v := .agg #[.bool set, .bool lin, .slice xp xn xc]) rfl (by kernel_rfl) (by kernel_rfl) (by kernel_rfl) (fun _ _ _ h => h) (Or.inl ⟨by rfl, fun w9 h9 => by obtain ⟨c0, c1, c2, c3⟩ := rgC_cells h9.rg; obtain ⟨r0, r1, r2⟩ := rrC_cells h9.re; go_simp⟩) SZ.out ?_
  try simp only [Act.put, List.getElem_toArray, List.getElem_cons_zero, List.getElem_cons_succ, List.setIfInBounds_toArray, List.set_cons_zero, List.set_cons_succ]
  refine wpAnyH_take (i := 6) (v := .int .i64 how) rfl (by kernel_rfl) (by kernel_rfl) (by kernel_rfl) (fun _ _ _ h => h) (Yields.yieldsIf (Or.inl ⟨by rfl, fun w => by go_simp⟩)) SZ.out ?_
  try simp only [Act.put, List.getElem_toArray, List.getElem_cons_zero, List.getElem_cons_succ, List.setIfInBounds_toArray, List.set_cons_zero, List.set_cons_succ]
  refine wpAnyH_all (rs := [3]) (by kernel_rfl) (by simp) (AllH.cons rfl (fun K hK => ?_) AllH.nil)
  go_simp
  refine (CX.out V0 B0.out).mono ?_
  rintro e9 V1 ⟨eo, ec, F, rfl, hF, hE, hbx⟩
  obtain ⟨en, hen⟩ : ∃ en, F.length = en := ⟨_, rfl⟩
  have HEN := Hid.mk' hen
  rw [hen]
  have HF := Hid.mk' hF
  have E9 := Hid.mk' hE
  have SV1 := Hid.mk' (SZ.out.keep hbx)
  have JV1 := Hid.mk' (JZ.out.keep hbx)
  have BV1 := Hid.mk' (bT B0.out hbx)
  clear hbx hF hE hen CX
  dsimp only
  refine hK _ _ ⟨SV1.out, ?_⟩
  clear hK K
  try simp only [Act.put, List.getElem_toArray, List.getElem_cons_zero, List.getElem_cons_succ, List.setIfInBounds_toArray, List.set_cons_zero, List.set_cons_succ]
  refine wpAnyH_take (i := 7) (v := .agg #[.slice eo en ec, .int .i64 (s : Int), .bool set, .bool lin, .slice xp xn xc, .int .i64 how, .bool true]) rfl (by kernel_rfl) (by kernel_rfl) (by kernel_rfl) (fun _ _ _ h => h) (Yields.yieldsIf (Or.inl ⟨by rfl, fun w => by go_simp⟩)) SV1.out ?_
  try simp only [Act.put, List.getElem_toArray, List.getElem_cons_zero, List.getElem_cons_succ, List.setIfInBounds_toArray, List.set_cons_zero, List.set_cons_succ]
  refine wpAnyH_all (rs := [8]) (by kernel_rfl) (by simp) (AllH.cons rfl (fun K hK => ?_) AllH.nil)
  obtain ⟨j0, j1, j2, j3, j4, j5, j6⟩ := ef_cells JV1.out
  obtain ⟨f0, f1, f2, f3, f4, f5, f6⟩ := ef_frozen JV1.out
  have hbk := ef_store JV1.out (.slice eo en ec) (.int .i64 (s : Int)) (.bool set) (.bool lin) (.slice xp xn xc) (.int .i64 how) (.bool true)
  have hgr := ef_grown V1 (B + 2) (.slice eo en ec) (.int .i64 (s : Int)) (.bool set) (.bool lin) (.slice xp xn xc) (.int .i64 how) (.bool true)
  go_simp
  generalize (((((((V1.setCell ⟨B + 2, 0, none⟩ (.slice eo en ec)).setCell ⟨B + 2, 1, none⟩ (.int .i64 (s : Int))).setCell ⟨B + 2, 2, none⟩ (.bool set)).setCell ⟨B + 2, 3, none⟩ (.bool lin)).setCell ⟨B + 2, 4, none⟩ (.slice xp xn xc)).setCell ⟨B + 2, 5, none⟩ (.int .i64 how)).setCell ⟨B + 2, 6, none⟩ (.bool true)) = w9 at *
  have S9 : Hid (Rgs w9 B (f : Int) (t : Int) true D set lin (.slice xp xn xc)) := SV1.out.off hgr
  have J9 := Hid.mk' hbk
  have G9 := Hid.mk' hgr
  clear hbk hgr j0 j1 j2 j3 j4 j5 j6 f0 f1 f2 f3 f4 f5 f6
  refine hK _ _ ⟨S9.out, ?_⟩
  clear hK K
  try simp only [Act.put, List.getElem_toArray, List.getElem_cons_zero, List.getElem_cons_succ, List.setIfInBounds_toArray, List.set_cons_zero, List.set_cons_succ]
  refine wpAnyH_done (by kernel_rfl) ?_ _
  go_wp2_with fail
  obtain ⟨g0, g1, g2, g3, g4, g5, g6⟩ := ef_cells J9.out
  refine bodyPost_ret (v := .agg #[.slice eo en ec, .int .i64 (s : Int), .bool set, .bool lin, .slice xp xn xc, .int .i64 how, .bool true]) (by simp [results, Tryz.results31, go_sem, g0, g1, g2, g3, g4, g5, g6]) rfl ?_
  obtain rfl := HEN.out
  obtain rfl := HXN.out
  exact ⟨_, F, _, rfl, efr_out (x := ⟨sw l s ee [], (s : Int), set, lin, X, how, true⟩) HF.out E9.out (HX1.out.keep BV1.out) JV1.out G9.out, (bT L1.out BV1.out).grown G9.out (bT L1.out BV1.out).size (fun g hg => by injection hg with hg; have := HB.out; omega)⟩
set_option maxHeartbeats 8000000 in
set_option linter.unusedSimpArgs false in
theorem rch_same (ao : Option Addr) (n c f t : Nat) (D : Bool) (a b : Nat) (l : List UInt8) (set lin : Bool) (xp : Option Addr) (xc : Nat) (X : List UInt8) (how : Int) (w : World) (HT : Hid (Tx w ao n c l)) (HX : Hid (Tx w xp X.length xc X)) (_hbig : n ≤ 1048576) (hft : f = t) :
    Calls Tryz.prog 31 #[.slice ao n c, .agg #[.int .i64 (f : Int), .int .i64 (t : Int), .bool false, .bool D], .int .i64 (a : Int), .int .i64 (b : Int), .agg #[.bool set, .bool lin, .slice xp X.length xc], .int .i64 how] w fun e w' => RfE ⟨[], (f : Int), false, false, [], 0, true⟩ w e w' := by
  obtain ⟨W1, hW1⟩ : ∃ x, ((w.alloc (.cells #[.int .i64 (f : Int), .int .i64 (t : Int), .bool false, .bool D] 28)).alloc (.cells #[.bool set, .bool lin, .slice xp X.length xc] 33)).alloc (.cells #[.slice none 0 0, .int .i64 0, .bool false, .bool false, .slice none 0 0, .int .i64 0, .bool false] 35) = x := ⟨_, rfl⟩
  have T1 : Hid (Thb w W1 (f : Int) (t : Int) false D set lin (.slice xp X.length xc)) := by unfold Hid; rw [← hW1]; exact Thb.new w _ _ _ _ _ _ _
  have HT1 := Hid.mk' (HT.out.keep T1.out.bel)
  have HX1 := Hid.mk' (HX.out.keep T1.out.bel)
  obtain ⟨B, hB⟩ : ∃ b, w.heap.size = b := ⟨_, rfl⟩
  have HB := Hid.mk' hB
  have S1 : Hid (Rgs W1 B (f : Int) (t : Int) false D set lin (.slice xp X.length xc)) := by unfold Hid; rw [← hB]; exact ⟨T1.out.rg, T1.out.re⟩
  have J1 : Hid (Blk W1 (B + 2) 35 (ef7 (.slice none 0 0) 0 false false (.slice none 0 0) 0 false)) := by unfold Hid; rw [← hB]; exact T1.out.ef
  have L1 := Hid.mk' T1.out.bel
  have HLN := Hid.mk' HT.out.len
  obtain ⟨xn, hxn⟩ : ∃ xn, X.length = xn := ⟨_, rfl⟩
  have HXN := Hid.mk' hxn
  rw [hxn] at HX HX1 S1 hW1 ⊢
  obtain ⟨c0, c1, c2, c3⟩ := rgC_cells S1.out.rg
  obtain ⟨r0, r1, r2⟩ := rrC_cells S1.out.re
  clear hxn
  subst hft
  go_enter Tryz.func31, Tryz.ntmps31
  go_upto_region 1 with fail
  clear hW1 hB T1 HT HX
  go_upto_region 6 with fail
  obtain ⟨j0, j1, j2, j3, j4, j5, j6⟩ := ef_cells J1.out
  obtain ⟨f0, f1, f2, f3, f4, f5, f6⟩ := ef_frozen J1.out
  have hbk := ef_store J1.out (.slice none 0 0) (.int .i64 (f : Int)) (.bool false) (.bool false) (.slice none 0 0) (.int .i64 0) (.bool true)
  have hgr := ef_grown W1 (B + 2) (.slice none 0 0) (.int .i64 (f : Int)) (.bool false) (.bool false) (.slice none 0 0) (.int .i64 0) (.bool true)
  go_wp2_with fail
  generalize (((((((W1.setCell ⟨B + 2, 0, none⟩ (.slice none 0 0)).setCell ⟨B + 2, 1, none⟩ (.int .i64 (f : Int))).setCell ⟨B + 2, 2, none⟩ (.bool false)).setCell ⟨B + 2, 3, none⟩ (.bool false)).setCell ⟨B + 2, 4, none⟩ (.slice none 0 0)).setCell ⟨B + 2, 5, none⟩ (.int .i64 0)).setCell ⟨B + 2, 6, none⟩ (.bool true)) = w9 at *
  obtain ⟨g0, g1, g2, g3, g4, g5, g6⟩ := ef_cells hbk
  refine bodyPost_ret (v := .agg #[.slice none 0 0, .int .i64 (f : Int), .bool false, .bool false, .slice none 0 0, .int .i64 0, .bool true]) (by simp [results, Tryz.results31, go_sem, g0, g1, g2, g3, g4, g5, g6]) rfl ?_
  exact ⟨_, [], _, rfl, efr_out (x := ⟨[], (f : Int), false, false, [], 0, true⟩) (ao := none) (c := 0) (F := []) (tp := none) (tc := 0) rfl (edz_nil _) (tx_nil _) J1.out hgr, L1.out.grown hgr L1.out.size (fun g hg => by injection hg with hg; have := HB.out; omega)⟩
set_option maxHeartbeats 8000000 in
set_option linter.unusedSimpArgs false in
theorem rch_cut (ao : Option Addr) (n c f t : Nat) (D : Bool) (a b : Nat) (l : List UInt8) (set lin : Bool) (xp : Option Addr) (xc : Nat) (X : List UInt8) (how : Int) (w : World) (HT : Hid (Tx w ao n c l)) (HX : Hid (Tx w xp X.length xc X)) (hbig : n ≤ 1048576) (hft : f ≤ t) (ht : t ≤ n) (hne : ¬ f = t) :
    Calls Tryz.prog 31 #[.slice ao n c, .agg #[.int .i64 (f : Int), .int .i64 (t : Int), .bool false, .bool D], .int .i64 (a : Int), .int .i64 (b : Int), .agg #[.bool set, .bool lin, .slice xp X.length xc], .int .i64 how] w fun e w' => RfE ⟨sw l f t [], (f : Int), set, lin, X, how, true⟩ w e w' := by
  obtain ⟨W1, hW1⟩ : ∃ x, ((w.alloc (.cells #[.int .i64 (f : Int), .int .i64 (t : Int), .bool false, .bool D] 28)).alloc (.cells #[.bool set, .bool lin, .slice xp X.length xc] 33)).alloc (.cells #[.slice none 0 0, .int .i64 0, .bool false, .bool false, .slice none 0 0, .int .i64 0, .bool false] 35) = x := ⟨_, rfl⟩
  have T1 : Hid (Thb w W1 (f : Int) (t : Int) false D set lin (.slice xp X.length xc)) := by unfold Hid; rw [← hW1]; exact Thb.new w _ _ _ _ _ _ _
  have HT1 := Hid.mk' (HT.out.keep T1.out.bel)
  have HX1 := Hid.mk' (HX.out.keep T1.out.bel)
  obtain ⟨B, hB⟩ : ∃ b, w.heap.size = b := ⟨_, rfl⟩
  have HB := Hid.mk' hB
  have S1 : Hid (Rgs W1 B (f : Int) (t : Int) false D set lin (.slice xp X.length xc)) := by unfold Hid; rw [← hB]; exact ⟨T1.out.rg, T1.out.re⟩
  have J1 : Hid (Blk W1 (B + 2) 35 (ef7 (.slice none 0 0) 0 false false (.slice none 0 0) 0 false)) := by unfold Hid; rw [← hB]; exact T1.out.ef
  have L1 := Hid.mk' T1.out.bel
  have HLN := Hid.mk' HT.out.len
  obtain ⟨xn, hxn⟩ : ∃ xn, X.length = xn := ⟨_, rfl⟩
  have HXN := Hid.mk' hxn
  rw [hxn] at HX HX1 S1 hW1 ⊢
  obtain ⟨c0, c1, c2, c3⟩ := rgC_cells S1.out.rg
  obtain ⟨r0, r1, r2⟩ := rrC_cells S1.out.re
  clear hxn
  have CX : Hid (∀ W, Below W1.heap.size W1 W → Calls Tryz.prog 29 #[.slice ao n c, .int .i64 (f : Int), .int .i64 (t : Int), .slice none 0 0] W fun e w' => EdP (sw l f t []) W e w') := fun W hW => redit_any ao n c _ _ l none 0 0 [] W (Hid.mk' (HT1.out.keep hW)) hft ht (by omega) (Hid.mk' (tx_nil W)) (by omega)
  have hne1 : ((f : Int) == (t : Int)) = false := beq_eq_false_iff_ne.2 (by omega)
  have hne2 : ¬ (f : Int) = (t : Int) := by omega
  go_enter Tryz.func31, Tryz.ntmps31
  go_upto_region 1 with fail
  clear hW1 hB T1 HT HX
  go_upto_region 7 with fail
  have hdw : Below W1.heap.size W1 W1.drew := (Below.refl _ _).drew
  have SZ : Hid (Rgs W1.drew B (f : Int) (t : Int) false D set lin (.slice xp xn xc)) := S1.out.keep hdw
  have JZ := Hid.mk' (J1.out.keep hdw)
  have B0 := Hid.mk' (bT (Below.refl W1.heap.size W1) hdw)
  clear hdw c0 c1 c2 c3 r0 r1 r2
  refine wp_region_held (S := fun w' => Rgs w' B (f : Int) (t : Int) false D set lin (.slice xp xn xc)) (by kernel_rfl) ?_
  change wpAnyH _ _ _ _ _ _ _ _ (World.drew _)
  generalize W1.drew = V0 at *
  refine wpAnyH_take (i := 0) (v := .slice ao n c) rfl (by kernel_rfl) (by kernel_rfl) (by kernel_rfl) (fun _ _ _ h => h) (Yields.yieldsIf (Or.inl ⟨by rfl, fun w => by go_simp⟩)) SZ.out ?_
  try simp only [Act.put, List.getElem_toArray, List.getElem_cons_zero, List.getElem_cons_succ, List.setIfInBounds_toArray, List.set_cons_zero, List.set_cons_succ]
  refine wpAnyH_take (i := 1) (v := .pointer (some ⟨B, 0, none⟩)) rfl (by kernel_rfl) (by kernel_rfl) (by kernel_rfl) (fun _ _ _ h => h) (Yields.yieldsIf (Or.inl ⟨by rfl, fun w => by go_simp⟩)) SZ.out ?_
  try simp only [Act.put, List.getElem_toArray, List.getElem_cons_zero, List.getElem_cons_succ, List.setIfInBounds_toArray, List.set_cons_zero, List.set_cons_succ]
  refine wpAnyH_take (i := 2) (v := .int .i64 (f : Int)) rfl (by kernel_rfl) (by kernel_rfl) (by kernel_rfl) (fun _ _ _ h => h) (Or.inl ⟨by rfl, fun w9 h9 => by obtain ⟨c0, c1, c2, c3⟩ := rgC_cells h9.rg; obtain ⟨r0, r1, r2⟩ := rrC_cells h9.re; go_simp⟩) SZ.out ?_
  try simp only [Act.put, List.getElem_toArray, List.getElem_cons_zero, List.getElem_cons_succ, List.setIfInBounds_toArray, List.set_cons_zero, List.set_cons_succ]
  refine wpAnyH_take (i := 3) (v := .pointer (some ⟨B, 1, none⟩)) rfl (by kernel_rfl) (by kernel_rfl) (by kernel_rfl) (fun _ _ _ h => h) (Yields.yieldsIf (Or.inl ⟨by rfl, fun w => by go_simp⟩)) SZ.out ?_
  try simp only [Act.put, List.getElem_toArray, List.getElem_cons_zero, List.getElem_cons_succ, List.setIfInBounds_toArray, List.set_cons_zero, List.set_cons_succ]
  refine wpAnyH_take (i := 4) (v := .int .i64 (t : Int)) rfl (by kernel_rfl) (by kernel_rfl) (by kernel_rfl) (fun _ _ _ h => h) (Or.inl ⟨by rfl, fun w9 h9 => by obtain ⟨c0, c1, c2, c3⟩ := rgC_cells h9.rg; obtain ⟨r0, r1, r2⟩ := rrC_cells h9.re; go_simp⟩) SZ.out ?_
  try simp only [Act.put, List.getElem_toArray, List.getElem_cons_zero, List.getElem_cons_succ, List.setIfInBounds_toArray, List.set_cons_zero, List.set_cons_succ]
  refine wpAnyH_take (i := 6) (v := .pointer (some ⟨B, 0, none⟩)) rfl (by kernel_rfl) (by kernel_rfl) (by kernel_rfl) (fun _ _ _ h => h) (Yields.yieldsIf (Or.inl ⟨by rfl, fun w => by go_simp⟩)) SZ.out ?_
  try simp only [Act.put, List.getElem_toArray, List.getElem_cons_zero, List.getElem_cons_succ, List.setIfInBounds_toArray, List.set_cons_zero, List.set_cons_succ]
  refine wpAnyH_take (i := 7) (v := .int .i64 (f : Int)) rfl (by kernel_rfl) (by kernel_rfl) (by kernel_rfl) (fun _ _ _ h => h) (Or.inl ⟨by rfl, fun w9 h9 => by obtain ⟨c0, c1, c2, c3⟩ := rgC_cells h9.rg; obtain ⟨r0, r1, r2⟩ := rrC_cells h9.re; go_simp⟩) SZ.out ?_
  try simp only [Act.put, List.getElem_toArray, List.getElem_cons_zero, List.getElem_cons_succ, List.setIfInBounds_toArray, List.set_cons_zero, List.set_cons_succ]
  refine wpAnyH_take (i := 8) (v := .agg #[.bool set, .bool lin, .slice xp xn xc]) rfl (by kernel_rfl) (by kernel_rfl) (by kernel_rfl) (fun _ _ _ h => h) (Or.inl ⟨by rfl, fun w9 h9 => by obtain ⟨c0, c1, c2, c3⟩ := rgC_cells h9.rg; obtain ⟨r0, r1, r2⟩ := rrC_cells h9.re; go_simp⟩) SZ.out ?_
  try simp only [Act.put, List.getElem_toArray, List.getElem_cons_zero, List.getElem_cons_succ, List.setIfInBounds_toArray, List.set_cons_zero, List.set_cons_succ]
  refine wpAnyH_take (i := 9) (v := .int .i64 how) rfl (by kernel_rfl) (by kernel_rfl) (by kernel_rfl) (fun _ _ _ h => h) (Yields.yieldsIf (Or.inl ⟨by rfl, fun w => by go_simp⟩)) SZ.out ?_
  try simp only [Act.put, List.getElem_toArray, List.getElem_cons_zero, List.getElem_cons_succ, List.setIfInBounds_toArray, List.set_cons_zero, List.set_cons_succ]
  refine wpAnyH_all (rs := [5]) (by kernel_rfl) (by simp) (AllH.cons rfl (fun K hK => ?_) AllH.nil)
  go_simp
  refine (CX.out V0 B0.out).mono ?_
  rintro e9 V1 ⟨eo, ec, F, rfl, hF, hE, hbx⟩
  obtain ⟨en, hen⟩ : ∃ en, F.length = en := ⟨_, rfl⟩
  have HEN := Hid.mk' hen
  rw [hen]
  have HF := Hid.mk' hF
  have E9 := Hid.mk' hE
  have SV1 := Hid.mk' (SZ.out.keep hbx)
  have JV1 := Hid.mk' (JZ.out.keep hbx)
  have BV1 := Hid.mk' (bT B0.out hbx)
  clear hbx hF hE hen CX
  dsimp only
  refine hK _ _ ⟨SV1.out, ?_⟩
  clear hK K
  try simp only [Act.put, List.getElem_toArray, List.getElem_cons_zero, List.getElem_cons_succ, List.setIfInBounds_toArray, List.set_cons_zero, List.set_cons_succ]
  refine wpAnyH_take (i := 10) (v := .agg #[.slice eo en ec, .int .i64 (f : Int), .bool set, .bool lin, .slice xp xn xc, .int .i64 how, .bool true]) rfl (by kernel_rfl) (by kernel_rfl) (by kernel_rfl) (fun _ _ _ h => h) (Yields.yieldsIf (Or.inl ⟨by rfl, fun w => by go_simp⟩)) SV1.out ?_
  try simp only [Act.put, List.getElem_toArray, List.getElem_cons_zero, List.getElem_cons_succ, List.setIfInBounds_toArray, List.set_cons_zero, List.set_cons_succ]
  refine wpAnyH_all (rs := [11]) (by kernel_rfl) (by simp) (AllH.cons rfl (fun K hK => ?_) AllH.nil)
  obtain ⟨j0, j1, j2, j3, j4, j5, j6⟩ := ef_cells JV1.out
  obtain ⟨f0, f1, f2, f3, f4, f5, f6⟩ := ef_frozen JV1.out
  have hbk := ef_store JV1.out (.slice eo en ec) (.int .i64 (f : Int)) (.bool set) (.bool lin) (.slice xp xn xc) (.int .i64 how) (.bool true)
  have hgr := ef_grown V1 (B + 2) (.slice eo en ec) (.int .i64 (f : Int)) (.bool set) (.bool lin) (.slice xp xn xc) (.int .i64 how) (.bool true)
  go_simp
  generalize (((((((V1.setCell ⟨B + 2, 0, none⟩ (.slice eo en ec)).setCell ⟨B + 2, 1, none⟩ (.int .i64 (f : Int))).setCell ⟨B + 2, 2, none⟩ (.bool set)).setCell ⟨B + 2, 3, none⟩ (.bool lin)).setCell ⟨B + 2, 4, none⟩ (.slice xp xn xc)).setCell ⟨B + 2, 5, none⟩ (.int .i64 how)).setCell ⟨B + 2, 6, none⟩ (.bool true)) = w9 at *
  have S9 : Hid (Rgs w9 B (f : Int) (t : Int) false D set lin (.slice xp xn xc)) := SV1.out.off hgr
  have J9 := Hid.mk' hbk
  have G9 := Hid.mk' hgr
  clear hbk hgr j0 j1 j2 j3 j4 j5 j6 f0 f1 f2 f3 f4 f5 f6
  refine hK _ _ ⟨S9.out, ?_⟩
  clear hK K
  try simp only [Act.put, List.getElem_toArray, List.getElem_cons_zero, List.getElem_cons_succ, List.setIfInBounds_toArray, List.set_cons_zero, List.set_cons_succ]
  refine wpAnyH_done (by kernel_rfl) ?_ _
  go_wp2_with fail
  obtain ⟨g0, g1, g2, g3, g4, g5, g6⟩ := ef_cells J9.out
  refine bodyPost_ret (v := .agg #[.slice eo en ec, .int .i64 (f : Int), .bool set, .bool lin, .slice xp xn xc, .int .i64 how, .bool true]) (by simp [results, Tryz.results31, go_sem, g0, g1, g2, g3, g4, g5, g6]) rfl ?_
  obtain rfl := HEN.out
  obtain rfl := HXN.out
  exact ⟨_, F, _, rfl, efr_out (x := ⟨sw l f t [], (f : Int), set, lin, X, how, true⟩) HF.out E9.out (HX1.out.keep BV1.out) JV1.out G9.out, (bT L1.out BV1.out).grown G9.out (bT L1.out BV1.out).size (fun g hg => by injection hg with hg; have := HB.out; omega)⟩
end Go.Proofs.YtppefcnopkmhbaaGreatDoor

namespace Go.Proofs.YtppefcnopkmhbaaGreatDoor
open Go.RowKit

set_option maxRecDepth 8000
theorem nl_lf {l : List UInt8} {i : Nat} (h : i + 1 ≤ nl l) : nl (l.take (sp l (i + 1))) = i + 1 := (sp_st h).num
theorem isW_no {l : List UInt8} {a b F T : Int} {L D : Bool} (h : ¬ (0 ≤ a ∧ a ≤ b ∧ b ≤ nl l)) : isW l a b F T L D = false := by
  have e : wh l a b = rno := wh_no (by
    cases e : (lnB l a && lnB l b && decide (a ≤ b)) with
    | false => rfl
    | true =>
      simp only [lnB, Bool.and_eq_true, decide_eq_true_eq] at e
      exact absurd ⟨e.1.1.1, e.2, e.1.2.2⟩ h)
  unfold isW
  rw [e]
  rfl
theorem isW_rg {l : List UInt8} {a b F T : Int} {L D : Bool} (h : isW l a b F T L D = true) : 0 ≤ a ∧ a ≤ b ∧ b ≤ nl l := by
  by_cases h1 : 0 ≤ a ∧ a ≤ b ∧ b ≤ nl l
  · exact h1
  · rw [isW_no h1] at h; cases h
theorem isW_mid {l : List UInt8} {a b : Nat} {F T : Int} {L D : Bool} (hab : a ≤ b) (hb : b + 1 ≤ nl l) (h : isW l a b F T L D = true) : F = (sp l a : Int) ∧ T = (sp l (b + 1) : Int) ∧ D = false := by
  obtain ⟨h1, h2⟩ := sp_next hb
  unfold isW at h
  rw [wh_yes (by omega) (by omega) hab] at h
  unfold whY at h
  rw [if_pos h1] at h
  simp at h
  obtain ⟨h3, h4, h5, h6⟩ := h
  refine ⟨h3.symm, by omega, h6⟩
theorem isW_end {l : List UInt8} {a : Nat} {F T : Int} {L D : Bool} (ha : a ≤ nl l) (h : isW l a (nl l) F T L D = true) : T = (l.length : Int) ∧ ((0 < sp l a ∧ D = true) ∨ (sp l a = 0 ∧ F = 0 ∧ D = false)) := by
  unfold isW at h
  rw [wh_yes ha (Nat.le_refl _) ha, en_last] at h
  unfold whY at h
  rw [if_neg (Nat.lt_irrefl _)] at h
  by_cases h0 : 0 < sp l a
  · rw [if_pos h0] at h
    simp at h
    exact ⟨h.2.1.symm, .inl ⟨h0, h.2.2.2⟩⟩
  · rw [if_neg h0] at h
    simp at h
    exact ⟨h.2.1.symm, .inr ⟨by omega, by omega, h.2.2.2⟩⟩
theorem sp_pos {l : List UInt8} {a : Nat} (h : a + 1 ≤ nl l) : 0 < sp l (a + 1) := by
  have := (sp_next h).2
  omega
/-- the three tries, the first and the last behind each -/
def tr1 (l : List UInt8) (F T : Int) (L D : Bool) (f b : Nat) : Int × Int × Bool := if isW l (f : Int) ((b : Int) - 1) F T L D then ((f : Int), (b : Int) - 1, true) else (0, 0, false)
def tr2 (l : List UInt8) (F T : Int) (L D : Bool) (f : Nat) (h : Int) (s : Int × Int × Bool) : Int × Int × Bool := if isW l (f : Int) (nl l : Int) F T L D && (!s.2.2 || decide (s.2.1 < h)) then ((f : Int), (nl l : Int), true) else s
/-- a range's lines, by the reference -/
def lnR (l : List UInt8) (at' : Nat) (F T : Int) (L D : Bool) : Int × Int × Bool :=
  if F < 0 ∨ T < F ∨ (l.length : Int) < T then (0, 0, false)
  else if L = false then ((nl (l.take F.toNat) : Int), (nl (l.take (max F (T - 1)).toNat) : Int), true)
  else tr2 l F T L D 0 (nl (l.take at') : Int) (tr2 l F T L D (nl (l.take F.toNat) + 1) (nl (l.take at') : Int) (tr1 l F T L D (nl (l.take F.toNat)) (nl (l.take T.toNat))))
theorem lnR_eq (l : List UInt8) (at' : Nat) (F T : Int) (L D : Bool) : lnR l at' F T L D = if (lnO l at' F T L D).2.2 then lnO l at' F T L D else (0, 0, false) := by
  unfold lnR lnO
  by_cases h0 : F < 0 ∨ T < F ∨ (l.length : Int) < T
  · rw [if_pos h0, if_pos h0]; rfl
  rw [if_neg h0, if_neg h0]
  cases L with
  | false => rw [if_pos rfl, if_pos rfl]; rfl
  | true =>
    simp only [Bool.true_eq_false, if_false]
    obtain ⟨f, rfl⟩ := Int.eq_ofNat_of_zero_le (show 0 ≤ F by omega)
    obtain ⟨t, rfl⟩ := Int.eq_ofNat_of_zero_le (show 0 ≤ T by omega)
    have hf : f ≤ l.length := by omega
    have ht : t ≤ l.length := by omega
    rw [show (f : Int).toNat = f from rfl, show (t : Int).toNat = t from rfl]
    have hb := nl_take_le l t
    have ha := nl_take_le l f
    have hlast : t = l.length → nl (l.take t) = nl l := fun e => by rw [e, List.take_length]
    have hsp : ∀ k : Nat, k + 1 ≤ nl l → (t : Int) = (sp l (k + 1) : Int) → nl (l.take t) = k + 1 := fun k hk e => by
      rw [show t = sp l (k + 1) by omega]; exact nl_lf hk
    have hz : f = 0 → nl (l.take f) = 0 := fun e => by rw [e]; rfl
    obtain ⟨b, hbe⟩ : ∃ b, nl (l.take t) = b := ⟨_, rfl⟩
    obtain ⟨a, hae⟩ : ∃ a, nl (l.take f) = a := ⟨_, rfl⟩
    rw [hbe] at hb hlast hsp ⊢
    rw [hae] at ha hz ⊢
    generalize (nl (l.take at') : Int) = h at *
    cases D with
    | false =>
      have e2 : isW l ((a + 1 : Nat) : Int) (nl l : Int) f t true false = false := by
        by_cases hx : a + 1 ≤ nl l
        · cases e : isW l ((a + 1 : Nat) : Int) (nl l : Int) f t true false with
          | false => rfl
          | true => rcases (isW_end hx e).2 with ⟨_, h2⟩ | ⟨h2, _⟩
                    · cases h2
                    · have := sp_pos hx; omega
        · exact isW_no (by omega)
      have e3 : isW l (a : Int) (b : Int) f t true false = isW l ((0 : Nat) : Int) (nl l : Int) f t true false ∧ (isW l ((0 : Nat) : Int) (nl l : Int) f t true false = true → a = 0 ∧ b = nl l) := by
        have k1 : isW l ((0 : Nat) : Int) (nl l : Int) f t true false = true → a = 0 ∧ b = nl l := fun e => by
          have h1 := isW_end (Nat.zero_le _) e
          rcases h1.2 with ⟨h2, _⟩ | ⟨_, h2, _⟩
          · rw [sp_zero] at h2; omega
          · exact ⟨hz (by omega), hlast (by have := h1.1; omega)⟩
        have k2 : isW l (a : Int) (b : Int) f t true false = true → a = 0 ∧ b = nl l := fun e => by
          have hab := isW_rg e
          by_cases hbn : b + 1 ≤ nl l
          · have h1 := isW_mid (by omega) hbn e
            have := hsp b hbn h1.2.1
            omega
          · obtain rfl : b = nl l := by omega
            have h1 := isW_end (by omega) e
            rcases h1.2 with ⟨_, h2⟩ | ⟨_, h2, _⟩
            · cases h2
            · exact ⟨hz (by omega), rfl⟩
        refine ⟨?_, k1⟩
        cases e : isW l (a : Int) (b : Int) f t true false with
        | true => obtain ⟨rfl, rfl⟩ := k2 e; exact e.symm
        | false =>
          cases e' : isW l ((0 : Nat) : Int) (nl l : Int) f t true false with
          | false => rfl
          | true => obtain ⟨rfl, rfl⟩ := k1 e'; rw [e'] at e; cases e
      unfold tr1 tr2
      rw [e2]
      simp only [Bool.false_and, Bool.false_eq_true, if_false, Int.add_zero]
      rw [e3.1]
      cases m3 : isW l ((0 : Nat) : Int) (nl l : Int) f t true false with
      | false =>
        cases m1 : isW l (a : Int) ((b : Int) - 1) f t true false <;> simp
      | true =>
        obtain ⟨rfl, rfl⟩ := e3.2 m3
        cases m1 : isW l ((0 : Nat) : Int) ((nl l : Int) - 1) f t true false with
        | false => simp
        | true =>
          by_cases hh : h < (nl l : Int)
          · have hx : ¬ ((nl l : Int) - 1 < h) := by omega
            simp [hh, hx]
          · have hx : ((nl l : Int) - 1 < h) := by omega
            simp [hh, hx]
    | true =>
      have e1 : ∀ c : Int, isW l c ((b : Int) - 1) f t true true = false := fun c => by
        cases e : isW l c ((b : Int) - 1) f t true true with
        | false => rfl
        | true =>
          have hab := isW_rg e
          obtain ⟨c, rfl⟩ := Int.eq_ofNat_of_zero_le hab.1
          obtain ⟨d, hd⟩ := Int.eq_ofNat_of_zero_le (show 0 ≤ (b : Int) - 1 by omega)
          rw [hd] at e
          have h1 := isW_mid (by omega) (by omega) e
          cases h1.2.2
      have e3 : isW l ((0 : Nat) : Int) (nl l : Int) f t true true = false := by
        cases e : isW l ((0 : Nat) : Int) (nl l : Int) f t true true with
        | false => rfl
        | true =>
          rcases (isW_end (Nat.zero_le _) e).2 with ⟨h2, _⟩ | ⟨_, _, h2⟩
          · rw [sp_zero] at h2; omega
          · cases h2
      have e2 : isW l ((a : Int) + 1) (b : Int) f t true true = isW l ((a + 1 : Nat) : Int) (nl l : Int) f t true true ∧ (isW l ((a + 1 : Nat) : Int) (nl l : Int) f t true true = true → b = nl l) := by
        have k1 : isW l ((a + 1 : Nat) : Int) (nl l : Int) f t true true = true → b = nl l := fun e => by
          have h0 := isW_rg e
          exact hlast (by have := (isW_end (by omega) e).1; omega)
        have k2 : isW l ((a + 1 : Nat) : Int) (b : Int) f t true true = true → b = nl l := fun e => by
          have hab := isW_rg e
          by_cases hbn : b + 1 ≤ nl l
          · have h1 := isW_mid (by omega) hbn e
            cases h1.2.2
          · omega
        refine ⟨?_, k1⟩
        rw [show (a : Int) + 1 = ((a + 1 : Nat) : Int) by omega]
        cases e : isW l ((a + 1 : Nat) : Int) (b : Int) f t true true with
        | true => obtain rfl := k2 e; exact e.symm
        | false =>
          cases e' : isW l ((a + 1 : Nat) : Int) (nl l : Int) f t true true with
          | false => rfl
          | true => obtain rfl := k1 e'; rw [e'] at e; cases e
      unfold tr1 tr2
      simp only [e1, e3, Bool.false_and, Bool.false_eq_true, if_false, if_true]
      rw [e2.1]
      cases m2 : isW l ((a + 1 : Nat) : Int) (nl l : Int) f t true true with
      | false => simp
      | true =>
        obtain rfl := e2.2 m2
        simp
end Go.Proofs.YtppefcnopkmhbaaGreatDoor
