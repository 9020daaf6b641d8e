/- OperShifts, walked. -/
import Derived.Test.YtppefcnopkmhbaaDoorKPsi
import Derived.Test.YtppefcnopkmhbaaDoorKObw
import Derived.Test.YtppefcnopkmhbaaDoorPa02
namespace Go.Proofs.YtppefcnopkmhbaaDoor
open Go.RowKit

set_option maxRecDepth 8000
theorem add9_tab (x : List UInt8) (h : x.length ≤ 1000000) (W : World) : (binOp .add 9 (.string ⟨#[9]⟩) (.string ⟨x.toArray⟩)).run Tryd.prog W = .ok (.string ⟨(9 :: x).toArray⟩) W := by
  have h1 : ByteArray.size ⟨x.toArray⟩ = x.length := by simp [ByteArray.size]
  have h2 : ByteArray.size ⟨#[9]⟩ = 1 := rfl
  have h3 : (⟨#[9]⟩ : ByteArray) ++ ⟨x.toArray⟩ = ⟨(9 :: x).toArray⟩ := by
    apply ByteArray.ext
    rw [ByteArray.data_append]
    simp
  simp only [binOp, Op.stringOp]
  simp
  rw [if_neg (by rw [h1, h2]; omega), h3]
def tb (k : Nat) (x : List UInt8) : List UInt8 := rp [9] k ++ x
theorem tb_add (k : Nat) (x : List UInt8) (hk : k ≤ 9) (hx : x.length ≤ 4096) (W : World) : (binOp .add 9 (.string ⟨#[9]⟩) (.string ⟨(tb k x).toArray⟩)).run Tryd.prog W = .ok (.string ⟨(tb (k + 1) x).toArray⟩) W := add9_tab (tb k x) (by unfold tb; rw [List.length_append, rp9_len]; omega) W
section
variable {ops : Array Oper} {rest : List Oper} {op : Oper} {a : Act} {w : World} {Q : Exit → Act → World → Prop}
theorem wl_run (v : Value) (hw : Region.wanted op (yielded ops a.tmps) = true) (hr : (execOp a.eval op).run Tryd.prog w = .ok (.value v) w) (h : wpList Tryd.prog ops Q rest (a.put op.dst v) w) : wpList Tryd.prog ops Q (op :: rest) a w := by
  simp only [wpList, hw, if_true]
  refine .inl ?_
  unfold Oper.wp
  rw [hr]
  exact h
theorem ex_addt {x y z : Value} (p q : Operand) (t : TypeId) (ho : op.op = .binOp .add 9 p q t) (hx : a.eval p = x) (hy : a.eval q = y) (h : (binOp .add 9 x y).run Tryd.prog w = .ok z w) : (execOp a.eval op).run Tryd.prog w = .ok (.value z) w := by
  subst hx hy
  simp only [execOp, ho, eqGuard]
  simp [h]
end
theorem er_len {F : List Er} {D : List Ed} {en : Nat} (h : F.map Er.d = D) (he : F.length = en) : en = D.length := by rw [← h, List.length_map, he]
set_option maxHeartbeats 32000000 in
set_option linter.unusedSimpArgs false in
theorem operShifts_walk (ao : Option Addr) (n c : Nat) (l : List UInt8) (i1 i2 : Int) (L : Bool) (i3 : Int) (W : World) (HT : Tx W ao n c l) (h11 : -9223372036854775808 ≤ i1) (h12 : i1 ≤ 9223372036854775807) (h21 : -9223372036854775808 ≤ i2) (h22 : i2 ≤ 9223372036854775807) (h31 : -9223372036854775808 ≤ i3) (h32 : i3 ≤ 9223372036854775807) (hn0 : n ≤ 281474976710656) :
    Calls Tryd.prog 5 #[.slice ao n c, .agg #[.int .i64 i1, .int .i64 i2, .bool L], .int .i64 i3] W fun e w' => e = .returned (.bool true) ∧ Below W.heap.size W w' := by
  have hln := HT.len
  obtain ⟨W0, hW0⟩ : ∃ x, W.alloc (.cells #[.int .i64 i1, .int .i64 i2, .bool L] 24) = x := ⟨_, rfl⟩
  obtain ⟨qc, hqc⟩ : ∃ q, W.heap.size = q := ⟨_, rfl⟩
  have hb0 : Below W.heap.size W W0 := by rw [← hW0]; exact bAlloc (Below.refl _ _) _
  have KC : Hid (Blk W0 qc 24 (cutC i1 i2 L)) := by unfold Hid; rw [← hW0, ← hqc]; exact Blk.new W 24 _
  have CA := Hid.mk' (awake_any W0)
  have TT := Hid.mk' (HT.keep hb0)
  have BB := Hid.mk' hb0
  clear HT hb0
  go_enter Tryd.func5, Tryd.ntmps5
  go_upto_region 1 with fail
  clear hW0 hqc
  go_upto_region 3 with (first | (go_at_call 6; refine CA.out.mono ?_; rintro e w1 ⟨rfl, hb⟩) | fail)
  clear CA
  have TT_ := Hid.mk' (TT.out.keep hb)
  clear TT
  have TT := TT_
  clear TT_
  have BB_ := Hid.mk' (bT BB.out hb)
  clear BB
  have BB := BB_
  clear BB_
  have KC_ := Hid.mk' (KC.out.keep hb)
  clear KC
  have KC := KC_
  clear KC_
  clear hb
  by_cases hbig : (4096 : Int) < (n : Int)
  · go_wp2
    go_ret
    exact ⟨rfl, BB.out⟩
  have hn : n ≤ 4096 := by omega
  clear hn0
  have hkp := (plc_lt i3 (n := 9) (by omega)).1
  have P3 := Hid.mk' (fun W9 => place_any i3 9 W9 (by omega) h31 h32 (by omega))
  generalize plc i3 9 = kp at *
  obtain ⟨k, hk⟩ : ∃ k, kp + 1 = k := ⟨_, rfl⟩
  have hk1 : 1 ≤ k := by omega
  have hk9 : k ≤ 9 := by omega
  have hwk : IntKind.i64.wrap ((kp : Int) + 1) = (k : Int) := by rw [IntKind.wrap_i64]; omega
  clear h31 h32
  have CC := Hid.mk' (count_any ao n c l w1 TT.out)
  go_wp2_with fail
  refine CC.out.mono ?_
  rintro e w2 ⟨rfl, hb⟩
  clear CC
  have TT_ := Hid.mk' (TT.out.keep hb)
  clear TT
  have TT := TT_
  clear TT_
  have BB_ := Hid.mk' (bT BB.out hb)
  clear BB
  have BB := BB_
  clear BB_
  have KC_ := Hid.mk' (KC.out.keep hb)
  clear KC
  have KC := KC_
  clear KC_
  clear hb
  go_wp2_with fail
  refine (P3.out _).mono ?_
  rintro e w' ⟨rfl, hw⟩
  have hq := hw.symm
  subst hq
  clear hw P3
  go_upto_region 6 with fail
  clear hwk
  obtain ⟨k0, k1, k2⟩ := cut_cells KC.out
  have hnl8 := nl_le l
  clear k0 k1 k2
  have P1 := Hid.mk' (fun W9 => place_any i1 (nl l + 1) W9 (by omega) h11 h12 (by omega))
  have P2 := Hid.mk' (fun W9 => place_any i2 (nl l + 1) W9 (by omega) h21 h22 (by omega))
  have hp1 := (plc_lt i1 (n := nl l + 1) (by omega)).1
  have hp2 := (plc_lt i2 (n := nl l + 1) (by omega)).1
  generalize plc i1 (nl l + 1) = pa at *
  generalize plc i2 (nl l + 1) = pb at *
  rw [show ((nl l + 1 : Nat) : Int) = (nl l : Int) + 1 from rfl] at P1 P2
  clear h11 h12 h21 h22
  have SZ : Hid (Blk w2.drew qc 24 (cutC i1 i2 L)) := KC.out
  have TT4 : Hid (Tx w2.drew ao n c l) := TT.out.keep (Below.refl _ _).drew
  have BB4 : Hid (Below W.heap.size W w2.drew) := BB.out.drew
  clear KC TT BB
  refine wp_region_held (S := fun w' => Blk w' qc 24 (cutC i1 i2 L)) (by kernel_rfl) ?_
  change wpAnyH _ _ _ _ _ _ _ _ (World.drew _)
  generalize w2.drew = w3 at *
  refine wpAnyH_take (i := 0) (v := .pointer (some ⟨qc, 0, none⟩)) rfl (by kernel_rfl) (by kernel_rfl) (by kernel_rfl) (fun _ _ _ h => h) (Yields.yieldsIf (Or.inl ⟨by rfl, fun w => by go_simp⟩)) SZ.out ?_
  try simp only [Act.put, List.getElem_toArray, List.getElem_cons_zero, List.getElem_cons_succ, List.setIfInBounds_toArray, List.set_cons_zero, List.set_cons_succ]
  refine wpAnyH_take (i := 1) (v := .int .i64 i1) rfl (by kernel_rfl) (by kernel_rfl) (by kernel_rfl) (fun _ _ _ h => h) (Or.inl ⟨by rfl, fun w9 h9 => by obtain ⟨y0, y1, y2⟩ := cut_cells h9; go_simp⟩) SZ.out ?_
  try simp only [Act.put, List.getElem_toArray, List.getElem_cons_zero, List.getElem_cons_succ, List.setIfInBounds_toArray, List.set_cons_zero, List.set_cons_succ]
  refine wpAnyH_take (i := 2) (v := .int .i64 ((nl l : Int) + 1)) rfl (by kernel_rfl) (by kernel_rfl) (by kernel_rfl) (fun _ _ _ h => h) (Yields.yieldsIf (Or.inl ⟨by rfl, fun w => by go_simp⟩)) SZ.out ?_
  try simp only [Act.put, List.getElem_toArray, List.getElem_cons_zero, List.getElem_cons_succ, List.setIfInBounds_toArray, List.set_cons_zero, List.set_cons_succ]
  refine wpAnyH_take (i := 4) (v := .pointer (some ⟨qc, 1, none⟩)) rfl (by kernel_rfl) (by kernel_rfl) (by kernel_rfl) (fun _ _ _ h => h) (Yields.yieldsIf (Or.inl ⟨by rfl, fun w => by go_simp⟩)) SZ.out ?_
  try simp only [Act.put, List.getElem_toArray, List.getElem_cons_zero, List.getElem_cons_succ, List.setIfInBounds_toArray, List.set_cons_zero, List.set_cons_succ]
  refine wpAnyH_take (i := 5) (v := .int .i64 i2) rfl (by kernel_rfl) (by kernel_rfl) (by kernel_rfl) (fun _ _ _ h => h) (Or.inl ⟨by rfl, fun w9 h9 => by obtain ⟨y0, y1, y2⟩ := cut_cells h9; go_simp⟩) SZ.out ?_
  try simp only [Act.put, List.getElem_toArray, List.getElem_cons_zero, List.getElem_cons_succ, List.setIfInBounds_toArray, List.set_cons_zero, List.set_cons_succ]
  refine wpAnyH_take (i := 6) (v := .int .i64 ((nl l : Int) + 1)) rfl (by kernel_rfl) (by kernel_rfl) (by kernel_rfl) (fun _ _ _ h => h) (Yields.yieldsIf (Or.inl ⟨by rfl, fun w => by go_simp⟩)) SZ.out ?_
  try simp only [Act.put, List.getElem_toArray, List.getElem_cons_zero, List.getElem_cons_succ, List.setIfInBounds_toArray, List.set_cons_zero, List.set_cons_succ]
  refine wpAnyH_all (rs := [3]) (by kernel_rfl) (by simp) (AllH.cons rfl (fun K hK => ?_) AllH.nil)
  go_simp
  refine (P1.out _).mono ?_
  rintro e w' ⟨rfl, hw⟩
  have hq := hw.symm
  subst hq
  clear hw
  dsimp only
  refine hK _ _ ⟨SZ.out, ?_⟩
  clear hK K
  try simp only [Act.put, List.getElem_toArray, List.getElem_cons_zero, List.getElem_cons_succ, List.setIfInBounds_toArray, List.set_cons_zero, List.set_cons_succ]
  refine wpAnyH_all (rs := [7]) (by kernel_rfl) (by simp) (AllH.cons rfl (fun K hK => ?_) AllH.nil)
  go_simp
  refine (P2.out _).mono ?_
  rintro e w' ⟨rfl, hw⟩
  have hq := hw.symm
  subst hq
  clear hw
  dsimp only
  refine hK _ _ ⟨SZ.out, ?_⟩
  clear hK K
  try simp only [Act.put, List.getElem_toArray, List.getElem_cons_zero, List.getElem_cons_succ, List.setIfInBounds_toArray, List.set_cons_zero, List.set_cons_succ]
  refine wpAnyH_take (i := 8) (v := .int .i64 (pa : Int)) rfl (by kernel_rfl) (by kernel_rfl) (by kernel_rfl) (fun _ _ _ h => h) (Yields.yieldsIf (Or.inl ⟨by rfl, fun w => by go_simp⟩)) SZ.out ?_
  try simp only [Act.put, List.getElem_toArray, List.getElem_cons_zero, List.getElem_cons_succ, List.setIfInBounds_toArray, List.set_cons_zero, List.set_cons_succ]
  refine wpAnyH_take (i := 9) (v := .int .i64 (pb : Int)) rfl (by kernel_rfl) (by kernel_rfl) (by kernel_rfl) (fun _ _ _ h => h) (Yields.yieldsIf (Or.inl ⟨by rfl, fun w => by go_simp⟩)) SZ.out ?_
  try simp only [Act.put, List.getElem_toArray, List.getElem_cons_zero, List.getElem_cons_succ, List.setIfInBounds_toArray, List.set_cons_zero, List.set_cons_succ]
  refine wpAnyH_done (by kernel_rfl) ?_ _
  obtain ⟨a, hf⟩ : ∃ a, min pa pb = a := ⟨_, rfl⟩
  obtain ⟨b, ht⟩ : ∃ b, max pa pb = b := ⟨_, rfl⟩
  have hmin : min (pa : Int) (pb : Int) = (a : Int) := by omega
  have hmax : max (pa : Int) (pb : Int) = (b : Int) := by omega
  have hab : a ≤ b := by omega
  have hpt : b < nl l + 1 := by omega
  clear hf ht hp1 hp2
  have hbn : b ≤ nl l := by omega
  have hnl9 := nl_le l
  rw [TT4.out.len] at hnl9
  clear P1 P2 hpt
  go_upto_region 8 with fail
  clear hmin hmax
  obtain ⟨p, hp⟩ : ∃ p, sp l a = p := ⟨_, rfl⟩
  have hpn : p ≤ n := by rw [← hp, ← TT4.out.len]; exact sp_le (by omega)
  have C0 := start_call (i := a) TT4.out (by omega) (by omega)
  rw [if_pos (by omega), if_pos (by omega), hp] at C0
  have CS := Hid.mk' C0
  clear C0
  go_upto_region 9 with (first | (go_at_call 13; refine CS.out.mono ?_; rintro e w' ⟨rfl, hw⟩; have hq := hw.symm; subst hq; clear hw) | fail)
  clear CS
  obtain ⟨f, t, D, hwh, hft, htl⟩ := wh_rg hab hbn
  have C0 := whole_any ao n c (a : Int) (b : Int) l w3 (by omega) (by omega) TT4.out
  rw [hwh] at C0
  unfold rt at C0
  have CW := Hid.mk' C0
  clear C0
  go_wp2_with fail
  refine CW.out.mono ?_
  rintro e w4 ⟨rfl, hb⟩
  clear CW
  have TT4_ := Hid.mk' (TT4.out.keep hb)
  clear TT4
  have TT4 := TT4_
  clear TT4_
  have BB4_ := Hid.mk' (bT BB4.out hb)
  clear BB4
  have BB4 := BB4_
  clear BB4_
  clear hb
  dsimp only
  go_upto_region 10 with fail
  obtain ⟨qr, hqr⟩ : ∃ q, w4.heap.size = q := ⟨_, rfl⟩
  have hbx : Below w4.heap.size w4 (w4.alloc (.cells #[.int .i64 (f : Int), .int .i64 (t : Int), .bool true, .bool D] 37)) := bAlloc (Below.refl _ _) _
  have KR : Hid (Blk (w4.alloc (.cells #[.int .i64 (f : Int), .int .i64 (t : Int), .bool true, .bool D] 37)) qr 37 #[.int .i64 (f : Int), .int .i64 (t : Int), .bool true, .bool D]) := by unfold Hid; rw [← hqr]; exact Blk.new w4 37 _
  rw [hqr]
  generalize w4.alloc (.cells #[.int .i64 (f : Int), .int .i64 (t : Int), .bool true, .bool D] 37) = w5 at *
  clear hqr
  have TT4_ := Hid.mk' (TT4.out.keep hbx)
  clear TT4
  have TT4 := TT4_
  clear TT4_
  have BB4_ := Hid.mk' (bT BB4.out hbx)
  clear BB4
  have BB4 := BB4_
  clear BB4_
  clear hbx
  obtain ⟨r0, r1, r2, r3⟩ := rgC_cells KR.out
  obtain ⟨hl1, hl2⟩ := lst_le hab hbn
  have hdo := do_shI hab hbn hk1 (by omega : k ≤ 9999) hwh
  rw [hp] at hdo
  obtain ⟨DD, hDD, hDl, hDn⟩ := shf_in hk9 (l := l) (by rw [TT4.out.len]; exact hn) (lst l a b + 1 - a) a 0 (by omega) (fun _ => ⟨Int.le_refl _, by omega⟩)
  rw [hDD] at hdo
  obtain ⟨U, hU1, hU2, hSH⟩ := sh_fore (k := k) hab hbn hDD
  have HSH := Hid.mk' hSH
  have hUl : U.length ≤ 40969 := by
    have hap : app l DD = some U := by
      unfold apU at hU1; unfold apE at hU2
      cases e : app l DD with
      | none => rw [e] at hU2; cases hU2
      | some X => rw [e] at hU1; exact congrArg some hU1
    have := app_len hap
    have := TT4.out.len
    omega
  have hLST : (lst l a b + 1 - a) ≤ 4097 := by omega
  have C0 := do_any ao n c l (p : Int) ⟨#[62]⟩ (f : Int) (t : Int) true D (k : Int) w5 TT4.out (by omega)
  rw [hdo] at C0
  unfold shX at C0
  dsimp only at C0
  generalize fbh l (DD.take 1) a = cur at C0
  clear hdo hDD hwh
  have CD := Hid.mk' C0
  clear C0
  go_wp2_with fail
  refine CD.out.mono ?_
  rintro e w6 ⟨v, F, tv, rfl, hF, hM, hb⟩
  clear CD
  obtain ⟨eox, ecx, rfl, hZ, -⟩ := hM.eds.edz
  obtain ⟨tox, tcx, rfl⟩ := hM.tx.shape
  obtain ⟨enx, hen⟩ : ∃ en, F.length = en := ⟨_, rfl⟩
  rw [hen]
  try dsimp only [ef0] at hF
  have FZx := Hid.mk' hZ
  have FEx := Hid.mk' hen
  try dsimp only at hF
  have FDx := Hid.mk' hF
  have hel : enx = DD.length := er_len hF hen
  have FLx : enx ≤ 4097 := by omega
  clear hZ hen hM hF hel
  have TT4_ := Hid.mk' (TT4.out.keep hb)
  clear TT4
  have TT4 := TT4_
  clear TT4_
  have BB4_ := Hid.mk' (bT BB4.out hb)
  clear BB4
  have BB4 := BB4_
  clear BB4_
  have KR_ := Hid.mk' (KR.out.keep hb)
  clear KR
  have KR := KR_
  clear KR_
  clear hb
  unfold efV
  dsimp only [List.length_nil]
  go_upto_region 11 with fail
  obtain ⟨qx, hqx⟩ : ∃ q, w6.heap.size = q := ⟨_, rfl⟩
  have hbx : Below w6.heap.size w6 (w6.alloc (.cells #[.slice eox enx ecx, .int .i64 cur, .bool false, .bool false, .slice tox 0 tcx, .int .i64 0, .bool false] 32)) := bAlloc (Below.refl _ _) _
  have Kx : Hid (Blk (w6.alloc (.cells #[.slice eox enx ecx, .int .i64 cur, .bool false, .bool false, .slice tox 0 tcx, .int .i64 0, .bool false] 32)) qx 32 #[.slice eox enx ecx, .int .i64 cur, .bool false, .bool false, .slice tox 0 tcx, .int .i64 0, .bool false]) := by unfold Hid; rw [← hqx]; exact Blk.new w6 32 _
  rw [hqx]
  generalize w6.alloc (.cells #[.slice eox enx ecx, .int .i64 cur, .bool false, .bool false, .slice tox 0 tcx, .int .i64 0, .bool false] 32) = w7 at *
  clear hqx
  have TT4_ := Hid.mk' (TT4.out.keep hbx)
  clear TT4
  have TT4 := TT4_
  clear TT4_
  have BB4_ := Hid.mk' (bT BB4.out hbx)
  clear BB4
  have BB4 := BB4_
  clear BB4_
  have KR_ := Hid.mk' (KR.out.keep hbx)
  clear KR
  have KR := KR_
  clear KR_
  have FZx_ := Hid.mk' (FZx.out.keep hbx)
  clear FZx
  have FZx := FZx_
  clear FZx_
  clear hbx
  obtain ⟨x0, x1, x2, x3, x4, x5, x6⟩ := ef_cells Kx.out
  have C0 := apply_call (ec := ecx) (U := U) TT4.out (by omega) FZx.out FEx.out (by omega) FDx.out (by omega) ⟨hU1, hU2⟩
  have CD := Hid.mk' C0
  clear C0 hU1 hU2
  go_wp2_with fail
  refine CD.out.mono ?_
  rintro e w8 ⟨uo, uc, rfl, hT, hb⟩
  clear CD x0 x1 x2 x3 x4 x5 x6 r0 r1 r2 r3 hDl hDn FLx FEx FDx
  clear FZx Kx KR
  have TT4_ := Hid.mk' (TT4.out.keep hb)
  clear TT4
  have TT4 := TT4_
  clear TT4_
  have BB4_ := Hid.mk' (bT BB4.out hb)
  clear BB4
  have BB4 := BB4_
  clear BB4_
  obtain ⟨un, hun⟩ : ∃ un, U.length = un := ⟨_, rfl⟩
  rw [hun] at hT hUl ⊢
  have TU := Hid.mk' hT
  have HUN := Hid.mk' hun
  clear hT hb hun hSH
  go_upto_region 12 with fail
  have hbn2 : b ≤ nl U := by rw [HSH.out.n]; exact hbn
  have hnl3 := nl_le U
  rw [TU.out.len] at hnl3
  obtain ⟨f2, t2, D2, hwh, hft2, htl2⟩ := wh_rg hab hbn2
  have C0 := whole_any uo un uc (a : Int) (b : Int) U w8 (by omega) (by omega) TU.out
  rw [hwh] at C0
  unfold rt at C0
  have CW := Hid.mk' C0
  clear C0
  go_wp2_with fail
  refine CW.out.mono ?_
  rintro e w9 ⟨rfl, hb⟩
  clear CW
  have TT4_ := Hid.mk' (TT4.out.keep hb)
  clear TT4
  have TT4 := TT4_
  clear TT4_
  have BB4_ := Hid.mk' (bT BB4.out hb)
  clear BB4
  have BB4 := BB4_
  clear BB4_
  have TU_ := Hid.mk' (TU.out.keep hb)
  clear TU
  have TU := TU_
  clear TU_
  clear hb
  dsimp only
  go_upto_region 13 with fail
  obtain ⟨qs, hqs⟩ : ∃ q, w9.heap.size = q := ⟨_, rfl⟩
  have hbx : Below w9.heap.size w9 (w9.alloc (.cells #[.int .i64 (f2 : Int), .int .i64 (t2 : Int), .bool true, .bool D2] 37)) := bAlloc (Below.refl _ _) _
  have KR : Hid (Blk (w9.alloc (.cells #[.int .i64 (f2 : Int), .int .i64 (t2 : Int), .bool true, .bool D2] 37)) qs 37 #[.int .i64 (f2 : Int), .int .i64 (t2 : Int), .bool true, .bool D2]) := by unfold Hid; rw [← hqs]; exact Blk.new w9 37 _
  rw [hqs]
  generalize w9.alloc (.cells #[.int .i64 (f2 : Int), .int .i64 (t2 : Int), .bool true, .bool D2] 37) = w10 at *
  clear hqs
  have TT4_ := Hid.mk' (TT4.out.keep hbx)
  clear TT4
  have TT4 := TT4_
  clear TT4_
  have BB4_ := Hid.mk' (bT BB4.out hbx)
  clear BB4
  have BB4 := BB4_
  clear BB4_
  have TU_ := Hid.mk' (TU.out.keep hbx)
  clear TU
  have TU := TU_
  clear TU_
  clear hbx
  obtain ⟨p2, hp2⟩ : ∃ p, sp U a = p := ⟨_, rfl⟩
  have hpn2 : p2 ≤ un := by rw [← hp2, ← TU.out.len]; exact sp_le (by omega)
  have C0 := start_call (i := a) TU.out (by omega) (by omega)
  rw [if_pos (by omega), if_pos (by omega), hp2] at C0
  have CS := Hid.mk' C0
  clear C0
  go_upto_region 14 with (first | (go_at_call 13; refine CS.out.mono ?_; rintro e w' ⟨rfl, hw⟩; have hq := hw.symm; subst hq; clear hw) | fail)
  clear CS
  obtain ⟨r0, r1, r2, r3⟩ := rgC_cells KR.out
  have hdo := do_shO hab hbn2 hk1 (by omega : k ≤ 9999) hwh
  rw [hp2] at hdo
  obtain ⟨DE, hDE, hDl, hDn⟩ := shf_out (k := k) (l := U) (lst U a b + 1 - a) a 0 (Int.le_refl _)
  rw [hDE] at hdo
  have hbk := sh_back hab hbn HSH.out hDE
  have hDl2 : DE.length ≤ 4097 := by rw [HSH.out.ls] at hDl; omega
  have C0 := do_any uo un uc U (p2 : Int) ⟨#[60]⟩ (f2 : Int) (t2 : Int) true D2 (k : Int) w10 TU.out (by omega)
  rw [hdo] at C0
  unfold shX at C0
  dsimp only at C0
  generalize fbh U (DE.take 1) a = cur2 at C0
  clear hdo hDE hwh hDl
  have CD := Hid.mk' C0
  clear C0
  go_wp2_with fail
  refine CD.out.mono ?_
  rintro e w11 ⟨v, F, tv, rfl, hF, hM, hb⟩
  clear CD
  obtain ⟨eoy, ecy, rfl, hZ, -⟩ := hM.eds.edz
  obtain ⟨toy, tcy, rfl⟩ := hM.tx.shape
  obtain ⟨eny, hen⟩ : ∃ en, F.length = en := ⟨_, rfl⟩
  rw [hen]
  try dsimp only [ef0] at hF
  have FZy := Hid.mk' hZ
  have FEy := Hid.mk' hen
  try dsimp only at hF
  have FDy := Hid.mk' hF
  have hel : eny = DE.length := er_len hF hen
  have FLy : eny ≤ 4097 := by omega
  clear hZ hen hM hF hel
  have TT4_ := Hid.mk' (TT4.out.keep hb)
  clear TT4
  have TT4 := TT4_
  clear TT4_
  have BB4_ := Hid.mk' (bT BB4.out hb)
  clear BB4
  have BB4 := BB4_
  clear BB4_
  have TU_ := Hid.mk' (TU.out.keep hb)
  clear TU
  have TU := TU_
  clear TU_
  have KR_ := Hid.mk' (KR.out.keep hb)
  clear KR
  have KR := KR_
  clear KR_
  clear hb
  unfold efV
  dsimp only [List.length_nil]
  go_upto_region 15 with fail
  obtain ⟨qy, hqy⟩ : ∃ q, w11.heap.size = q := ⟨_, rfl⟩
  have hbx : Below w11.heap.size w11 (w11.alloc (.cells #[.slice eoy eny ecy, .int .i64 cur2, .bool false, .bool false, .slice toy 0 tcy, .int .i64 0, .bool false] 32)) := bAlloc (Below.refl _ _) _
  have Ky : Hid (Blk (w11.alloc (.cells #[.slice eoy eny ecy, .int .i64 cur2, .bool false, .bool false, .slice toy 0 tcy, .int .i64 0, .bool false] 32)) qy 32 #[.slice eoy eny ecy, .int .i64 cur2, .bool false, .bool false, .slice toy 0 tcy, .int .i64 0, .bool false]) := by unfold Hid; rw [← hqy]; exact Blk.new w11 32 _
  rw [hqy]
  generalize w11.alloc (.cells #[.slice eoy eny ecy, .int .i64 cur2, .bool false, .bool false, .slice toy 0 tcy, .int .i64 0, .bool false] 32) = w12 at *
  clear hqy
  have TT4_ := Hid.mk' (TT4.out.keep hbx)
  clear TT4
  have TT4 := TT4_
  clear TT4_
  have BB4_ := Hid.mk' (bT BB4.out hbx)
  clear BB4
  have BB4 := BB4_
  clear BB4_
  have TU_ := Hid.mk' (TU.out.keep hbx)
  clear TU
  have TU := TU_
  clear TU_
  have KR_ := Hid.mk' (KR.out.keep hbx)
  clear KR
  have KR := KR_
  clear KR_
  have FZy_ := Hid.mk' (FZy.out.keep hbx)
  clear FZy
  have FZy := FZy_
  clear FZy_
  clear hbx
  obtain ⟨x0, x1, x2, x3, x4, x5, x6⟩ := ef_cells Ky.out
  have C0 := apply_call (ec := ecy) (U := l) TU.out (by omega) FZy.out FEy.out (by omega) FDy.out (by omega) hbk
  rw [TT4.out.len] at C0
  have CD := Hid.mk' C0
  clear C0 hbk
  go_wp2_with fail
  refine CD.out.mono ?_
  rintro e w13 ⟨vo, vc, rfl, hT, hb⟩
  clear CD x0 x1 x2 x3 x4 x5 x6 r0 r1 r2 r3 hDl2 hDn FLy FEy FDy
  clear FZy Ky KR
  have TT4_ := Hid.mk' (TT4.out.keep hb)
  clear TT4
  have TT4 := TT4_
  clear TT4_
  have BB4_ := Hid.mk' (bT BB4.out hb)
  clear BB4
  have BB4 := BB4_
  clear BB4_
  have TU_ := Hid.mk' (TU.out.keep hb)
  clear TU
  have TU := TU_
  clear TU_
  have TV := Hid.mk' hT
  clear hT hb
  have cv := conv_tx TV.out
  have ct := conv_tx TT4.out
  have nn := ne9_no l w13
  go_upto_region 18 with fail
  clear cv ct nn
  clear TV
  have C0 := split_any ao n c l w13 (by omega) TT4.out
  have CD := Hid.mk' C0
  clear C0
  go_wp2_with fail
  refine CD.out.mono ?_
  rintro e w14 ⟨v1, D1, rfl, hR, hD⟩
  clear CD
  have hV : Ls w14 v1 (nl l + 1) (ln l) := ls_of 0 hR (fun j _ => by rw [Nat.zero_add]) hD (fun i hi => by rw [ln_length (by omega)]; have := en_le (sp_le (t := l) (n := i) (by omega)); have := TT4.out.len; omega)
  have hb := hR.bel
  have TT4_ := Hid.mk' (TT4.out.keep hb)
  clear TT4
  have TT4 := TT4_
  clear TT4_
  have BB4_ := Hid.mk' (bT BB4.out hb)
  clear BB4
  have BB4 := BB4_
  clear BB4_
  have TU_ := Hid.mk' (TU.out.keep hb)
  clear TU
  have TU := TU_
  clear TU_
  have V1 := Hid.mk' hV
  clear hR hD hV hb
  have C0 := split_any uo un uc U w14 (by omega) TU.out
  have CD := Hid.mk' C0
  clear C0
  go_wp2_with fail
  refine CD.out.mono ?_
  rintro e w15 ⟨v2, D3, rfl, hR, hD⟩
  clear CD
  have hV : Ls w15 v2 (nl U + 1) (ln U) := ls_of 0 hR (fun j _ => by rw [Nat.zero_add]) hD (fun i hi => by rw [ln_length (by omega)]; have := en_le (sp_le (t := U) (n := i) (by omega)); have := TU.out.len; omega)
  have hb := hR.bel
  have TT4_ := Hid.mk' (TT4.out.keep hb)
  clear TT4
  have TT4 := TT4_
  clear TT4_
  have BB4_ := Hid.mk' (bT BB4.out hb)
  clear BB4
  have BB4 := BB4_
  clear BB4_
  have TU_ := Hid.mk' (TU.out.keep hb)
  clear TU
  have TU := TU_
  clear TU_
  have V1_ := Hid.mk' (V1.out.keep hb)
  clear V1
  have V1 := V1_
  clear V1_
  rw [HSH.out.n] at hV
  have V2 := Hid.mk' hV
  clear hR hD hV hb
  have HLW : Hid (∀ j, j ≤ nl l → ln U j = lw (hdI k) (ln l) a (lst l a b + 1 - a) j) := HSH.out.low
  have HLS : Hid (lst l a b = if b = nl l ∧ a = 0 ∧ 0 < nl l ∧ (ln l (nl l)).length = 0 then nl l - 1 else b) := rfl
  have HXB : Hid (∀ j, j ≤ nl l → (ln l j).length ≤ 4096) := fun j hj => by rw [ln_length hj]; have := en_le (sp_le (t := l) hj); have := TT4.out.len; omega
  have HL1 := Hid.mk' hl1
  have HL2 := Hid.mk' hl2
  clear HSH hl1 hl2 hLST
  generalize lst l a b = ls at *
  obtain ⟨N, hN⟩ : ∃ N, nl l = N := ⟨_, rfl⟩
  rw [hN] at V1 V2 HLW HLS HXB hbn hnl9 ⊢
  clear hN
  obtain ⟨av, cv, hv1⟩ := V1.out.top
  obtain ⟨aw, cw, hv2⟩ := V2.out.top
  subst hv1 hv2
  go_upto_region 22 with fail
  clear hnl8 hnl3 hbn2 hpn hpn2 hft2 htl2 hft htl hUl hp2 hp
  have hNn : N ≤ 4096 := by omega
  clear hnl9
  go_cut [171] from 151 to 170 (fun x171 wx => (x171 = .bool true ∧ (N : Int) - 1 = (ls : Int) ∨ x171 = .bool false ∧ b = ls) ∧ w15 = wx)
  case first =>
    have hw1 : IntKind.i64.wrap ((N : Int) + 1 - 1) = (N : Int) := by rw [IntKind.wrap_i64]; omega
    obtain ⟨g, c', ai, ci, hv, hcell, hti⟩ := V1.out.each N (by omega)
    have hav : av = some ⟨g, 0, none⟩ := by simp at hv; exact hv.1
    subst hav
    clear hv hti
    have h0N : (0 : Int) ≤ (N : Int) := by omega
    have hls := HLS.out
    obtain ⟨xn, hxn⟩ : ∃ xn, (ln l N).length = xn := ⟨_, rfl⟩
    rw [hxn] at hcell hls
    clear hxn HLS
    by_cases e1 : b = N
    · have f1 : ((b : Int) == (N : Int)) = true := by simp; omega
      by_cases e2 : a = 0
      · have f2 : ((a : Int) == 0) = true := by simp; omega
        by_cases e3 : 0 < N
        · have f3 : (1 : Int) < (N : Int) + 1 := by omega
          by_cases e4 : xn = 0
          · have f4 : ((xn : Int) == 0) = true := by simp; omega
            rw [if_pos ⟨e1, e2, e3, e4⟩] at hls
            have e5 := Hid.mk' (show (N : Int) - 1 = (ls : Int) by omega)
            clear hls e1 e2 e4
            go_wp2_with fail
            go_meet
            exact ⟨.inl ⟨rfl, e5.out⟩, rfl⟩
          · have f4 : ((xn : Int) == 0) = false := by rw [beq_eq_false_iff_ne]; omega
            rw [if_neg (fun h => e4 h.2.2.2)] at hls
            have e5 := Hid.mk' hls.symm
            clear hls e1 e2 e4
            go_wp2_with fail
            go_meet
            exact ⟨.inr ⟨rfl, e5.out⟩, rfl⟩
        · have f3 : ¬ (1 : Int) < (N : Int) + 1 := by omega
          rw [if_neg (fun h => e3 h.2.2.1)] at hls
          have e5 := Hid.mk' hls.symm
          clear hls e1 e2
          go_wp2_with fail
          go_meet
          exact ⟨.inr ⟨rfl, e5.out⟩, rfl⟩
      · have f2 : ((a : Int) == 0) = false := by rw [beq_eq_false_iff_ne]; omega
        rw [if_neg (fun h => e2 h.2.1)] at hls
        have e5 := Hid.mk' hls.symm
        clear hls e1
        go_wp2_with fail
        go_meet
        exact ⟨.inr ⟨rfl, e5.out⟩, rfl⟩
    · have f1 : ((b : Int) == (N : Int)) = false := by rw [beq_eq_false_iff_ne]; omega
      rw [if_neg (fun h => e1 h.1)] at hls
      have e5 := Hid.mk' hls.symm
      clear hls
      go_wp2_with fail
      go_meet
      exact ⟨.inr ⟨rfl, e5.out⟩, rfl⟩
  case rest =>
  obtain ⟨hcb, rfl⟩ := hcut
  have HCB := Hid.mk' hcb
  clear hcb HLS
  go_upto_if 171 with fail
  go_cut [29] from 172 to 173 (fun x29 wx => x29 = .int .i64 (ls : Int) ∧ w15 = wx)
  case first =>
    have hw2 : IntKind.i64.wrap ((N : Int) + 1 - 2) = (N : Int) - 1 := by rw [IntKind.wrap_i64]; omega
    rcases HCB.out with ⟨rfl, h⟩ | ⟨rfl, h⟩
    · have e7 := Hid.mk' h
      clear h
      go_wp2_with fail
      go_meet
      exact ⟨by rw [← e7.out], rfl⟩
    · have e7 := Hid.mk' h
      clear h
      go_wp2_with fail
      go_meet
      exact ⟨by rw [e7.out], rfl⟩
  case rest =>
  obtain ⟨rfl, rfl⟩ := hcut
  clear HCB
  go_wp2_with fail
  go_loopg [30, 31, 176] (N + 1) (fun m x30 x31 x176 wx => ∃ i : Nat, i + m = N + 1 ∧ x176 = .int .i64 (i : Int) ∧ w15 = wx)
  case atStart => exact ⟨0, by omega, rfl, rfl⟩
  case round =>
    obtain ⟨i, him, rfl, rfl⟩ := hrel
    cases gk with
    | zero =>
      have hii : ¬ (i : Int) < (N : Int) + 1 := by omega
      go_wp2
      go_ret
      exact ⟨rfl, BB4.out⟩
    | succ m =>
      have hii : (i : Int) < (N : Int) + 1 := by omega
      have hi0 : (0 : Int) ≤ (i : Int) := by omega
      obtain ⟨g, c', ai, ci, hv, hcell, hti⟩ := V1.out.each i (by omega)
      have hav : av = some ⟨g, 0, none⟩ := by simp at hv; exact hv.1
      subst hav
      obtain ⟨g2, c2', aj, cj, hv', hcell2, htj⟩ := V2.out.each i (by omega)
      have hav : aw = some ⟨g2, 0, none⟩ := by simp at hv'; exact hv'.1
      subst hav
      have hY := HLW.out i (by omega)
      unfold lw at hY
      clear hv hv' V1 V2 HLW
      have hXb := Hid.mk' (HXB.out i (by omega))
      clear HXB
      generalize ln l i = X at *
      generalize ln U i = Y at *
      obtain ⟨xn, hxn⟩ : ∃ xn, X.length = xn := ⟨_, rfl⟩
      rw [hxn] at hcell hti
      obtain ⟨yn, hyn⟩ : ∃ yn, Y.length = yn := ⟨_, rfl⟩
      rw [hyn] at hcell2 htj
      have cv1 := conv_tx hti
      have cv2 := conv_tx htj
      have hwi : IntKind.i64.wrap ((i : Int) + 1) = (i : Int) + 1 := by rw [IntKind.wrap_i64]; omega
      have h1 := HL1.out
      clear hti htj hyn
      by_cases c1 : a ≤ i
      · have f1 : (a : Int) ≤ (i : Int) := by omega
        by_cases c2 : i ≤ ls
        · have f2 : (i : Int) ≤ (ls : Int) := by omega
          rw [if_pos ⟨c1, by omega⟩, nw_in, hxn] at hY
          have HX0 := Hid.mk' hxn
          clear hxn h1 c1 c2
          by_cases c3 : xn = 0
          · rw [if_pos c3] at hY
            have f3 : ¬ 0 < xn := by omega
            have hX : X = [] := List.eq_nil_of_length_eq_zero (HX0.out.trans c3)
            subst hY hX
            clear c3
            have nn := ne9_no [] w15
            go_wp2
            go_roundg m
            case measure => omega
            case rel => exact ⟨i + 1, by omega, by go_num, rfl⟩
          · rw [if_neg c3] at hY
            have f3 : 0 < xn := by omega
            replace hY : Y = tb k X := hY
            subst hY
            clear c3
            go_wp2_with fail
            go_loopg [31, 201] k (fun m x31 x201 wy => ∃ j : Nat, j + m = k ∧ x31 = .string ⟨(tb j X).toArray⟩ ∧ x201 = .int .i64 (j : Int) ∧ w15 = wy)
            case atStart => exact ⟨0, by omega, rfl, rfl, rfl⟩
            case round =>
              obtain ⟨j, hjm, rfl, rfl, rfl⟩ := hrel
              have hj0 : (0 : Int) ≤ (j : Int) := by omega
              cases gk with
              | zero =>
                have hjz : ¬ (j : Int) < (k : Int) := by omega
                obtain rfl : j = k := by omega
                have nn := ne9_no (tb j X) w15
                go_wp2
                go_roundg m
                case measure => omega
                case rel => exact ⟨i + 1, by omega, by go_num, rfl⟩
              | succ m2 =>
                have hjz : (j : Int) < (k : Int) := by omega
                have hwj : IntKind.i64.wrap ((j : Int) + 1) = (j : Int) + 1 := by rw [IntKind.wrap_i64]; omega
                have ta := tb_add j X (by omega) hXb.out w15
                go_wp2_with (refine wl_run _ rfl (ex_addt (.const (.string ⟨#[9]⟩)) (.tmp 203) 9 rfl rfl rfl ta) ?_)
                go_roundg m2
                case measure => omega
                case rel => exact ⟨j + 1, by omega, rfl, by go_num, rfl⟩
        · have f2 : ¬ (i : Int) ≤ (ls : Int) := by omega
          rw [if_neg (by omega)] at hY
          subst hY
          clear hxn h1 c1 c2
          have nn := ne9_no Y w15
          go_wp2
          go_roundg m
          case measure => omega
          case rel => exact ⟨i + 1, by omega, by go_num, rfl⟩
      · have f1 : ¬ (a : Int) ≤ (i : Int) := by omega
        rw [if_neg (by omega)] at hY
        subst hY
        clear hxn h1 c1
        have nn := ne9_no Y w15
        go_wp2
        go_roundg m
        case measure => omega
        case rel => exact ⟨i + 1, by omega, by go_num, rfl⟩
end Go.Proofs.YtppefcnopkmhbaaDoor
