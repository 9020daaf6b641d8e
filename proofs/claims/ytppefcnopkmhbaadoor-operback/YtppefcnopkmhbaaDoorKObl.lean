/- OperBack, walked: lines. -/
import Derived.Test.YtppefcnopkmhbaaDoorKObw
import Derived.Test.YtppefcnopkmhbaaDoorKBkn
namespace Go.Proofs.YtppefcnopkmhbaaDoor
open Go.RowKit

set_option maxRecDepth 8000
set_option maxHeartbeats 16000000 in
set_option linter.unusedSimpArgs false in
theorem back_lines (ao : Option Addr) (n c : Nat) (l : List UInt8) (i1 i2 : Int) (W : World) (HT : Tx W ao n c l) (h11 : -9223372036854775808 ≤ i1) (h12 : i1 ≤ 9223372036854775807) (h21 : -9223372036854775808 ≤ i2) (h22 : i2 ≤ 9223372036854775807) (hn0 : n ≤ 281474976710656) :
    Calls Tryd.prog 3 #[.slice ao n c, .agg #[.int .i64 i1, .int .i64 i2, .bool true]] W fun e w' => e = .returned (.bool true) ∧ Below W.heap.size W w' := by
  have hln := HT.len
  obtain ⟨W0, hW0⟩ : ∃ x, W.alloc (.cells #[.int .i64 i1, .int .i64 i2, .bool true] 24) = x := ⟨_, rfl⟩
  obtain ⟨qc, hqc⟩ : ∃ q, W.heap.size = q := ⟨_, rfl⟩
  have hb0 : Below W.heap.size W W0 := by rw [← hW0]; exact bAlloc (Below.refl _ _) _
  have KC : Hid (Blk W0 qc 24 (cutC i1 i2 true)) := by unfold Hid; rw [← hW0, ← hqc]; exact Blk.new W 24 _
  have CA := Hid.mk' (awake_any W0)
  have TT := Hid.mk' (HT.keep hb0)
  have BB := Hid.mk' hb0
  clear HT hb0
  go_enter Tryd.func3, Tryd.ntmps3
  go_upto_region 1 with fail
  clear hW0 hqc
  go_upto_region 3 with (first | (go_at_call 6; refine CA.out.mono ?_; rintro e w1 ⟨rfl, hb⟩) | fail)
  clear CA
  have TT_ := Hid.mk' (TT.out.keep hb)
  clear TT
  have TT := TT_
  clear TT_
  have BB_ := Hid.mk' (bT BB.out hb)
  clear BB
  have BB := BB_
  clear BB_
  have KC_ := Hid.mk' (KC.out.keep hb)
  clear KC
  have KC := KC_
  clear KC_
  clear hb
  by_cases hbig : (16384 : Int) < (n : Int)
  · go_wp2
    go_ret
    exact ⟨rfl, BB.out⟩
  have hn : n ≤ 16384 := by omega
  clear hn0
  have CC := Hid.mk' (count_any ao n c l w1 TT.out)
  go_upto_region 6 with (first | (go_at_call 7; refine CC.out.mono ?_; rintro e w2 ⟨rfl, hb⟩) | fail)
  clear CC
  have TT_ := Hid.mk' (TT.out.keep hb)
  clear TT
  have TT := TT_
  clear TT_
  have BB_ := Hid.mk' (bT BB.out hb)
  clear BB
  have BB := BB_
  clear BB_
  have KC_ := Hid.mk' (KC.out.keep hb)
  clear KC
  have KC := KC_
  clear KC_
  clear hb
  obtain ⟨k0, k1, k2⟩ := cut_cells KC.out
  have hnl8 := nl_le l
  go_upto_region 16 with fail
  clear k0 k1 k2
  have P1 := Hid.mk' (fun W9 => place_any i1 (nl l + 1) W9 (by omega) h11 h12 (by omega))
  have P2 := Hid.mk' (fun W9 => place_any i2 (nl l + 1) W9 (by omega) h21 h22 (by omega))
  have hp1 := (plc_lt i1 (n := nl l + 1) (by omega)).1
  have hp2 := (plc_lt i2 (n := nl l + 1) (by omega)).1
  generalize plc i1 (nl l + 1) = pa at *
  generalize plc i2 (nl l + 1) = pb at *
  rw [show ((nl l + 1 : Nat) : Int) = (nl l : Int) + 1 from rfl] at P1 P2
  clear h11 h12 h21 h22
  have SZ : Hid (Blk w2.drew qc 24 (cutC i1 i2 true)) := KC.out
  have TT4 : Hid (Tx w2.drew ao n c l) := TT.out.keep (Below.refl _ _).drew
  have BB4 : Hid (Below W.heap.size W w2.drew) := BB.out.drew
  clear KC TT BB
  refine wp_region_held (S := fun w' => Blk w' qc 24 (cutC i1 i2 true)) (by kernel_rfl) ?_
  change wpAnyH _ _ _ _ _ _ _ _ (World.drew _)
  generalize w2.drew = w3 at *
  refine wpAnyH_take (i := 0) (v := .pointer (some ⟨qc, 0, none⟩)) rfl (by kernel_rfl) (by kernel_rfl) (by kernel_rfl) (fun _ _ _ h => h) (Yields.yieldsIf (Or.inl ⟨by rfl, fun w => by go_simp⟩)) SZ.out ?_
  try simp only [Act.put, List.getElem_toArray, List.getElem_cons_zero, List.getElem_cons_succ, List.setIfInBounds_toArray, List.set_cons_zero, List.set_cons_succ]
  refine wpAnyH_take (i := 1) (v := .int .i64 i1) rfl (by kernel_rfl) (by kernel_rfl) (by kernel_rfl) (fun _ _ _ h => h) (Or.inl ⟨by rfl, fun w9 h9 => by obtain ⟨y0, y1, y2⟩ := cut_cells h9; go_simp⟩) SZ.out ?_
  try simp only [Act.put, List.getElem_toArray, List.getElem_cons_zero, List.getElem_cons_succ, List.setIfInBounds_toArray, List.set_cons_zero, List.set_cons_succ]
  refine wpAnyH_take (i := 2) (v := .int .i64 ((nl l : Int) + 1)) rfl (by kernel_rfl) (by kernel_rfl) (by kernel_rfl) (fun _ _ _ h => h) (Yields.yieldsIf (Or.inl ⟨by rfl, fun w => by go_simp⟩)) SZ.out ?_
  try simp only [Act.put, List.getElem_toArray, List.getElem_cons_zero, List.getElem_cons_succ, List.setIfInBounds_toArray, List.set_cons_zero, List.set_cons_succ]
  refine wpAnyH_take (i := 4) (v := .pointer (some ⟨qc, 1, none⟩)) rfl (by kernel_rfl) (by kernel_rfl) (by kernel_rfl) (fun _ _ _ h => h) (Yields.yieldsIf (Or.inl ⟨by rfl, fun w => by go_simp⟩)) SZ.out ?_
  try simp only [Act.put, List.getElem_toArray, List.getElem_cons_zero, List.getElem_cons_succ, List.setIfInBounds_toArray, List.set_cons_zero, List.set_cons_succ]
  refine wpAnyH_take (i := 5) (v := .int .i64 i2) rfl (by kernel_rfl) (by kernel_rfl) (by kernel_rfl) (fun _ _ _ h => h) (Or.inl ⟨by rfl, fun w9 h9 => by obtain ⟨y0, y1, y2⟩ := cut_cells h9; go_simp⟩) SZ.out ?_
  try simp only [Act.put, List.getElem_toArray, List.getElem_cons_zero, List.getElem_cons_succ, List.setIfInBounds_toArray, List.set_cons_zero, List.set_cons_succ]
  refine wpAnyH_take (i := 6) (v := .int .i64 ((nl l : Int) + 1)) rfl (by kernel_rfl) (by kernel_rfl) (by kernel_rfl) (fun _ _ _ h => h) (Yields.yieldsIf (Or.inl ⟨by rfl, fun w => by go_simp⟩)) SZ.out ?_
  try simp only [Act.put, List.getElem_toArray, List.getElem_cons_zero, List.getElem_cons_succ, List.setIfInBounds_toArray, List.set_cons_zero, List.set_cons_succ]
  refine wpAnyH_all (rs := [3]) (by kernel_rfl) (by simp) (AllH.cons rfl (fun K hK => ?_) AllH.nil)
  go_simp
  refine (P1.out _).mono ?_
  rintro e w' ⟨rfl, hw⟩
  have hq := hw.symm
  subst hq
  clear hw
  dsimp only
  refine hK _ _ ⟨SZ.out, ?_⟩
  clear hK K
  try simp only [Act.put, List.getElem_toArray, List.getElem_cons_zero, List.getElem_cons_succ, List.setIfInBounds_toArray, List.set_cons_zero, List.set_cons_succ]
  refine wpAnyH_all (rs := [7]) (by kernel_rfl) (by simp) (AllH.cons rfl (fun K hK => ?_) AllH.nil)
  go_simp
  refine (P2.out _).mono ?_
  rintro e w' ⟨rfl, hw⟩
  have hq := hw.symm
  subst hq
  clear hw
  dsimp only
  refine hK _ _ ⟨SZ.out, ?_⟩
  clear hK K
  try simp only [Act.put, List.getElem_toArray, List.getElem_cons_zero, List.getElem_cons_succ, List.setIfInBounds_toArray, List.set_cons_zero, List.set_cons_succ]
  refine wpAnyH_take (i := 8) (v := .int .i64 (pa : Int)) rfl (by kernel_rfl) (by kernel_rfl) (by kernel_rfl) (fun _ _ _ h => h) (Yields.yieldsIf (Or.inl ⟨by rfl, fun w => by go_simp⟩)) SZ.out ?_
  try simp only [Act.put, List.getElem_toArray, List.getElem_cons_zero, List.getElem_cons_succ, List.setIfInBounds_toArray, List.set_cons_zero, List.set_cons_succ]
  refine wpAnyH_take (i := 9) (v := .int .i64 (pb : Int)) rfl (by kernel_rfl) (by kernel_rfl) (by kernel_rfl) (fun _ _ _ h => h) (Yields.yieldsIf (Or.inl ⟨by rfl, fun w => by go_simp⟩)) SZ.out ?_
  try simp only [Act.put, List.getElem_toArray, List.getElem_cons_zero, List.getElem_cons_succ, List.setIfInBounds_toArray, List.set_cons_zero, List.set_cons_succ]
  refine wpAnyH_done (by kernel_rfl) ?_ _
  obtain ⟨a, hf⟩ : ∃ a, min pa pb = a := ⟨_, rfl⟩
  obtain ⟨b, ht⟩ : ∃ b, max pa pb = b := ⟨_, rfl⟩
  have hmin : min (pa : Int) (pb : Int) = (a : Int) := by omega
  have hmax : max (pa : Int) (pb : Int) = (b : Int) := by omega
  have hab : a ≤ b := by omega
  have hpt : b < nl l + 1 := by omega
  clear hf ht hp1 hp2
  have hbn : b ≤ nl l := by omega
  have hnl9 := nl_le l
  rw [TT4.out.len] at hnl9
  go_upto_region 18 with fail
  rcases whole_kinds hab hbn with ⟨h1, h2, hw⟩ | ⟨h1, h2, h3, hw⟩ | ⟨h1, h2, hw⟩
  · skip
    obtain ⟨f, t, X, KD, htn⟩ := kd1 TT4.out.len hab h1 h2 hw
    have KN := KD.k
    have hXe := KD.x
    have hXl : X.length ≤ n := by have := KD.xl; rw [TT4.out.len] at this; exact this
    obtain ⟨p, hp⟩ : ∃ p, sp l a = p := ⟨_, rfl⟩
    have hpn : p ≤ n := by rw [← hp, ← TT4.out.len]; exact sp_le (by omega)
    have C0 := whole_any ao n c (a : Int) (b : Int) l w3 (by omega) (by omega) TT4.out
    rw [KN.w] at C0
    unfold rt at C0
    have CW := Hid.mk' C0
    clear C0
    go_wp2_with fail
    refine CW.out.mono ?_
    rintro e w4 ⟨rfl, hb⟩
    clear CW
    have TT4_ := Hid.mk' (TT4.out.keep hb)
    clear TT4
    have TT4 := TT4_
    clear TT4_
    have BB4_ := Hid.mk' (bT BB4.out hb)
    clear BB4
    have BB4 := BB4_
    clear BB4_
    clear hb
    dsimp only
    go_upto_region 19 with fail
    obtain ⟨qr, hqr⟩ : ∃ q, w4.heap.size = q := ⟨_, rfl⟩
    have hbx : Below w4.heap.size w4 (w4.alloc (.cells #[.int .i64 (f : Int), .int .i64 (t : Int), .bool true, .bool false] 37)) := bAlloc (Below.refl _ _) _
    have KR : Hid (Blk (w4.alloc (.cells #[.int .i64 (f : Int), .int .i64 (t : Int), .bool true, .bool false] 37)) qr 37 #[.int .i64 (f : Int), .int .i64 (t : Int), .bool true, .bool false]) := by unfold Hid; rw [← hqr]; exact Blk.new w4 37 _
    rw [hqr]
    generalize w4.alloc (.cells #[.int .i64 (f : Int), .int .i64 (t : Int), .bool true, .bool false] 37) = w5 at *
    clear hqr
    have TT4_ := Hid.mk' (TT4.out.keep hbx)
    clear TT4
    have TT4 := TT4_
    clear TT4_
    have BB4_ := Hid.mk' (bT BB4.out hbx)
    clear BB4
    have BB4 := BB4_
    clear BB4_
    clear hbx
    obtain ⟨r0, r1, r2, r3⟩ := rgC_cells KR.out
    have C0 := start_call (i := a) TT4.out (by omega) (by omega)
    rw [if_pos (by omega), if_pos (by omega), hp] at C0
    have CS := Hid.mk' C0
    clear C0
    go_upto_region 20 with (first | (go_at_call 13; refine CS.out.mono ?_; rintro e w' ⟨rfl, hw⟩; have hq := hw.symm; subst hq; clear hw) | fail)
    clear CS
    have C0 := do_any ao n c l (p : Int) ⟨#[100]⟩ (f : Int) (t : Int) true false 1 w5 TT4.out (by omega)
    obtain ⟨cc, hcc⟩ := do_dL (l := l) (k := p) (f := f) (t := t) (D := false) (by rw [TT4.out.len]; exact hpn) (KN.r p)
    rw [hcc, hXe] at C0
    clear hcc
    rw [if_neg (by have := KD.lt; omega)] at C0
    have hn0 : ¬ n = 0 := by have := KD.lt; omega
    have CD := Hid.mk' C0
    clear C0
    go_wp2_with fail
    refine CD.out.mono ?_
    rintro e w6 ⟨v, F, tv, rfl, hF, hM, hb⟩
    clear CD
    obtain ⟨eox, ecx, rfl, hZ, -⟩ := hM.eds.edz
    obtain ⟨tox, tcx, rfl⟩ := hM.tx.shape
    obtain ⟨enx, hen⟩ : ∃ en, F.length = en := ⟨_, rfl⟩
    rw [hen]
    try dsimp only [ef0] at hF
    have FZx := Hid.mk' hZ
    have FEx := Hid.mk' hen
    have FDx := Hid.mk' hF
    have FLx : enx ≤ 1 := by rw [← hen, ← List.length_map (f := Er.d), hF]; exact sw_len _ _ _ _
    have hTR : Tx w6 tox X.length tcx X := hM.tx.tx (by show X.length ≤ 150000000000000; omega)
    clear hZ hen hM hF
    have TT4_ := Hid.mk' (TT4.out.keep hb)
    clear TT4
    have TT4 := TT4_
    clear TT4_
    have BB4_ := Hid.mk' (bT BB4.out hb)
    clear BB4
    have BB4 := BB4_
    clear BB4_
    have KR_ := Hid.mk' (KR.out.keep hb)
    clear KR
    have KR := KR_
    clear KR_
    clear hb
    have TR := Hid.mk' hTR
    clear hTR
    have HXL := Hid.mk' hXl
    clear hXl
    unfold efV
    dsimp only
    go_upto_region 21 with fail
    obtain ⟨qx, hqx⟩ : ∃ q, w6.heap.size = q := ⟨_, rfl⟩
    have hbx : Below w6.heap.size w6 (w6.alloc (.cells #[.slice eox enx ecx, .int .i64 cc, .bool true, .bool true, .slice tox X.length tcx, .int .i64 2, .bool false] 32)) := bAlloc (Below.refl _ _) _
    have Kx : Hid (Blk (w6.alloc (.cells #[.slice eox enx ecx, .int .i64 cc, .bool true, .bool true, .slice tox X.length tcx, .int .i64 2, .bool false] 32)) qx 32 #[.slice eox enx ecx, .int .i64 cc, .bool true, .bool true, .slice tox X.length tcx, .int .i64 2, .bool false]) := by unfold Hid; rw [← hqx]; exact Blk.new w6 32 _
    rw [hqx]
    generalize w6.alloc (.cells #[.slice eox enx ecx, .int .i64 cc, .bool true, .bool true, .slice tox X.length tcx, .int .i64 2, .bool false] 32) = w7 at *
    clear hqx
    have TT4_ := Hid.mk' (TT4.out.keep hbx)
    clear TT4
    have TT4 := TT4_
    clear TT4_
    have BB4_ := Hid.mk' (bT BB4.out hbx)
    clear BB4
    have BB4 := BB4_
    clear BB4_
    have KR_ := Hid.mk' (KR.out.keep hbx)
    clear KR
    have KR := KR_
    clear KR_
    have FZx_ := Hid.mk' (FZx.out.keep hbx)
    clear FZx
    have FZx := FZx_
    clear FZx_
    have TR_ := Hid.mk' (TR.out.keep hbx)
    clear TR
    have TR := TR_
    clear TR_
    clear hbx
    obtain ⟨x0, x1, x2, x3, x4, x5, x6⟩ := ef_cells Kx.out
    go_upto_region 23 with fail
    have C0 := apply_call (ec := ecx) (U := wo l f t) TT4.out (by omega) FZx.out FEx.out (by omega) FDx.out (ns_one (by simp)) (apU_wo KN.ft (by have := KN.tn; omega))
    have CD := Hid.mk' C0
    clear C0
    go_wp2_with fail
    refine CD.out.mono ?_
    rintro e w8 ⟨uo, uc, rfl, hT, hb⟩
    clear CD x0 x1 x2 x3 x4 x5 x6
    have TT4_ := Hid.mk' (TT4.out.keep hb)
    clear TT4
    have TT4 := TT4_
    clear TT4_
    have BB4_ := Hid.mk' (bT BB4.out hb)
    clear BB4
    have BB4 := BB4_
    clear BB4_
    have KR_ := Hid.mk' (KR.out.keep hb)
    clear KR
    have KR := KR_
    clear KR_
    have FZx_ := Hid.mk' (FZx.out.keep hb)
    clear FZx
    have FZx := FZx_
    clear FZx_
    have TR_ := Hid.mk' (TR.out.keep hb)
    clear TR
    have TR := TR_
    clear TR_
    have Kx_ := Hid.mk' (Kx.out.keep hb)
    clear Kx
    have Kx := Kx_
    clear Kx_
    have hul := wo_len (l := l) (f := f) (t := t) KN.ft KN.tn
    rw [TT4.out.len] at hul
    obtain ⟨un, hun⟩ : ∃ un, (wo l f t).length = un := ⟨_, rfl⟩
    rw [hun] at hT hul ⊢
    have TU := Hid.mk' hT
    have HUN := Hid.mk' hun
    have HUL := Hid.mk' hul
    have hub : un ≤ 16384 := by omega
    clear hT hb hun hul
    obtain ⟨x0, x1, x2, x3, x4, x5, x6⟩ := ef_cells Kx.out
    have hw1 : IntKind.i64.wrap ((nl l : Int) + 1 - 1) = (nl l : Int) := by rw [IntKind.wrap_i64]; omega
    go_upto_region 26 with fail
    have hbl : ¬ b = nl l := by omega
    have ha9 : ((a : Int) == 0) = true ∨ ((a : Int) == 0) = false := by cases ((a : Int) == 0) <;> simp
    have hnx : nl l ≤ 16384 := by have := nl_le l; rw [TT4.out.len] at this; omega
    rcases ha9 with ha9 | ha9
    · skip
      go_upto_region 31 with fail
      have hSt := KD.u
      have C0 := start_call (i := a) TU.out (by omega) (by have := hSt.low; have := nl_le (wo l f t); have := TU.out.len; have := HUL.out; omega)
      rw [if_pos hSt.low, if_pos hSt.low, sp_eq hSt] at C0
      have hpl := hSt.low'
      rw [TU.out.len] at hpl
      have CS := Hid.mk' C0
      clear C0
      go_upto_region 32 with (first | (go_at_call 13; refine CS.out.mono ?_; rintro e w' ⟨rfl, hw⟩; have hq := hw.symm; subst hq; clear hw) | fail)
      clear CS
      have C0 := put_any uo un uc (wo l f t) (f : Int) 1 true true tox X.length tcx X true w8 TU.out TR.out (by omega) (by have := HXL.out; omega)
      obtain ⟨y, hy, hye⟩ := put_L1 (X := X) hSt KD.xk (by have := HXL.out; omega)
      rw [hy] at C0
      obtain ⟨es, cur, sset, lin, txt, how, typ⟩ := y
      dsimp only at hye
      subst hye
      have CD := Hid.mk' C0
      clear C0
      go_wp2_with fail
      refine CD.out.mono ?_
      rintro e w9 ⟨v, F, tv, rfl, hF, hM, hb⟩
      clear CD
      obtain ⟨eoy, ecy, rfl, hZ, -⟩ := hM.eds.edz
      obtain ⟨toy, tcy, rfl⟩ := hM.tx.shape
      obtain ⟨eny, hen⟩ : ∃ en, F.length = en := ⟨_, rfl⟩
      rw [hen]
      try dsimp only [ef0] at hF
      have FZy := Hid.mk' hZ
      have FEy := Hid.mk' hen
      have FDy := Hid.mk' hF
      have FLy : eny ≤ 1 := by rw [← hen, ← List.length_map (f := Er.d), hF]; exact sw_len _ _ _ _
      clear hZ hen hM hF
      have TT4_ := Hid.mk' (TT4.out.keep hb)
      clear TT4
      have TT4 := TT4_
      clear TT4_
      have BB4_ := Hid.mk' (bT BB4.out hb)
      clear BB4
      have BB4 := BB4_
      clear BB4_
      have KR_ := Hid.mk' (KR.out.keep hb)
      clear KR
      have KR := KR_
      clear KR_
      have FZx_ := Hid.mk' (FZx.out.keep hb)
      clear FZx
      have FZx := FZx_
      clear FZx_
      have TR_ := Hid.mk' (TR.out.keep hb)
      clear TR
      have TR := TR_
      clear TR_
      have Kx_ := Hid.mk' (Kx.out.keep hb)
      clear Kx
      have Kx := Kx_
      clear Kx_
      have TU_ := Hid.mk' (TU.out.keep hb)
      clear TU
      have TU := TU_
      clear TU_
      clear hb x0 x1 x2 x3 x4 x5 x6
      unfold efV
      dsimp only
      go_upto_region 33 with fail
      obtain ⟨qy, hqy⟩ : ∃ q, w9.heap.size = q := ⟨_, rfl⟩
      have hbx : Below w9.heap.size w9 (w9.alloc (.cells #[.slice eoy eny ecy, .int .i64 cur, .bool sset, .bool lin, .slice toy txt.length tcy, .int .i64 how, .bool typ] 32)) := bAlloc (Below.refl _ _) _
      have Ky : Hid (Blk (w9.alloc (.cells #[.slice eoy eny ecy, .int .i64 cur, .bool sset, .bool lin, .slice toy txt.length tcy, .int .i64 how, .bool typ] 32)) qy 32 #[.slice eoy eny ecy, .int .i64 cur, .bool sset, .bool lin, .slice toy txt.length tcy, .int .i64 how, .bool typ]) := by unfold Hid; rw [← hqy]; exact Blk.new w9 32 _
      rw [hqy]
      generalize w9.alloc (.cells #[.slice eoy eny ecy, .int .i64 cur, .bool sset, .bool lin, .slice toy txt.length tcy, .int .i64 how, .bool typ] 32) = w10 at *
      clear hqy
      have TT4_ := Hid.mk' (TT4.out.keep hbx)
      clear TT4
      have TT4 := TT4_
      clear TT4_
      have BB4_ := Hid.mk' (bT BB4.out hbx)
      clear BB4
      have BB4 := BB4_
      clear BB4_
      have KR_ := Hid.mk' (KR.out.keep hbx)
      clear KR
      have KR := KR_
      clear KR_
      have FZx_ := Hid.mk' (FZx.out.keep hbx)
      clear FZx
      have FZx := FZx_
      clear FZx_
      have TR_ := Hid.mk' (TR.out.keep hbx)
      clear TR
      have TR := TR_
      clear TR_
      have Kx_ := Hid.mk' (Kx.out.keep hbx)
      clear Kx
      have Kx := Kx_
      clear Kx_
      have TU_ := Hid.mk' (TU.out.keep hbx)
      clear TU
      have TU := TU_
      clear TU_
      have FZy_ := Hid.mk' (FZy.out.keep hbx)
      clear FZy
      have FZy := FZy_
      clear FZy_
      clear hbx
      obtain ⟨x0, x1, x2, x3, x4, x5, x6⟩ := ef_cells Ky.out
      have C0 := apply_call (ec := ecy) (U := l) TU.out (by omega) FZy.out FEy.out (by omega) FDy.out (ns_one (by have := HXL.out; omega)) KD.back
      rw [TT4.out.len] at C0
      have CD := Hid.mk' C0
      clear C0
      go_wp2_with fail
      refine CD.out.mono ?_
      rintro e w11 ⟨vo, vc, rfl, hT, hb⟩
      clear CD x0 x1 x2 x3 x4 x5 x6
      have TT4_ := Hid.mk' (TT4.out.keep hb)
      clear TT4
      have TT4 := TT4_
      clear TT4_
      have BB4_ := Hid.mk' (bT BB4.out hb)
      clear BB4
      have BB4 := BB4_
      clear BB4_
      have KR_ := Hid.mk' (KR.out.keep hb)
      clear KR
      have KR := KR_
      clear KR_
      have FZx_ := Hid.mk' (FZx.out.keep hb)
      clear FZx
      have FZx := FZx_
      clear FZx_
      have TR_ := Hid.mk' (TR.out.keep hb)
      clear TR
      have TR := TR_
      clear TR_
      have Kx_ := Hid.mk' (Kx.out.keep hb)
      clear Kx
      have Kx := Kx_
      clear Kx_
      have TU_ := Hid.mk' (TU.out.keep hb)
      clear TU
      have TU := TU_
      clear TU_
      have FZy_ := Hid.mk' (FZy.out.keep hb)
      clear FZy
      have FZy := FZy_
      clear FZy_
      have Ky_ := Hid.mk' (Ky.out.keep hb)
      clear Ky
      have Ky := Ky_
      clear Ky_
      have TV := Hid.mk' hT
      clear hT hb
      have CN := Hid.mk' (count_any uo un uc _ w11 TU.out)
      have hnb : nl l ≤ 16384 := by have := nl_le l; rw [TT4.out.len] at this; omega
      have hq1 : IntKind.i64.wrap ((b : Int) - (a : Int)) = (b : Int) - (a : Int) := by rw [IntKind.wrap_i64]; omega
      have hq2 : IntKind.i64.wrap ((b : Int) - (a : Int) + 1) = (b : Int) - (a : Int) + 1 := by rw [IntKind.wrap_i64]; omega
      have hq3 : IntKind.i64.wrap ((nl l : Int) + 1 - ((b : Int) - (a : Int) + 1)) = (nl l : Int) + 1 - ((b : Int) - (a : Int) + 1) := by rw [IntKind.wrap_i64]; omega
      have hq4 : (nl (wo l f t) : Int) + 1 = (nl l : Int) + 1 - ((b : Int) - (a : Int) + 1) := by have := KD.c; omega
      rw [hq4] at CN
      clear hq4
      have ee2 := fun W9 => eq9_yes l W9
      go_wp2_with (first | (go_at_call 7; refine CN.out.mono ?_; rintro e w12 ⟨rfl, hb⟩; have cv3 := conv_tx (TV.out.keep hb); have cv4 := conv_tx (TT4.out.keep hb); have ee3 := eq9_yes l w12; have BB9 := Hid.mk' (bT BB4.out hb)) | fail)
      go_ret
      exact ⟨rfl, BB9.out⟩
    · skip
      go_upto_region 31 with fail
      have hSt := KD.u
      have C0 := start_call (i := a) TU.out (by omega) (by have := hSt.low; have := nl_le (wo l f t); have := TU.out.len; have := HUL.out; omega)
      rw [if_pos hSt.low, if_pos hSt.low, sp_eq hSt] at C0
      have hpl := hSt.low'
      rw [TU.out.len] at hpl
      have CS := Hid.mk' C0
      clear C0
      go_upto_region 32 with (first | (go_at_call 13; refine CS.out.mono ?_; rintro e w' ⟨rfl, hw⟩; have hq := hw.symm; subst hq; clear hw) | fail)
      clear CS
      have C0 := put_any uo un uc (wo l f t) (f : Int) 1 true true tox X.length tcx X true w8 TU.out TR.out (by omega) (by have := HXL.out; omega)
      obtain ⟨y, hy, hye⟩ := put_L1 (X := X) hSt KD.xk (by have := HXL.out; omega)
      rw [hy] at C0
      obtain ⟨es, cur, sset, lin, txt, how, typ⟩ := y
      dsimp only at hye
      subst hye
      have CD := Hid.mk' C0
      clear C0
      go_wp2_with fail
      refine CD.out.mono ?_
      rintro e w9 ⟨v, F, tv, rfl, hF, hM, hb⟩
      clear CD
      obtain ⟨eoy, ecy, rfl, hZ, -⟩ := hM.eds.edz
      obtain ⟨toy, tcy, rfl⟩ := hM.tx.shape
      obtain ⟨eny, hen⟩ : ∃ en, F.length = en := ⟨_, rfl⟩
      rw [hen]
      try dsimp only [ef0] at hF
      have FZy := Hid.mk' hZ
      have FEy := Hid.mk' hen
      have FDy := Hid.mk' hF
      have FLy : eny ≤ 1 := by rw [← hen, ← List.length_map (f := Er.d), hF]; exact sw_len _ _ _ _
      clear hZ hen hM hF
      have TT4_ := Hid.mk' (TT4.out.keep hb)
      clear TT4
      have TT4 := TT4_
      clear TT4_
      have BB4_ := Hid.mk' (bT BB4.out hb)
      clear BB4
      have BB4 := BB4_
      clear BB4_
      have KR_ := Hid.mk' (KR.out.keep hb)
      clear KR
      have KR := KR_
      clear KR_
      have FZx_ := Hid.mk' (FZx.out.keep hb)
      clear FZx
      have FZx := FZx_
      clear FZx_
      have TR_ := Hid.mk' (TR.out.keep hb)
      clear TR
      have TR := TR_
      clear TR_
      have Kx_ := Hid.mk' (Kx.out.keep hb)
      clear Kx
      have Kx := Kx_
      clear Kx_
      have TU_ := Hid.mk' (TU.out.keep hb)
      clear TU
      have TU := TU_
      clear TU_
      clear hb x0 x1 x2 x3 x4 x5 x6
      unfold efV
      dsimp only
      go_upto_region 33 with fail
      obtain ⟨qy, hqy⟩ : ∃ q, w9.heap.size = q := ⟨_, rfl⟩
      have hbx : Below w9.heap.size w9 (w9.alloc (.cells #[.slice eoy eny ecy, .int .i64 cur, .bool sset, .bool lin, .slice toy txt.length tcy, .int .i64 how, .bool typ] 32)) := bAlloc (Below.refl _ _) _
      have Ky : Hid (Blk (w9.alloc (.cells #[.slice eoy eny ecy, .int .i64 cur, .bool sset, .bool lin, .slice toy txt.length tcy, .int .i64 how, .bool typ] 32)) qy 32 #[.slice eoy eny ecy, .int .i64 cur, .bool sset, .bool lin, .slice toy txt.length tcy, .int .i64 how, .bool typ]) := by unfold Hid; rw [← hqy]; exact Blk.new w9 32 _
      rw [hqy]
      generalize w9.alloc (.cells #[.slice eoy eny ecy, .int .i64 cur, .bool sset, .bool lin, .slice toy txt.length tcy, .int .i64 how, .bool typ] 32) = w10 at *
      clear hqy
      have TT4_ := Hid.mk' (TT4.out.keep hbx)
      clear TT4
      have TT4 := TT4_
      clear TT4_
      have BB4_ := Hid.mk' (bT BB4.out hbx)
      clear BB4
      have BB4 := BB4_
      clear BB4_
      have KR_ := Hid.mk' (KR.out.keep hbx)
      clear KR
      have KR := KR_
      clear KR_
      have FZx_ := Hid.mk' (FZx.out.keep hbx)
      clear FZx
      have FZx := FZx_
      clear FZx_
      have TR_ := Hid.mk' (TR.out.keep hbx)
      clear TR
      have TR := TR_
      clear TR_
      have Kx_ := Hid.mk' (Kx.out.keep hbx)
      clear Kx
      have Kx := Kx_
      clear Kx_
      have TU_ := Hid.mk' (TU.out.keep hbx)
      clear TU
      have TU := TU_
      clear TU_
      have FZy_ := Hid.mk' (FZy.out.keep hbx)
      clear FZy
      have FZy := FZy_
      clear FZy_
      clear hbx
      obtain ⟨x0, x1, x2, x3, x4, x5, x6⟩ := ef_cells Ky.out
      have C0 := apply_call (ec := ecy) (U := l) TU.out (by omega) FZy.out FEy.out (by omega) FDy.out (ns_one (by have := HXL.out; omega)) KD.back
      rw [TT4.out.len] at C0
      have CD := Hid.mk' C0
      clear C0
      go_wp2_with fail
      refine CD.out.mono ?_
      rintro e w11 ⟨vo, vc, rfl, hT, hb⟩
      clear CD x0 x1 x2 x3 x4 x5 x6
      have TT4_ := Hid.mk' (TT4.out.keep hb)
      clear TT4
      have TT4 := TT4_
      clear TT4_
      have BB4_ := Hid.mk' (bT BB4.out hb)
      clear BB4
      have BB4 := BB4_
      clear BB4_
      have KR_ := Hid.mk' (KR.out.keep hb)
      clear KR
      have KR := KR_
      clear KR_
      have FZx_ := Hid.mk' (FZx.out.keep hb)
      clear FZx
      have FZx := FZx_
      clear FZx_
      have TR_ := Hid.mk' (TR.out.keep hb)
      clear TR
      have TR := TR_
      clear TR_
      have Kx_ := Hid.mk' (Kx.out.keep hb)
      clear Kx
      have Kx := Kx_
      clear Kx_
      have TU_ := Hid.mk' (TU.out.keep hb)
      clear TU
      have TU := TU_
      clear TU_
      have FZy_ := Hid.mk' (FZy.out.keep hb)
      clear FZy
      have FZy := FZy_
      clear FZy_
      have Ky_ := Hid.mk' (Ky.out.keep hb)
      clear Ky
      have Ky := Ky_
      clear Ky_
      have TV := Hid.mk' hT
      clear hT hb
      have CN := Hid.mk' (count_any uo un uc _ w11 TU.out)
      have hnb : nl l ≤ 16384 := by have := nl_le l; rw [TT4.out.len] at this; omega
      have hq1 : IntKind.i64.wrap ((b : Int) - (a : Int)) = (b : Int) - (a : Int) := by rw [IntKind.wrap_i64]; omega
      have hq2 : IntKind.i64.wrap ((b : Int) - (a : Int) + 1) = (b : Int) - (a : Int) + 1 := by rw [IntKind.wrap_i64]; omega
      have hq3 : IntKind.i64.wrap ((nl l : Int) + 1 - ((b : Int) - (a : Int) + 1)) = (nl l : Int) + 1 - ((b : Int) - (a : Int) + 1) := by rw [IntKind.wrap_i64]; omega
      have hq4 : (nl (wo l f t) : Int) + 1 = (nl l : Int) + 1 - ((b : Int) - (a : Int) + 1) := by have := KD.c; omega
      rw [hq4] at CN
      clear hq4
      have ee2 := fun W9 => eq9_yes l W9
      go_wp2_with (first | (go_at_call 7; refine CN.out.mono ?_; rintro e w12 ⟨rfl, hb⟩; have cv3 := conv_tx (TV.out.keep hb); have cv4 := conv_tx (TT4.out.keep hb); have ee3 := eq9_yes l w12; have BB9 := Hid.mk' (bT BB4.out hb)) | fail)
      go_ret
      exact ⟨rfl, BB9.out⟩
  · skip
    subst h1
    obtain ⟨f, Z, KD⟩ := kd2 TT4.out.len (by omega) h3 hw
    have KN := KD.k
    have hXe := KD.x
    obtain ⟨X, hX⟩ : ∃ X, Z ++ [10] = X := ⟨_, rfl⟩
    rw [hX] at hXe
    have hXl : X.length ≤ n + 1 := by have := KD.xl; rw [← hX, List.length_append]; simp; omega
    have HXZ := Hid.mk' hX
    clear hX
    obtain ⟨p, hp⟩ : ∃ p, sp l a = p := ⟨_, rfl⟩
    have hpn : p ≤ n := by rw [← hp, ← TT4.out.len]; exact sp_le (by omega)
    have C0 := whole_any ao n c (a : Int) (nl l : Int) l w3 (by omega) (by omega) TT4.out
    rw [KN.w] at C0
    unfold rt at C0
    have CW := Hid.mk' C0
    clear C0
    go_wp2_with fail
    refine CW.out.mono ?_
    rintro e w4 ⟨rfl, hb⟩
    clear CW
    have TT4_ := Hid.mk' (TT4.out.keep hb)
    clear TT4
    have TT4 := TT4_
    clear TT4_
    have BB4_ := Hid.mk' (bT BB4.out hb)
    clear BB4
    have BB4 := BB4_
    clear BB4_
    clear hb
    dsimp only
    go_upto_region 19 with fail
    obtain ⟨qr, hqr⟩ : ∃ q, w4.heap.size = q := ⟨_, rfl⟩
    have hbx : Below w4.heap.size w4 (w4.alloc (.cells #[.int .i64 (f : Int), .int .i64 (n : Int), .bool true, .bool true] 37)) := bAlloc (Below.refl _ _) _
    have KR : Hid (Blk (w4.alloc (.cells #[.int .i64 (f : Int), .int .i64 (n : Int), .bool true, .bool true] 37)) qr 37 #[.int .i64 (f : Int), .int .i64 (n : Int), .bool true, .bool true]) := by unfold Hid; rw [← hqr]; exact Blk.new w4 37 _
    rw [hqr]
    generalize w4.alloc (.cells #[.int .i64 (f : Int), .int .i64 (n : Int), .bool true, .bool true] 37) = w5 at *
    clear hqr
    have TT4_ := Hid.mk' (TT4.out.keep hbx)
    clear TT4
    have TT4 := TT4_
    clear TT4_
    have BB4_ := Hid.mk' (bT BB4.out hbx)
    clear BB4
    have BB4 := BB4_
    clear BB4_
    clear hbx
    obtain ⟨r0, r1, r2, r3⟩ := rgC_cells KR.out
    have C0 := start_call (i := a) TT4.out (by omega) (by omega)
    rw [if_pos (by omega), if_pos (by omega), hp] at C0
    have CS := Hid.mk' C0
    clear C0
    go_upto_region 20 with (first | (go_at_call 13; refine CS.out.mono ?_; rintro e w' ⟨rfl, hw⟩; have hq := hw.symm; subst hq; clear hw) | fail)
    clear CS
    have C0 := do_any ao n c l (p : Int) ⟨#[100]⟩ (f : Int) (n : Int) true true 1 w5 TT4.out (by omega)
    obtain ⟨cc, hcc⟩ := do_dL (l := l) (k := p) (f := f) (t := n) (D := true) (by rw [TT4.out.len]; exact hpn) (KN.r p)
    rw [hcc, hXe] at C0
    clear hcc
    rw [if_neg (by have := KD.lt; omega)] at C0
    have hn0 : ¬ n = 0 := by have := KD.lt; omega
    have CD := Hid.mk' C0
    clear C0
    go_wp2_with fail
    refine CD.out.mono ?_
    rintro e w6 ⟨v, F, tv, rfl, hF, hM, hb⟩
    clear CD
    obtain ⟨eox, ecx, rfl, hZ, -⟩ := hM.eds.edz
    obtain ⟨tox, tcx, rfl⟩ := hM.tx.shape
    obtain ⟨enx, hen⟩ : ∃ en, F.length = en := ⟨_, rfl⟩
    rw [hen]
    try dsimp only [ef0] at hF
    have FZx := Hid.mk' hZ
    have FEx := Hid.mk' hen
    have FDx := Hid.mk' hF
    have FLx : enx ≤ 1 := by rw [← hen, ← List.length_map (f := Er.d), hF]; exact sw_len _ _ _ _
    have hTR : Tx w6 tox X.length tcx X := hM.tx.tx (by show X.length ≤ 150000000000000; omega)
    clear hZ hen hM hF
    have TT4_ := Hid.mk' (TT4.out.keep hb)
    clear TT4
    have TT4 := TT4_
    clear TT4_
    have BB4_ := Hid.mk' (bT BB4.out hb)
    clear BB4
    have BB4 := BB4_
    clear BB4_
    have KR_ := Hid.mk' (KR.out.keep hb)
    clear KR
    have KR := KR_
    clear KR_
    clear hb
    have TR := Hid.mk' hTR
    clear hTR
    have HXL := Hid.mk' hXl
    clear hXl
    unfold efV
    dsimp only
    go_upto_region 21 with fail
    obtain ⟨qx, hqx⟩ : ∃ q, w6.heap.size = q := ⟨_, rfl⟩
    have hbx : Below w6.heap.size w6 (w6.alloc (.cells #[.slice eox enx ecx, .int .i64 cc, .bool true, .bool true, .slice tox X.length tcx, .int .i64 2, .bool false] 32)) := bAlloc (Below.refl _ _) _
    have Kx : Hid (Blk (w6.alloc (.cells #[.slice eox enx ecx, .int .i64 cc, .bool true, .bool true, .slice tox X.length tcx, .int .i64 2, .bool false] 32)) qx 32 #[.slice eox enx ecx, .int .i64 cc, .bool true, .bool true, .slice tox X.length tcx, .int .i64 2, .bool false]) := by unfold Hid; rw [← hqx]; exact Blk.new w6 32 _
    rw [hqx]
    generalize w6.alloc (.cells #[.slice eox enx ecx, .int .i64 cc, .bool true, .bool true, .slice tox X.length tcx, .int .i64 2, .bool false] 32) = w7 at *
    clear hqx
    have TT4_ := Hid.mk' (TT4.out.keep hbx)
    clear TT4
    have TT4 := TT4_
    clear TT4_
    have BB4_ := Hid.mk' (bT BB4.out hbx)
    clear BB4
    have BB4 := BB4_
    clear BB4_
    have KR_ := Hid.mk' (KR.out.keep hbx)
    clear KR
    have KR := KR_
    clear KR_
    have FZx_ := Hid.mk' (FZx.out.keep hbx)
    clear FZx
    have FZx := FZx_
    clear FZx_
    have TR_ := Hid.mk' (TR.out.keep hbx)
    clear TR
    have TR := TR_
    clear TR_
    clear hbx
    obtain ⟨x0, x1, x2, x3, x4, x5, x6⟩ := ef_cells Kx.out
    go_upto_region 23 with fail
    have C0 := apply_call (ec := ecx) (U := wo l f n) TT4.out (by omega) FZx.out FEx.out (by omega) FDx.out (ns_one (by simp)) (apU_wo KN.ft (by have := KN.tn; omega))
    have CD := Hid.mk' C0
    clear C0
    go_wp2_with fail
    refine CD.out.mono ?_
    rintro e w8 ⟨uo, uc, rfl, hT, hb⟩
    clear CD x0 x1 x2 x3 x4 x5 x6
    have TT4_ := Hid.mk' (TT4.out.keep hb)
    clear TT4
    have TT4 := TT4_
    clear TT4_
    have BB4_ := Hid.mk' (bT BB4.out hb)
    clear BB4
    have BB4 := BB4_
    clear BB4_
    have KR_ := Hid.mk' (KR.out.keep hb)
    clear KR
    have KR := KR_
    clear KR_
    have FZx_ := Hid.mk' (FZx.out.keep hb)
    clear FZx
    have FZx := FZx_
    clear FZx_
    have TR_ := Hid.mk' (TR.out.keep hb)
    clear TR
    have TR := TR_
    clear TR_
    have Kx_ := Hid.mk' (Kx.out.keep hb)
    clear Kx
    have Kx := Kx_
    clear Kx_
    have hul := wo_len (l := l) (f := f) (t := n) KN.ft KN.tn
    rw [TT4.out.len] at hul
    obtain ⟨un, hun⟩ : ∃ un, (wo l f n).length = un := ⟨_, rfl⟩
    rw [hun] at hT hul ⊢
    have TU := Hid.mk' hT
    have HUN := Hid.mk' hun
    have HUL := Hid.mk' hul
    have hub : un ≤ 16384 := by omega
    clear hT hb hun hul
    obtain ⟨x0, x1, x2, x3, x4, x5, x6⟩ := ef_cells Kx.out
    have hw1 : IntKind.i64.wrap ((nl l : Int) + 1 - 1) = (nl l : Int) := by rw [IntKind.wrap_i64]; omega
    go_upto_region 26 with fail
    have ha9 : ((a : Int) == 0) = false := beq_eq_false_iff_ne.2 (by omega)
    skip
    obtain ⟨a1, ha1⟩ : ∃ i, a = i + 1 := ⟨a - 1, by omega⟩
    have hwa : IntKind.i64.wrap ((a : Int) - 1) = (a1 : Int) := by rw [IntKind.wrap_i64]; omega
    have HA1 := Hid.mk' ha1
    clear ha1
    go_upto_region 31 with fail
    have hnu1 : nl (wo l f n) = a1 := by have := KD.c; have := HA1.out; omega
    obtain ⟨p2, hp2⟩ : ∃ p, sp (wo l f n) a1 = p := ⟨_, rfl⟩
    have hSt : St (wo l f n) a1 p2 := by rw [← hp2]; exact sp_st (by omega)
    have C0 := start_call (i := a1) TU.out (by omega) (by have := nl_le (wo l f n); have := TU.out.len; have := HUL.out; omega)
    rw [if_pos (by omega), if_pos (by omega), hp2] at C0
    have hpl := hSt.low'
    rw [TU.out.len] at hpl
    have CS := Hid.mk' C0
    clear C0
    go_upto_region 32 with (first | (go_at_call 13; refine CS.out.mono ?_; rintro e w' ⟨rfl, hw⟩; have hq := hw.symm; subst hq; clear hw) | fail)
    clear CS
    have C0 := put_any uo un uc (wo l f n) (p2 : Int) 1 true true tox X.length tcx X false w8 TU.out TR.out (by omega) (by have := HXL.out; omega)
    obtain ⟨y, hy, hye⟩ := put_L2 (Z := Z) hSt hnu1 (by have := KD.xl; omega)
    clear hnu1
    rw [HXZ.out] at hy
    rw [hy] at C0
    obtain ⟨es, cur, sset, lin, txt, how, typ⟩ := y
    dsimp only at hye
    subst hye
    have CD := Hid.mk' C0
    clear C0
    go_wp2_with fail
    refine CD.out.mono ?_
    rintro e w9 ⟨v, F, tv, rfl, hF, hM, hb⟩
    clear CD
    obtain ⟨eoy, ecy, rfl, hZ, -⟩ := hM.eds.edz
    obtain ⟨toy, tcy, rfl⟩ := hM.tx.shape
    obtain ⟨eny, hen⟩ : ∃ en, F.length = en := ⟨_, rfl⟩
    rw [hen]
    try dsimp only [ef0] at hF
    have FZy := Hid.mk' hZ
    have FEy := Hid.mk' hen
    have FDy := Hid.mk' hF
    have FLy : eny ≤ 1 := by rw [← hen, ← List.length_map (f := Er.d), hF]; exact sw_len _ _ _ _
    clear hZ hen hM hF
    have TT4_ := Hid.mk' (TT4.out.keep hb)
    clear TT4
    have TT4 := TT4_
    clear TT4_
    have BB4_ := Hid.mk' (bT BB4.out hb)
    clear BB4
    have BB4 := BB4_
    clear BB4_
    have KR_ := Hid.mk' (KR.out.keep hb)
    clear KR
    have KR := KR_
    clear KR_
    have FZx_ := Hid.mk' (FZx.out.keep hb)
    clear FZx
    have FZx := FZx_
    clear FZx_
    have TR_ := Hid.mk' (TR.out.keep hb)
    clear TR
    have TR := TR_
    clear TR_
    have Kx_ := Hid.mk' (Kx.out.keep hb)
    clear Kx
    have Kx := Kx_
    clear Kx_
    have TU_ := Hid.mk' (TU.out.keep hb)
    clear TU
    have TU := TU_
    clear TU_
    clear hb x0 x1 x2 x3 x4 x5 x6
    unfold efV
    dsimp only
    go_upto_region 33 with fail
    obtain ⟨qy, hqy⟩ : ∃ q, w9.heap.size = q := ⟨_, rfl⟩
    have hbx : Below w9.heap.size w9 (w9.alloc (.cells #[.slice eoy eny ecy, .int .i64 cur, .bool sset, .bool lin, .slice toy txt.length tcy, .int .i64 how, .bool typ] 32)) := bAlloc (Below.refl _ _) _
    have Ky : Hid (Blk (w9.alloc (.cells #[.slice eoy eny ecy, .int .i64 cur, .bool sset, .bool lin, .slice toy txt.length tcy, .int .i64 how, .bool typ] 32)) qy 32 #[.slice eoy eny ecy, .int .i64 cur, .bool sset, .bool lin, .slice toy txt.length tcy, .int .i64 how, .bool typ]) := by unfold Hid; rw [← hqy]; exact Blk.new w9 32 _
    rw [hqy]
    generalize w9.alloc (.cells #[.slice eoy eny ecy, .int .i64 cur, .bool sset, .bool lin, .slice toy txt.length tcy, .int .i64 how, .bool typ] 32) = w10 at *
    clear hqy
    have TT4_ := Hid.mk' (TT4.out.keep hbx)
    clear TT4
    have TT4 := TT4_
    clear TT4_
    have BB4_ := Hid.mk' (bT BB4.out hbx)
    clear BB4
    have BB4 := BB4_
    clear BB4_
    have KR_ := Hid.mk' (KR.out.keep hbx)
    clear KR
    have KR := KR_
    clear KR_
    have FZx_ := Hid.mk' (FZx.out.keep hbx)
    clear FZx
    have FZx := FZx_
    clear FZx_
    have TR_ := Hid.mk' (TR.out.keep hbx)
    clear TR
    have TR := TR_
    clear TR_
    have Kx_ := Hid.mk' (Kx.out.keep hbx)
    clear Kx
    have Kx := Kx_
    clear Kx_
    have TU_ := Hid.mk' (TU.out.keep hbx)
    clear TU
    have TU := TU_
    clear TU_
    have FZy_ := Hid.mk' (FZy.out.keep hbx)
    clear FZy
    have FZy := FZy_
    clear FZy_
    clear hbx
    obtain ⟨x0, x1, x2, x3, x4, x5, x6⟩ := ef_cells Ky.out
    have C0 := apply_call (ec := ecy) (U := l) TU.out (by omega) FZy.out FEy.out (by omega) FDy.out (ns_one (by have := KD.xl; rw [List.length_cons]; omega)) KD.back
    rw [TT4.out.len] at C0
    have CD := Hid.mk' C0
    clear C0
    go_wp2_with fail
    refine CD.out.mono ?_
    rintro e w11 ⟨vo, vc, rfl, hT, hb⟩
    clear CD x0 x1 x2 x3 x4 x5 x6
    have TT4_ := Hid.mk' (TT4.out.keep hb)
    clear TT4
    have TT4 := TT4_
    clear TT4_
    have BB4_ := Hid.mk' (bT BB4.out hb)
    clear BB4
    have BB4 := BB4_
    clear BB4_
    have KR_ := Hid.mk' (KR.out.keep hb)
    clear KR
    have KR := KR_
    clear KR_
    have FZx_ := Hid.mk' (FZx.out.keep hb)
    clear FZx
    have FZx := FZx_
    clear FZx_
    have TR_ := Hid.mk' (TR.out.keep hb)
    clear TR
    have TR := TR_
    clear TR_
    have Kx_ := Hid.mk' (Kx.out.keep hb)
    clear Kx
    have Kx := Kx_
    clear Kx_
    have TU_ := Hid.mk' (TU.out.keep hb)
    clear TU
    have TU := TU_
    clear TU_
    have FZy_ := Hid.mk' (FZy.out.keep hb)
    clear FZy
    have FZy := FZy_
    clear FZy_
    have Ky_ := Hid.mk' (Ky.out.keep hb)
    clear Ky
    have Ky := Ky_
    clear Ky_
    have TV := Hid.mk' hT
    clear hT hb
    have CN := Hid.mk' (count_any uo un uc _ w11 TU.out)
    have hnb : nl l ≤ 16384 := by have := nl_le l; rw [TT4.out.len] at this; omega
    have hq1 : IntKind.i64.wrap ((nl l : Int) - (a : Int)) = (nl l : Int) - (a : Int) := by rw [IntKind.wrap_i64]; omega
    have hq2 : IntKind.i64.wrap ((nl l : Int) - (a : Int) + 1) = (nl l : Int) - (a : Int) + 1 := by rw [IntKind.wrap_i64]; omega
    have hq3 : IntKind.i64.wrap ((nl l : Int) + 1 - ((nl l : Int) - (a : Int) + 1)) = (nl l : Int) + 1 - ((nl l : Int) - (a : Int) + 1) := by rw [IntKind.wrap_i64]; omega
    have hq4 : (nl (wo l f n) : Int) + 1 = (nl l : Int) + 1 - ((nl l : Int) - (a : Int) + 1) := by have := KD.c; omega
    rw [hq4] at CN
    clear hq4
    have ee2 := fun W9 => eq9_yes l W9
    go_wp2_with (first | (go_at_call 7; refine CN.out.mono ?_; rintro e w12 ⟨rfl, hb⟩; have cv3 := conv_tx (TV.out.keep hb); have cv4 := conv_tx (TT4.out.keep hb); have ee3 := eq9_yes l w12; have BB9 := Hid.mk' (bT BB4.out hb)) | fail)
    go_ret
    exact ⟨rfl, BB9.out⟩
  · skip
    subst h1
    subst h2
    have KN := kd3 TT4.out.len hw
    obtain ⟨X, hXe⟩ : ∃ X, tk l 0 n true false = X := ⟨_, rfl⟩
    have hXl : X.length ≤ n + 1 := by rw [← hXe, ← TT4.out.len]; exact tk_len _ _ _ _ _
    obtain ⟨p, hp⟩ : ∃ p, sp l 0 = p := ⟨_, rfl⟩
    have hpn : p ≤ n := by rw [← hp, ← TT4.out.len]; exact sp_le (by omega)
    have C0 := whole_any ao n c ((0 : Nat) : Int) (nl l : Int) l w3 (by omega) (by omega) TT4.out
    rw [KN.w] at C0
    unfold rt at C0
    have CW := Hid.mk' C0
    clear C0
    go_wp2_with fail
    refine CW.out.mono ?_
    rintro e w4 ⟨rfl, hb⟩
    clear CW
    have TT4_ := Hid.mk' (TT4.out.keep hb)
    clear TT4
    have TT4 := TT4_
    clear TT4_
    have BB4_ := Hid.mk' (bT BB4.out hb)
    clear BB4
    have BB4 := BB4_
    clear BB4_
    clear hb
    dsimp only
    go_upto_region 19 with fail
    obtain ⟨qr, hqr⟩ : ∃ q, w4.heap.size = q := ⟨_, rfl⟩
    have hbx : Below w4.heap.size w4 (w4.alloc (.cells #[.int .i64 ((0 : Nat) : Int), .int .i64 (n : Int), .bool true, .bool false] 37)) := bAlloc (Below.refl _ _) _
    have KR : Hid (Blk (w4.alloc (.cells #[.int .i64 ((0 : Nat) : Int), .int .i64 (n : Int), .bool true, .bool false] 37)) qr 37 #[.int .i64 ((0 : Nat) : Int), .int .i64 (n : Int), .bool true, .bool false]) := by unfold Hid; rw [← hqr]; exact Blk.new w4 37 _
    rw [hqr]
    generalize w4.alloc (.cells #[.int .i64 ((0 : Nat) : Int), .int .i64 (n : Int), .bool true, .bool false] 37) = w5 at *
    clear hqr
    have TT4_ := Hid.mk' (TT4.out.keep hbx)
    clear TT4
    have TT4 := TT4_
    clear TT4_
    have BB4_ := Hid.mk' (bT BB4.out hbx)
    clear BB4
    have BB4 := BB4_
    clear BB4_
    clear hbx
    obtain ⟨r0, r1, r2, r3⟩ := rgC_cells KR.out
    have C0 := start_call (i := 0) TT4.out (by omega) (by omega)
    rw [if_pos (by omega), if_pos (by omega), hp] at C0
    have CS := Hid.mk' C0
    clear C0
    go_upto_region 20 with (first | (go_at_call 13; refine CS.out.mono ?_; rintro e w' ⟨rfl, hw⟩; have hq := hw.symm; subst hq; clear hw) | fail)
    clear CS
    have C0 := do_any ao n c l (p : Int) ⟨#[100]⟩ ((0 : Nat) : Int) (n : Int) true false 1 w5 TT4.out (by omega)
    obtain ⟨cc, hcc⟩ := do_dL (l := l) (k := p) (f := 0) (t := n) (D := false) (by rw [TT4.out.len]; exact hpn) (KN.r p)
    rw [hcc, hXe] at C0
    clear hcc
    by_cases hn0 : n = 0
    · subst hn0
      rw [if_pos rfl] at C0
      have CD := Hid.mk' C0
      clear C0
      go_wp2_with fail
      refine CD.out.mono ?_
      rintro e w6 ⟨v, F, tv, rfl, hF, hM, hb⟩
      obtain ⟨eo, ec, rfl, -, -⟩ := hM.eds.edz
      obtain ⟨to', tc, rfl⟩ := hM.tx.shape
      unfold efV
      dsimp only [List.length_nil, ef0]
      have BB5 := Hid.mk' (bT BB4.out hb)
      go_wp2
      go_ret
      exact ⟨rfl, bT BB5.out (bAlloc (Below.refl _ _) _)⟩
    rw [if_neg (by omega)] at C0
    have CD := Hid.mk' C0
    clear C0
    go_wp2_with fail
    refine CD.out.mono ?_
    rintro e w6 ⟨v, F, tv, rfl, hF, hM, hb⟩
    clear CD
    obtain ⟨eox, ecx, rfl, hZ, -⟩ := hM.eds.edz
    obtain ⟨tox, tcx, rfl⟩ := hM.tx.shape
    obtain ⟨enx, hen⟩ : ∃ en, F.length = en := ⟨_, rfl⟩
    rw [hen]
    try dsimp only [ef0] at hF
    have FZx := Hid.mk' hZ
    have FEx := Hid.mk' hen
    have FDx := Hid.mk' hF
    have FLx : enx ≤ 1 := by rw [← hen, ← List.length_map (f := Er.d), hF]; exact sw_len _ _ _ _
    have hTR : Tx w6 tox X.length tcx X := hM.tx.tx (by show X.length ≤ 150000000000000; omega)
    clear hZ hen hM hF
    have TT4_ := Hid.mk' (TT4.out.keep hb)
    clear TT4
    have TT4 := TT4_
    clear TT4_
    have BB4_ := Hid.mk' (bT BB4.out hb)
    clear BB4
    have BB4 := BB4_
    clear BB4_
    have KR_ := Hid.mk' (KR.out.keep hb)
    clear KR
    have KR := KR_
    clear KR_
    clear hb
    have TR := Hid.mk' hTR
    clear hTR
    have HXL := Hid.mk' hXl
    clear hXl
    unfold efV
    dsimp only
    go_upto_region 21 with fail
    obtain ⟨qx, hqx⟩ : ∃ q, w6.heap.size = q := ⟨_, rfl⟩
    have hbx : Below w6.heap.size w6 (w6.alloc (.cells #[.slice eox enx ecx, .int .i64 cc, .bool true, .bool true, .slice tox X.length tcx, .int .i64 2, .bool false] 32)) := bAlloc (Below.refl _ _) _
    have Kx : Hid (Blk (w6.alloc (.cells #[.slice eox enx ecx, .int .i64 cc, .bool true, .bool true, .slice tox X.length tcx, .int .i64 2, .bool false] 32)) qx 32 #[.slice eox enx ecx, .int .i64 cc, .bool true, .bool true, .slice tox X.length tcx, .int .i64 2, .bool false]) := by unfold Hid; rw [← hqx]; exact Blk.new w6 32 _
    rw [hqx]
    generalize w6.alloc (.cells #[.slice eox enx ecx, .int .i64 cc, .bool true, .bool true, .slice tox X.length tcx, .int .i64 2, .bool false] 32) = w7 at *
    clear hqx
    have TT4_ := Hid.mk' (TT4.out.keep hbx)
    clear TT4
    have TT4 := TT4_
    clear TT4_
    have BB4_ := Hid.mk' (bT BB4.out hbx)
    clear BB4
    have BB4 := BB4_
    clear BB4_
    have KR_ := Hid.mk' (KR.out.keep hbx)
    clear KR
    have KR := KR_
    clear KR_
    have FZx_ := Hid.mk' (FZx.out.keep hbx)
    clear FZx
    have FZx := FZx_
    clear FZx_
    have TR_ := Hid.mk' (TR.out.keep hbx)
    clear TR
    have TR := TR_
    clear TR_
    clear hbx
    obtain ⟨x0, x1, x2, x3, x4, x5, x6⟩ := ef_cells Kx.out
    go_upto_region 23 with fail
    have C0 := apply_call (ec := ecx) (U := wo l 0 n) TT4.out (by omega) FZx.out FEx.out (by omega) FDx.out (ns_one (by simp)) (apU_wo KN.ft (by have := KN.tn; omega))
    have CD := Hid.mk' C0
    clear C0
    go_wp2_with fail
    refine CD.out.mono ?_
    rintro e w8 ⟨uo, uc, rfl, hT, hb⟩
    clear CD x0 x1 x2 x3 x4 x5 x6
    have TT4_ := Hid.mk' (TT4.out.keep hb)
    clear TT4
    have TT4 := TT4_
    clear TT4_
    have BB4_ := Hid.mk' (bT BB4.out hb)
    clear BB4
    have BB4 := BB4_
    clear BB4_
    have KR_ := Hid.mk' (KR.out.keep hb)
    clear KR
    have KR := KR_
    clear KR_
    have FZx_ := Hid.mk' (FZx.out.keep hb)
    clear FZx
    have FZx := FZx_
    clear FZx_
    have TR_ := Hid.mk' (TR.out.keep hb)
    clear TR
    have TR := TR_
    clear TR_
    have Kx_ := Hid.mk' (Kx.out.keep hb)
    clear Kx
    have Kx := Kx_
    clear Kx_
    have hul := wo_len (l := l) (f := 0) (t := n) KN.ft KN.tn
    rw [TT4.out.len] at hul
    obtain ⟨un, hun⟩ : ∃ un, (wo l 0 n).length = un := ⟨_, rfl⟩
    rw [hun] at hT hul ⊢
    have TU := Hid.mk' hT
    have HUN := Hid.mk' hun
    have HUL := Hid.mk' hul
    have hub : un ≤ 16384 := by omega
    clear hT hb hun hul
    obtain ⟨x0, x1, x2, x3, x4, x5, x6⟩ := ef_cells Kx.out
    have hw1 : IntKind.i64.wrap ((nl l : Int) + 1 - 1) = (nl l : Int) := by rw [IntKind.wrap_i64]; omega
    go_upto_region 26 with fail
    have hu0 : un = 0 := by have := HUL.out; omega
    subst hu0
    go_wp2
    go_ret
    exact ⟨rfl, BB4.out⟩
end Go.Proofs.YtppefcnopkmhbaaDoor
