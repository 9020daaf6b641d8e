/- OperBack, walked. -/
import Derived.Test.YtppefcnopkmhbaaDoorKBkl
import Derived.Test.YtppefcnopkmhbaaDoorKOcw
namespace Go.Proofs.YtppefcnopkmhbaaDoor
open Go.RowKit

set_option maxRecDepth 8000
theorem eq9_yes (x : List UInt8) (W : World) : (binOp .eql 9 (.string ⟨x.toArray⟩) (.string ⟨x.toArray⟩)).run Tryd.prog W = .ok (.bool true) W := by
  simp [binOp, Op.stringOp]
def cutC (i1 i2 : Int) (L : Bool) : Array Value := #[.int .i64 i1, .int .i64 i2, .bool L]
theorem cut_cells {W : World} {B : Nat} {i1 i2 : Int} {L : Bool} (h : Blk W B 24 (cutC i1 i2 L)) :
    W.cell? ⟨B, 0, none⟩ = some (.int .i64 i1) ∧ W.cell? ⟨B, 1, none⟩ = some (.int .i64 i2) ∧ W.cell? ⟨B, 2, none⟩ = some (.bool L) := ⟨h.cell rfl, h.cell rfl, h.cell rfl⟩
theorem ns_one {l X : List UInt8} {f t : Nat} (h : X.length ≤ 1048576) : nsum (sw l f t X) ≤ 1073741824 := by
  have := nsum_sw l f t X
  omega
set_option maxHeartbeats 16000000 in
set_option linter.unusedSimpArgs false in
theorem back_bytes (ao : Option Addr) (n c : Nat) (l : List UInt8) (i1 i2 : Int) (W : World) (HT : Tx W ao n c l) (h11 : -9223372036854775808 ≤ i1) (h12 : i1 ≤ 9223372036854775807) (h21 : -9223372036854775808 ≤ i2) (h22 : i2 ≤ 9223372036854775807) (hn0 : n ≤ 281474976710656) :
    Calls Tryd.prog 3 #[.slice ao n c, .agg #[.int .i64 i1, .int .i64 i2, .bool false]] W fun e w' => e = .returned (.bool true) ∧ Below W.heap.size W w' := by
  have hln := HT.len
  obtain ⟨W0, hW0⟩ : ∃ x, W.alloc (.cells #[.int .i64 i1, .int .i64 i2, .bool false] 24) = x := ⟨_, rfl⟩
  obtain ⟨qc, hqc⟩ : ∃ q, W.heap.size = q := ⟨_, rfl⟩
  have hb0 : Below W.heap.size W W0 := by rw [← hW0]; exact bAlloc (Below.refl _ _) _
  have KC : Hid (Blk W0 qc 24 (cutC i1 i2 false)) := by unfold Hid; rw [← hW0, ← hqc]; exact Blk.new W 24 _
  have CA := Hid.mk' (awake_any W0)
  have TT := Hid.mk' (HT.keep hb0)
  have BB := Hid.mk' hb0
  clear HT hb0
  go_enter Tryd.func3, Tryd.ntmps3
  go_upto_region 1 with fail
  clear hW0 hqc
  go_upto_region 3 with (first | (go_at_call 6; refine CA.out.mono ?_; rintro e w1 ⟨rfl, hb⟩) | fail)
  clear CA
  have TT_ := Hid.mk' (TT.out.keep hb)
  clear TT
  have TT := TT_
  clear TT_
  have BB_ := Hid.mk' (bT BB.out hb)
  clear BB
  have BB := BB_
  clear BB_
  have KC_ := Hid.mk' (KC.out.keep hb)
  clear KC
  have KC := KC_
  clear KC_
  clear hb
  by_cases hbig : (16384 : Int) < (n : Int)
  · go_wp2
    go_ret
    exact ⟨rfl, BB.out⟩
  have hn : n ≤ 16384 := by omega
  clear hn0
  have CC := Hid.mk' (count_any ao n c l w1 TT.out)
  go_upto_region 6 with (first | (go_at_call 7; refine CC.out.mono ?_; rintro e w2 ⟨rfl, hb⟩) | fail)
  clear CC
  have TT_ := Hid.mk' (TT.out.keep hb)
  clear TT
  have TT := TT_
  clear TT_
  have BB_ := Hid.mk' (bT BB.out hb)
  clear BB
  have BB := BB_
  clear BB_
  have KC_ := Hid.mk' (KC.out.keep hb)
  clear KC
  have KC := KC_
  clear KC_
  clear hb
  obtain ⟨k0, k1, k2⟩ := cut_cells KC.out
  have hw0 : IntKind.i64.wrap ((n : Int) + 1) = (n : Int) + 1 := by rw [IntKind.wrap_i64]; omega
  go_upto_region 7 with fail
  clear k0 k1 k2
  have P1 := Hid.mk' (fun W9 => place_any i1 (n + 1) W9 (by omega) h11 h12 (by omega))
  have P2 := Hid.mk' (fun W9 => place_any i2 (n + 1) W9 (by omega) h21 h22 (by omega))
  have hp1 := (plc_lt i1 (n := n + 1) (by omega)).1
  have hp2 := (plc_lt i2 (n := n + 1) (by omega)).1
  generalize plc i1 (n + 1) = pa at *
  generalize plc i2 (n + 1) = pb at *
  rw [show ((n + 1 : Nat) : Int) = (n : Int) + 1 from rfl] at P1 P2
  clear h11 h12 h21 h22
  have SZ : Hid (Blk w2.drew qc 24 (cutC i1 i2 false)) := KC.out
  have TT4 : Hid (Tx w2.drew ao n c l) := TT.out.keep (Below.refl _ _).drew
  have BB4 : Hid (Below W.heap.size W w2.drew) := BB.out.drew
  clear KC TT BB
  refine wp_region_held (S := fun w' => Blk w' qc 24 (cutC i1 i2 false)) (by kernel_rfl) ?_
  change wpAnyH _ _ _ _ _ _ _ _ (World.drew _)
  generalize w2.drew = w3 at *
  refine wpAnyH_take (i := 0) (v := .pointer (some ⟨qc, 0, none⟩)) rfl (by kernel_rfl) (by kernel_rfl) (by kernel_rfl) (fun _ _ _ h => h) (Yields.yieldsIf (Or.inl ⟨by rfl, fun w => by go_simp⟩)) SZ.out ?_
  try simp only [Act.put, List.getElem_toArray, List.getElem_cons_zero, List.getElem_cons_succ, List.setIfInBounds_toArray, List.set_cons_zero, List.set_cons_succ]
  refine wpAnyH_take (i := 1) (v := .int .i64 i1) rfl (by kernel_rfl) (by kernel_rfl) (by kernel_rfl) (fun _ _ _ h => h) (Or.inl ⟨by rfl, fun w9 h9 => by obtain ⟨y0, y1, y2⟩ := cut_cells h9; go_simp⟩) SZ.out ?_
  try simp only [Act.put, List.getElem_toArray, List.getElem_cons_zero, List.getElem_cons_succ, List.setIfInBounds_toArray, List.set_cons_zero, List.set_cons_succ]
  refine wpAnyH_take (i := 2) (v := .slice ao n c) rfl (by kernel_rfl) (by kernel_rfl) (by kernel_rfl) (fun _ _ _ h => h) (Yields.yieldsIf (Or.inl ⟨by rfl, fun w => by go_simp⟩)) SZ.out ?_
  try simp only [Act.put, List.getElem_toArray, List.getElem_cons_zero, List.getElem_cons_succ, List.setIfInBounds_toArray, List.set_cons_zero, List.set_cons_succ]
  refine wpAnyH_take (i := 3) (v := .int .i64 ((n : Nat) : Int)) rfl (by kernel_rfl) (by kernel_rfl) (by kernel_rfl) (fun _ _ _ h => h) (Yields.yieldsIf (Or.inl ⟨by rfl, fun w => by go_simp⟩)) SZ.out ?_
  try simp only [Act.put, List.getElem_toArray, List.getElem_cons_zero, List.getElem_cons_succ, List.setIfInBounds_toArray, List.set_cons_zero, List.set_cons_succ]
  refine wpAnyH_take (i := 4) (v := .int .i64 ((n : Int) + 1)) rfl (by kernel_rfl) (by kernel_rfl) (by kernel_rfl) (fun _ _ _ h => h) (Yields.yieldsIf (Or.inl ⟨by rfl, fun w => by go_simp⟩)) SZ.out ?_
  try simp only [Act.put, List.getElem_toArray, List.getElem_cons_zero, List.getElem_cons_succ, List.setIfInBounds_toArray, List.set_cons_zero, List.set_cons_succ]
  refine wpAnyH_take (i := 6) (v := .pointer (some ⟨qc, 1, none⟩)) rfl (by kernel_rfl) (by kernel_rfl) (by kernel_rfl) (fun _ _ _ h => h) (Yields.yieldsIf (Or.inl ⟨by rfl, fun w => by go_simp⟩)) SZ.out ?_
  try simp only [Act.put, List.getElem_toArray, List.getElem_cons_zero, List.getElem_cons_succ, List.setIfInBounds_toArray, List.set_cons_zero, List.set_cons_succ]
  refine wpAnyH_take (i := 7) (v := .int .i64 i2) rfl (by kernel_rfl) (by kernel_rfl) (by kernel_rfl) (fun _ _ _ h => h) (Or.inl ⟨by rfl, fun w9 h9 => by obtain ⟨y0, y1, y2⟩ := cut_cells h9; go_simp⟩) SZ.out ?_
  try simp only [Act.put, List.getElem_toArray, List.getElem_cons_zero, List.getElem_cons_succ, List.setIfInBounds_toArray, List.set_cons_zero, List.set_cons_succ]
  refine wpAnyH_take (i := 8) (v := .slice ao n c) rfl (by kernel_rfl) (by kernel_rfl) (by kernel_rfl) (fun _ _ _ h => h) (Yields.yieldsIf (Or.inl ⟨by rfl, fun w => by go_simp⟩)) SZ.out ?_
  try simp only [Act.put, List.getElem_toArray, List.getElem_cons_zero, List.getElem_cons_succ, List.setIfInBounds_toArray, List.set_cons_zero, List.set_cons_succ]
  refine wpAnyH_take (i := 9) (v := .int .i64 ((n : Nat) : Int)) rfl (by kernel_rfl) (by kernel_rfl) (by kernel_rfl) (fun _ _ _ h => h) (Yields.yieldsIf (Or.inl ⟨by rfl, fun w => by go_simp⟩)) SZ.out ?_
  try simp only [Act.put, List.getElem_toArray, List.getElem_cons_zero, List.getElem_cons_succ, List.setIfInBounds_toArray, List.set_cons_zero, List.set_cons_succ]
  refine wpAnyH_take (i := 10) (v := .int .i64 ((n : Int) + 1)) rfl (by kernel_rfl) (by kernel_rfl) (by kernel_rfl) (fun _ _ _ h => h) (Yields.yieldsIf (Or.inl ⟨by rfl, fun w => by go_simp⟩)) SZ.out ?_
  try simp only [Act.put, List.getElem_toArray, List.getElem_cons_zero, List.getElem_cons_succ, List.setIfInBounds_toArray, List.set_cons_zero, List.set_cons_succ]
  refine wpAnyH_all (rs := [5]) (by kernel_rfl) (by simp) (AllH.cons rfl (fun K hK => ?_) AllH.nil)
  go_simp
  refine (P1.out _).mono ?_
  rintro e w' ⟨rfl, hw⟩
  have hq := hw.symm
  subst hq
  clear hw
  dsimp only
  refine hK _ _ ⟨SZ.out, ?_⟩
  clear hK K
  try simp only [Act.put, List.getElem_toArray, List.getElem_cons_zero, List.getElem_cons_succ, List.setIfInBounds_toArray, List.set_cons_zero, List.set_cons_succ]
  refine wpAnyH_all (rs := [11]) (by kernel_rfl) (by simp) (AllH.cons rfl (fun K hK => ?_) AllH.nil)
  go_simp
  refine (P2.out _).mono ?_
  rintro e w' ⟨rfl, hw⟩
  have hq := hw.symm
  subst hq
  clear hw
  dsimp only
  refine hK _ _ ⟨SZ.out, ?_⟩
  clear hK K
  try simp only [Act.put, List.getElem_toArray, List.getElem_cons_zero, List.getElem_cons_succ, List.setIfInBounds_toArray, List.set_cons_zero, List.set_cons_succ]
  refine wpAnyH_take (i := 12) (v := .int .i64 (pa : Int)) rfl (by kernel_rfl) (by kernel_rfl) (by kernel_rfl) (fun _ _ _ h => h) (Yields.yieldsIf (Or.inl ⟨by rfl, fun w => by go_simp⟩)) SZ.out ?_
  try simp only [Act.put, List.getElem_toArray, List.getElem_cons_zero, List.getElem_cons_succ, List.setIfInBounds_toArray, List.set_cons_zero, List.set_cons_succ]
  refine wpAnyH_take (i := 13) (v := .int .i64 (pb : Int)) rfl (by kernel_rfl) (by kernel_rfl) (by kernel_rfl) (fun _ _ _ h => h) (Yields.yieldsIf (Or.inl ⟨by rfl, fun w => by go_simp⟩)) SZ.out ?_
  try simp only [Act.put, List.getElem_toArray, List.getElem_cons_zero, List.getElem_cons_succ, List.setIfInBounds_toArray, List.set_cons_zero, List.set_cons_succ]
  refine wpAnyH_done (by kernel_rfl) ?_ _
  obtain ⟨f, hf⟩ : ∃ f, min pa pb = f := ⟨_, rfl⟩
  obtain ⟨t, ht⟩ : ∃ t, max pa pb = t := ⟨_, rfl⟩
  have hmin : min (pa : Int) (pb : Int) = (f : Int) := by omega
  have hmax : max (pa : Int) (pb : Int) = (t : Int) := by omega
  have hft : f ≤ t := by omega
  have hpt : t < n + 1 := by omega
  clear hf ht hp1 hp2
  have htn : t ≤ n := by omega
  go_upto_region 9 with fail
  have C0 := do_any ao n c l (f : Int) ⟨#[100]⟩ (f : Int) (t : Int) false false 1 w3 TT4.out (by omega)
  rw [do_dB hft (by omega)] at C0
  by_cases hfe : f = t
  · subst hfe
    rw [if_pos rfl] at C0
    have CD := Hid.mk' C0
    clear C0
    go_wp2_with fail
    refine CD.out.mono ?_
    rintro e w4 ⟨v, F, tv, rfl, hF, hM, hb⟩
    obtain ⟨eo, ec, rfl, -, -⟩ := hM.eds.edz
    obtain ⟨to', tc, rfl⟩ := hM.tx.shape
    unfold efV
    dsimp only [List.length_nil, ef0]
    have BB5 := Hid.mk' (bT BB4.out hb)
    go_wp2
    go_ret
    exact ⟨rfl, bT BB5.out (bAlloc (Below.refl _ _) _)⟩
  rw [if_neg hfe] at C0
  have hXl : (sl l f t).length = t - f := sl_len (by omega)
  obtain ⟨X, hX⟩ : ∃ X, sl l f t = X := ⟨_, rfl⟩
  rw [hX] at C0 hXl
  have HX := Hid.mk' hX
  have HXL := Hid.mk' hXl
  clear hX hXl
  have CD := Hid.mk' C0
  clear C0
  go_wp2_with fail
  refine CD.out.mono ?_
  rintro e w4 ⟨v, F, tv, rfl, hF, hM, hb⟩
  clear CD
  obtain ⟨eox, ecx, rfl, hZ, -⟩ := hM.eds.edz
  obtain ⟨tox, tcx, rfl⟩ := hM.tx.shape
  obtain ⟨enx, hen⟩ : ∃ en, F.length = en := ⟨_, rfl⟩
  rw [hen]
  try dsimp only [ef0] at hF
  have FZx := Hid.mk' hZ
  have FEx := Hid.mk' hen
  have FDx := Hid.mk' hF
  have FLx : enx ≤ 1 := by rw [← hen, ← List.length_map (f := Er.d), hF]; exact sw_len _ _ _ _
  have hTR : Tx w4 tox X.length tcx X := hM.tx.tx (by show X.length ≤ 150000000000000; have := HXL.out; omega)
  generalize hwE false X = hw at *
  clear hZ hen hM hF
  have TT4_ := Hid.mk' (TT4.out.keep hb)
  clear TT4
  have TT4 := TT4_
  clear TT4_
  have BB4_ := Hid.mk' (bT BB4.out hb)
  clear BB4
  have BB4 := BB4_
  clear BB4_
  clear hb
  have TR := Hid.mk' hTR
  clear hTR
  unfold efV
  dsimp only
  have hfe2 : ¬ (f : Int) = (t : Int) := by omega
  go_upto_region 12 with fail
  obtain ⟨qx, hqx⟩ : ∃ q, w4.heap.size = q := ⟨_, rfl⟩
  have hbx : Below w4.heap.size w4 (w4.alloc (.cells #[.slice eox enx ecx, .int .i64 (f : Int), .bool true, .bool false, .slice tox X.length tcx, .int .i64 hw, .bool false] 32)) := bAlloc (Below.refl _ _) _
  have Kx : Hid (Blk (w4.alloc (.cells #[.slice eox enx ecx, .int .i64 (f : Int), .bool true, .bool false, .slice tox X.length tcx, .int .i64 hw, .bool false] 32)) qx 32 #[.slice eox enx ecx, .int .i64 (f : Int), .bool true, .bool false, .slice tox X.length tcx, .int .i64 hw, .bool false]) := by unfold Hid; rw [← hqx]; exact Blk.new w4 32 _
  rw [hqx]
  generalize w4.alloc (.cells #[.slice eox enx ecx, .int .i64 (f : Int), .bool true, .bool false, .slice tox X.length tcx, .int .i64 hw, .bool false] 32) = w5 at *
  clear hqx
  have TT4_ := Hid.mk' (TT4.out.keep hbx)
  clear TT4
  have TT4 := TT4_
  clear TT4_
  have BB4_ := Hid.mk' (bT BB4.out hbx)
  clear BB4
  have BB4 := BB4_
  clear BB4_
  have FZx_ := Hid.mk' (FZx.out.keep hbx)
  clear FZx
  have FZx := FZx_
  clear FZx_
  have TR_ := Hid.mk' (TR.out.keep hbx)
  clear TR
  have TR := TR_
  clear TR_
  clear hbx
  obtain ⟨x0, x1, x2, x3, x4, x5, x6⟩ := ef_cells Kx.out
  have C0 := apply_call (ec := ecx) (U := wo l f t) TT4.out (by omega) FZx.out FEx.out (by omega) FDx.out (ns_one (by simp)) (apU_wo hft (by have := TT4.out.len; omega))
  have CD := Hid.mk' C0
  clear C0
  go_wp2_with fail
  refine CD.out.mono ?_
  rintro e w6 ⟨uo, uc, rfl, hT, hb⟩
  clear CD x0 x1 x2 x3 x4 x5 x6
  have TT4_ := Hid.mk' (TT4.out.keep hb)
  clear TT4
  have TT4 := TT4_
  clear TT4_
  have BB4_ := Hid.mk' (bT BB4.out hb)
  clear BB4
  have BB4 := BB4_
  clear BB4_
  have FZx_ := Hid.mk' (FZx.out.keep hb)
  clear FZx
  have FZx := FZx_
  clear FZx_
  have TR_ := Hid.mk' (TR.out.keep hb)
  clear TR
  have TR := TR_
  clear TR_
  have Kx_ := Hid.mk' (Kx.out.keep hb)
  clear Kx
  have Kx := Kx_
  clear Kx_
  have hul := wo_len (l := l) hft (by have := TT4.out.len; omega)
  rw [TT4.out.len] at hul
  rw [hul] at hT ⊢
  have TU := Hid.mk' hT
  clear hT hb
  obtain ⟨un, hun⟩ : ∃ un, n - (t - f) = un := ⟨_, rfl⟩
  rw [hun] at TU hul ⊢
  obtain ⟨x0, x1, x2, x3, x4, x5, x6⟩ := ef_cells Kx.out
  go_upto_region 13 with fail
  have C0 := put_any uo un uc (wo l f t) (f : Int) 1 true false tox X.length tcx X true w6 TU.out TR.out (by omega) (by have := HXL.out; omega)
  obtain ⟨y, hy, hye⟩ := put_B (l := wo l f t) (X := X) (f := f) (by omega) (by have := HXL.out; omega) (by have := HXL.out; omega)
  rw [hy] at C0
  obtain ⟨es, cur, sset, lin, txt, how, typ⟩ := y
  dsimp only at hye
  subst hye
  have CD := Hid.mk' C0
  clear C0
  go_wp2_with fail
  refine CD.out.mono ?_
  rintro e w7 ⟨v, F, tv, rfl, hF, hM, hb⟩
  clear CD
  obtain ⟨eoy, ecy, rfl, hZ, -⟩ := hM.eds.edz
  obtain ⟨toy, tcy, rfl⟩ := hM.tx.shape
  obtain ⟨eny, hen⟩ : ∃ en, F.length = en := ⟨_, rfl⟩
  rw [hen]
  try dsimp only [ef0] at hF
  have FZy := Hid.mk' hZ
  have FEy := Hid.mk' hen
  have FDy := Hid.mk' hF
  have FLy : eny ≤ 1 := by rw [← hen, ← List.length_map (f := Er.d), hF]; exact sw_len _ _ _ _
  clear hZ hen hM hF
  have TT4_ := Hid.mk' (TT4.out.keep hb)
  clear TT4
  have TT4 := TT4_
  clear TT4_
  have BB4_ := Hid.mk' (bT BB4.out hb)
  clear BB4
  have BB4 := BB4_
  clear BB4_
  have FZx_ := Hid.mk' (FZx.out.keep hb)
  clear FZx
  have FZx := FZx_
  clear FZx_
  have TR_ := Hid.mk' (TR.out.keep hb)
  clear TR
  have TR := TR_
  clear TR_
  have Kx_ := Hid.mk' (Kx.out.keep hb)
  clear Kx
  have Kx := Kx_
  clear Kx_
  have TU_ := Hid.mk' (TU.out.keep hb)
  clear TU
  have TU := TU_
  clear TU_
  clear hb x0 x1 x2 x3 x4 x5 x6
  unfold efV
  dsimp only
  go_upto_region 14 with fail
  obtain ⟨qy, hqy⟩ : ∃ q, w7.heap.size = q := ⟨_, rfl⟩
  have hbx : Below w7.heap.size w7 (w7.alloc (.cells #[.slice eoy eny ecy, .int .i64 cur, .bool sset, .bool lin, .slice toy txt.length tcy, .int .i64 how, .bool typ] 32)) := bAlloc (Below.refl _ _) _
  have Ky : Hid (Blk (w7.alloc (.cells #[.slice eoy eny ecy, .int .i64 cur, .bool sset, .bool lin, .slice toy txt.length tcy, .int .i64 how, .bool typ] 32)) qy 32 #[.slice eoy eny ecy, .int .i64 cur, .bool sset, .bool lin, .slice toy txt.length tcy, .int .i64 how, .bool typ]) := by unfold Hid; rw [← hqy]; exact Blk.new w7 32 _
  rw [hqy]
  generalize w7.alloc (.cells #[.slice eoy eny ecy, .int .i64 cur, .bool sset, .bool lin, .slice toy txt.length tcy, .int .i64 how, .bool typ] 32) = w8 at *
  clear hqy
  have TT4_ := Hid.mk' (TT4.out.keep hbx)
  clear TT4
  have TT4 := TT4_
  clear TT4_
  have BB4_ := Hid.mk' (bT BB4.out hbx)
  clear BB4
  have BB4 := BB4_
  clear BB4_
  have FZx_ := Hid.mk' (FZx.out.keep hbx)
  clear FZx
  have FZx := FZx_
  clear FZx_
  have TR_ := Hid.mk' (TR.out.keep hbx)
  clear TR
  have TR := TR_
  clear TR_
  have Kx_ := Hid.mk' (Kx.out.keep hbx)
  clear Kx
  have Kx := Kx_
  clear Kx_
  have TU_ := Hid.mk' (TU.out.keep hbx)
  clear TU
  have TU := TU_
  clear TU_
  have FZy_ := Hid.mk' (FZy.out.keep hbx)
  clear FZy
  have FZy := FZy_
  clear FZy_
  clear hbx
  obtain ⟨x0, x1, x2, x3, x4, x5, x6⟩ := ef_cells Ky.out
  have hbk := back_B (l := l) hft (by have := TT4.out.len; omega)
  rw [HX.out] at hbk
  have C0 := apply_call (ec := ecy) (U := l) TU.out (by omega) FZy.out FEy.out (by omega) FDy.out (ns_one (by have := HXL.out; omega)) hbk
  rw [TT4.out.len] at C0
  have CD := Hid.mk' C0
  clear C0
  go_wp2_with fail
  refine CD.out.mono ?_
  rintro e w9 ⟨vo, vc, rfl, hT, hb⟩
  clear CD x0 x1 x2 x3 x4 x5 x6 hbk
  have TT4_ := Hid.mk' (TT4.out.keep hb)
  clear TT4
  have TT4 := TT4_
  clear TT4_
  have BB4_ := Hid.mk' (bT BB4.out hb)
  clear BB4
  have BB4 := BB4_
  clear BB4_
  have FZx_ := Hid.mk' (FZx.out.keep hb)
  clear FZx
  have FZx := FZx_
  clear FZx_
  have TR_ := Hid.mk' (TR.out.keep hb)
  clear TR
  have TR := TR_
  clear TR_
  have Kx_ := Hid.mk' (Kx.out.keep hb)
  clear Kx
  have Kx := Kx_
  clear Kx_
  have TU_ := Hid.mk' (TU.out.keep hb)
  clear TU
  have TU := TU_
  clear TU_
  have FZy_ := Hid.mk' (FZy.out.keep hb)
  clear FZy
  have FZy := FZy_
  clear FZy_
  have Ky_ := Hid.mk' (Ky.out.keep hb)
  clear Ky
  have Ky := Ky_
  clear Ky_
  have TV := Hid.mk' hT
  clear hT hb
  obtain ⟨x0, x1, x2, x3, x4, x5, x6⟩ := ef_cells Kx.out
  obtain ⟨a3, c3, hs3, hT3⟩ := sl_lh' TT4.out hft htn
  rw [HX.out] at hT3
  have hw1 : IntKind.i64.wrap ((t : Int) - (f : Int)) = (t : Int) - (f : Int) := by rw [IntKind.wrap_i64]; omega
  have hw2 : IntKind.i64.wrap ((n : Int) - ((t : Int) - (f : Int))) = (n : Int) - ((t : Int) - (f : Int)) := by rw [IntKind.wrap_i64]; omega
  have hui : (un : Int) = (n : Int) - ((t : Int) - (f : Int)) := by omega
  have hz0 : (0 : Int) ≤ (f : Int) := by omega
  have hz1 : (f : Int) ≤ (t : Int) := by omega
  have hz2 : (t : Int) ≤ (n : Int) := by omega
  have hz3 : (t : Int) ≤ (c : Int) := by have := TT4.out.cap; omega
  have T3 := Hid.mk' hT3
  have KB9 : Hid (Below w9.heap.size w9 w9.drew) := (Below.refl _ _).drew
  clear hT3 x0 x1 x2 x3 x4 x5 x6
  go_upto_region 15 with fail
  refine wp_region_held (S := fun w' => Below w9.heap.size w9 w') (by kernel_rfl) ?_
  change wpAnyH _ _ _ _ _ _ _ _ (World.drew _)
  generalize w9.drew = w10 at *
  refine wpAnyH_take (i := 0) (v := .int .i64 0) rfl (by kernel_rfl) (by kernel_rfl) (by kernel_rfl) (fun _ _ _ h => h) (Yields.yieldsIf (Or.inl ⟨by rfl, fun w => by go_simp⟩)) KB9.out ?_
  try simp only [Act.put, List.getElem_toArray, List.getElem_cons_zero, List.getElem_cons_succ, List.setIfInBounds_toArray, List.set_cons_zero, List.set_cons_succ]
  refine wpAnyH_take (i := 1) (v := .bool true) rfl (by kernel_rfl) (by kernel_rfl) (by kernel_rfl) (fun _ _ _ h => h) (Yields.yieldsIf (Or.inl ⟨by rfl, fun w => by go_simp⟩)) KB9.out ?_
  try simp only [Act.put, List.getElem_toArray, List.getElem_cons_zero, List.getElem_cons_succ, List.setIfInBounds_toArray, List.set_cons_zero, List.set_cons_succ]
  refine wpAnyH_take (i := 2) (v := .bool true) rfl (by kernel_rfl) (by kernel_rfl) (by kernel_rfl) (fun _ _ _ h => h) (Yields.yieldsIf (Or.inl ⟨by rfl, fun w => by go_simp⟩)) KB9.out ?_
  try simp only [Act.put, List.getElem_toArray, List.getElem_cons_zero, List.getElem_cons_succ, List.setIfInBounds_toArray, List.set_cons_zero, List.set_cons_succ]
  refine wpAnyH_take (i := 3) (v := .int .i64 0) rfl (by kernel_rfl) (by kernel_rfl) (by kernel_rfl) (fun _ _ _ h => h) (Yields.yieldsIf (Or.inl ⟨by rfl, fun w => by go_simp⟩)) KB9.out ?_
  try simp only [Act.put, List.getElem_toArray, List.getElem_cons_zero, List.getElem_cons_succ, List.setIfInBounds_toArray, List.set_cons_zero, List.set_cons_succ]
  refine wpAnyH_take (i := 4) (v := .bool true) rfl (by kernel_rfl) (by kernel_rfl) (by kernel_rfl) (fun _ _ _ h => h) (Yields.yieldsIf (Or.inl ⟨by rfl, fun w => by go_simp⟩)) KB9.out ?_
  try simp only [Act.put, List.getElem_toArray, List.getElem_cons_zero, List.getElem_cons_succ, List.setIfInBounds_toArray, List.set_cons_zero, List.set_cons_succ]
  refine wpAnyH_take (i := 5) (v := .bool true) rfl (by kernel_rfl) (by kernel_rfl) (by kernel_rfl) (fun _ _ _ h => h) (Yields.yieldsIf (Or.inl ⟨by rfl, fun w => by go_simp⟩)) KB9.out ?_
  try simp only [Act.put, List.getElem_toArray, List.getElem_cons_zero, List.getElem_cons_succ, List.setIfInBounds_toArray, List.set_cons_zero, List.set_cons_succ]
  refine wpAnyH_take (i := 6) (v := .bool true) rfl (by kernel_rfl) (by kernel_rfl) (by kernel_rfl) (fun _ _ _ h => h) (Yields.yieldsIf (Or.inl ⟨by rfl, fun w => by go_simp⟩)) KB9.out ?_
  try simp only [Act.put, List.getElem_toArray, List.getElem_cons_zero, List.getElem_cons_succ, List.setIfInBounds_toArray, List.set_cons_zero, List.set_cons_succ]
  refine wpAnyH_take (i := 7) (v := .int .i64 0) rfl (by kernel_rfl) (by kernel_rfl) (by kernel_rfl) (fun _ _ _ h => h) (Yields.yieldsIf (Or.inl ⟨by rfl, fun w => by go_simp⟩)) KB9.out ?_
  try simp only [Act.put, List.getElem_toArray, List.getElem_cons_zero, List.getElem_cons_succ, List.setIfInBounds_toArray, List.set_cons_zero, List.set_cons_succ]
  refine wpAnyH_take (i := 8) (v := .bool true) rfl (by kernel_rfl) (by kernel_rfl) (by kernel_rfl) (fun _ _ _ h => h) (Yields.yieldsIf (Or.inl ⟨by rfl, fun w => by go_simp⟩)) KB9.out ?_
  try simp only [Act.put, List.getElem_toArray, List.getElem_cons_zero, List.getElem_cons_succ, List.setIfInBounds_toArray, List.set_cons_zero, List.set_cons_succ]
  refine wpAnyH_take (i := 9) (v := .bool true) rfl (by kernel_rfl) (by kernel_rfl) (by kernel_rfl) (fun _ _ _ h => h) (Yields.yieldsIf (Or.inl ⟨by rfl, fun w => by go_simp⟩)) KB9.out ?_
  try simp only [Act.put, List.getElem_toArray, List.getElem_cons_zero, List.getElem_cons_succ, List.setIfInBounds_toArray, List.set_cons_zero, List.set_cons_succ]
  refine wpAnyH_take (i := 10) (v := .bool true) rfl (by kernel_rfl) (by kernel_rfl) (by kernel_rfl) (fun _ _ _ h => h) (Yields.yieldsIf (Or.inl ⟨by rfl, fun w => by go_simp⟩)) KB9.out ?_
  try simp only [Act.put, List.getElem_toArray, List.getElem_cons_zero, List.getElem_cons_succ, List.setIfInBounds_toArray, List.set_cons_zero, List.set_cons_succ]
  refine wpAnyH_take (i := 11) (v := .int .i64 0) rfl (by kernel_rfl) (by kernel_rfl) (by kernel_rfl) (fun _ _ _ h => h) (Yields.yieldsIf (Or.inl ⟨by rfl, fun w => by go_simp⟩)) KB9.out ?_
  try simp only [Act.put, List.getElem_toArray, List.getElem_cons_zero, List.getElem_cons_succ, List.setIfInBounds_toArray, List.set_cons_zero, List.set_cons_succ]
  refine wpAnyH_take (i := 12) (v := .bool true) rfl (by kernel_rfl) (by kernel_rfl) (by kernel_rfl) (fun _ _ _ h => h) (Yields.yieldsIf (Or.inl ⟨by rfl, fun w => by go_simp⟩)) KB9.out ?_
  try simp only [Act.put, List.getElem_toArray, List.getElem_cons_zero, List.getElem_cons_succ, List.setIfInBounds_toArray, List.set_cons_zero, List.set_cons_succ]
  refine wpAnyH_take (i := 13) (v := .bool true) rfl (by kernel_rfl) (by kernel_rfl) (by kernel_rfl) (fun _ _ _ h => h) (Yields.yieldsIf (Or.inl ⟨by rfl, fun w => by go_simp⟩)) KB9.out ?_
  try simp only [Act.put, List.getElem_toArray, List.getElem_cons_zero, List.getElem_cons_succ, List.setIfInBounds_toArray, List.set_cons_zero, List.set_cons_succ]
  refine wpAnyH_take (i := 14) (v := .bool true) rfl (by kernel_rfl) (by kernel_rfl) (by kernel_rfl) (fun _ _ _ h => h) (Yields.yieldsIf (Or.inl ⟨by rfl, fun w => by go_simp⟩)) KB9.out ?_
  try simp only [Act.put, List.getElem_toArray, List.getElem_cons_zero, List.getElem_cons_succ, List.setIfInBounds_toArray, List.set_cons_zero, List.set_cons_succ]
  refine wpAnyH_take (i := 15) (v := .pointer (some ⟨qx, 2, none⟩)) rfl (by kernel_rfl) (by kernel_rfl) (by kernel_rfl) (fun _ _ _ h => h) (Yields.yieldsIf (Or.inl ⟨by rfl, fun w => by go_simp⟩)) KB9.out ?_
  try simp only [Act.put, List.getElem_toArray, List.getElem_cons_zero, List.getElem_cons_succ, List.setIfInBounds_toArray, List.set_cons_zero, List.set_cons_succ]
  refine wpAnyH_take (i := 16) (v := .pointer (some ⟨qx, 4, none⟩)) rfl (by kernel_rfl) (by kernel_rfl) (by kernel_rfl) (fun _ _ _ h => h) (Yields.yieldsIf (Or.inl ⟨by rfl, fun w => by go_simp⟩)) KB9.out ?_
  try simp only [Act.put, List.getElem_toArray, List.getElem_cons_zero, List.getElem_cons_succ, List.setIfInBounds_toArray, List.set_cons_zero, List.set_cons_succ]
  refine wpAnyH_take (i := 17) (v := .slice tox X.length tcx) rfl (by kernel_rfl) (by kernel_rfl) (by kernel_rfl) (fun _ _ _ h => h) (Or.inl ⟨by rfl, fun w9 h9 => by obtain ⟨x0, x1, x2, x3, x4, x5, x6⟩ := ef_cells (Kx.out.keep h9); go_simp⟩) KB9.out ?_
  try simp only [Act.put, List.getElem_toArray, List.getElem_cons_zero, List.getElem_cons_succ, List.setIfInBounds_toArray, List.set_cons_zero, List.set_cons_succ]
  refine wpAnyH_take (i := 18) (v := .string ⟨X.toArray⟩) rfl (by kernel_rfl) (by kernel_rfl) (by kernel_rfl) (fun _ _ _ h => h) (Or.inl ⟨by rfl, fun w9' h9 => by have z1 := conv_tx (TR.out.keep h9); go_simp⟩) KB9.out ?_
  try simp only [Act.put, List.getElem_toArray, List.getElem_cons_zero, List.getElem_cons_succ, List.setIfInBounds_toArray, List.set_cons_zero, List.set_cons_succ]
  refine wpAnyH_take (i := 19) (v := .slice ao n c) rfl (by kernel_rfl) (by kernel_rfl) (by kernel_rfl) (fun _ _ _ h => h) (Yields.yieldsIf (Or.inl ⟨by rfl, fun w => by go_simp⟩)) KB9.out ?_
  try simp only [Act.put, List.getElem_toArray, List.getElem_cons_zero, List.getElem_cons_succ, List.setIfInBounds_toArray, List.set_cons_zero, List.set_cons_succ]
  refine wpAnyH_take (i := 20) (v := .int .i64 (f : Int)) rfl (by kernel_rfl) (by kernel_rfl) (by kernel_rfl) (fun _ _ _ h => h) (Yields.yieldsIf (Or.inl ⟨by rfl, fun w => by go_simp⟩)) KB9.out ?_
  try simp only [Act.put, List.getElem_toArray, List.getElem_cons_zero, List.getElem_cons_succ, List.setIfInBounds_toArray, List.set_cons_zero, List.set_cons_succ]
  refine wpAnyH_take (i := 21) (v := .int .i64 (t : Int)) rfl (by kernel_rfl) (by kernel_rfl) (by kernel_rfl) (fun _ _ _ h => h) (Yields.yieldsIf (Or.inl ⟨by rfl, fun w => by go_simp⟩)) KB9.out ?_
  try simp only [Act.put, List.getElem_toArray, List.getElem_cons_zero, List.getElem_cons_succ, List.setIfInBounds_toArray, List.set_cons_zero, List.set_cons_succ]
  refine wpAnyH_take (i := 22) (v := .slice a3 (t - f) c3) rfl (by kernel_rfl) (by kernel_rfl) (by kernel_rfl) (fun _ _ _ h => h) (Yields.yieldsIf (Or.inl ⟨by rfl, fun w => by go_simp⟩)) KB9.out ?_
  try simp only [Act.put, List.getElem_toArray, List.getElem_cons_zero, List.getElem_cons_succ, List.setIfInBounds_toArray, List.set_cons_zero, List.set_cons_succ]
  refine wpAnyH_take (i := 23) (v := .string ⟨X.toArray⟩) rfl (by kernel_rfl) (by kernel_rfl) (by kernel_rfl) (fun _ _ _ h => h) (Or.inl ⟨by rfl, fun w9' h9 => by have z1 := conv_tx (T3.out.keep h9); go_simp⟩) KB9.out ?_
  try simp only [Act.put, List.getElem_toArray, List.getElem_cons_zero, List.getElem_cons_succ, List.setIfInBounds_toArray, List.set_cons_zero, List.set_cons_succ]
  refine wpAnyH_take (i := 24) (v := .bool true) rfl (by kernel_rfl) (by kernel_rfl) (by kernel_rfl) (fun _ _ _ h => h) (Yields.yieldsIf (Or.inl ⟨by rfl, fun w => by have z := eq9_yes X w; go_simp⟩)) KB9.out ?_
  try simp only [Act.put, List.getElem_toArray, List.getElem_cons_zero, List.getElem_cons_succ, List.setIfInBounds_toArray, List.set_cons_zero, List.set_cons_succ]
  refine wpAnyH_take (i := 25) (v := .bool true) rfl (by kernel_rfl) (by kernel_rfl) (by kernel_rfl) (fun _ _ _ h => h) (Yields.yieldsIf (Or.inl ⟨by rfl, fun w => by go_simp⟩)) KB9.out ?_
  try simp only [Act.put, List.getElem_toArray, List.getElem_cons_zero, List.getElem_cons_succ, List.setIfInBounds_toArray, List.set_cons_zero, List.set_cons_succ]
  refine wpAnyH_take (i := 26) (v := .bool true) rfl (by kernel_rfl) (by kernel_rfl) (by kernel_rfl) (fun _ _ _ h => h) (Yields.yieldsIf (Or.inl ⟨by rfl, fun w => by go_simp⟩)) KB9.out ?_
  try simp only [Act.put, List.getElem_toArray, List.getElem_cons_zero, List.getElem_cons_succ, List.setIfInBounds_toArray, List.set_cons_zero, List.set_cons_succ]
  refine wpAnyH_take (i := 27) (v := .pointer (some ⟨qx, 2, none⟩)) rfl (by kernel_rfl) (by kernel_rfl) (by kernel_rfl) (fun _ _ _ h => h) (Yields.yieldsIf (Or.inl ⟨by rfl, fun w => by go_simp⟩)) KB9.out ?_
  try simp only [Act.put, List.getElem_toArray, List.getElem_cons_zero, List.getElem_cons_succ, List.setIfInBounds_toArray, List.set_cons_zero, List.set_cons_succ]
  refine wpAnyH_take (i := 28) (v := .pointer (some ⟨qx, 3, none⟩)) rfl (by kernel_rfl) (by kernel_rfl) (by kernel_rfl) (fun _ _ _ h => h) (Yields.yieldsIf (Or.inl ⟨by rfl, fun w => by go_simp⟩)) KB9.out ?_
  try simp only [Act.put, List.getElem_toArray, List.getElem_cons_zero, List.getElem_cons_succ, List.setIfInBounds_toArray, List.set_cons_zero, List.set_cons_succ]
  refine wpAnyH_take (i := 29) (v := .bool false) rfl (by kernel_rfl) (by kernel_rfl) (by kernel_rfl) (fun _ _ _ h => h) (Or.inl ⟨by rfl, fun w9 h9 => by obtain ⟨x0, x1, x2, x3, x4, x5, x6⟩ := ef_cells (Kx.out.keep h9); go_simp⟩) KB9.out ?_
  try simp only [Act.put, List.getElem_toArray, List.getElem_cons_zero, List.getElem_cons_succ, List.setIfInBounds_toArray, List.set_cons_zero, List.set_cons_succ]
  refine wpAnyH_take (i := 30) (v := .bool true) rfl (by kernel_rfl) (by kernel_rfl) (by kernel_rfl) (fun _ _ _ h => h) (Yields.yieldsIf (Or.inl ⟨by rfl, fun w => by go_simp⟩)) KB9.out ?_
  try simp only [Act.put, List.getElem_toArray, List.getElem_cons_zero, List.getElem_cons_succ, List.setIfInBounds_toArray, List.set_cons_zero, List.set_cons_succ]
  refine wpAnyH_take (i := 31) (v := .bool true) rfl (by kernel_rfl) (by kernel_rfl) (by kernel_rfl) (fun _ _ _ h => h) (Yields.yieldsIf (Or.inl ⟨by rfl, fun w => by go_simp⟩)) KB9.out ?_
  try simp only [Act.put, List.getElem_toArray, List.getElem_cons_zero, List.getElem_cons_succ, List.setIfInBounds_toArray, List.set_cons_zero, List.set_cons_succ]
  refine wpAnyH_take (i := 32) (v := .bool true) rfl (by kernel_rfl) (by kernel_rfl) (by kernel_rfl) (fun _ _ _ h => h) (Yields.yieldsIf (Or.inl ⟨by rfl, fun w => by go_simp⟩)) KB9.out ?_
  try simp only [Act.put, List.getElem_toArray, List.getElem_cons_zero, List.getElem_cons_succ, List.setIfInBounds_toArray, List.set_cons_zero, List.set_cons_succ]
  refine wpAnyH_take (i := 33) (v := .slice vo n vc) rfl (by kernel_rfl) (by kernel_rfl) (by kernel_rfl) (fun _ _ _ h => h) (Yields.yieldsIf (Or.inl ⟨by rfl, fun w => by go_simp⟩)) KB9.out ?_
  try simp only [Act.put, List.getElem_toArray, List.getElem_cons_zero, List.getElem_cons_succ, List.setIfInBounds_toArray, List.set_cons_zero, List.set_cons_succ]
  refine wpAnyH_take (i := 34) (v := .string ⟨l.toArray⟩) rfl (by kernel_rfl) (by kernel_rfl) (by kernel_rfl) (fun _ _ _ h => h) (Or.inl ⟨by rfl, fun w9' h9 => by have z1 := conv_tx (TV.out.keep h9); go_simp⟩) KB9.out ?_
  try simp only [Act.put, List.getElem_toArray, List.getElem_cons_zero, List.getElem_cons_succ, List.setIfInBounds_toArray, List.set_cons_zero, List.set_cons_succ]
  refine wpAnyH_take (i := 35) (v := .slice ao n c) rfl (by kernel_rfl) (by kernel_rfl) (by kernel_rfl) (fun _ _ _ h => h) (Yields.yieldsIf (Or.inl ⟨by rfl, fun w => by go_simp⟩)) KB9.out ?_
  try simp only [Act.put, List.getElem_toArray, List.getElem_cons_zero, List.getElem_cons_succ, List.setIfInBounds_toArray, List.set_cons_zero, List.set_cons_succ]
  refine wpAnyH_take (i := 36) (v := .string ⟨l.toArray⟩) rfl (by kernel_rfl) (by kernel_rfl) (by kernel_rfl) (fun _ _ _ h => h) (Or.inl ⟨by rfl, fun w9' h9 => by have z1 := conv_tx (TT4.out.keep h9); go_simp⟩) KB9.out ?_
  try simp only [Act.put, List.getElem_toArray, List.getElem_cons_zero, List.getElem_cons_succ, List.setIfInBounds_toArray, List.set_cons_zero, List.set_cons_succ]
  refine wpAnyH_take (i := 37) (v := .bool true) rfl (by kernel_rfl) (by kernel_rfl) (by kernel_rfl) (fun _ _ _ h => h) (Yields.yieldsIf (Or.inl ⟨by rfl, fun w => by have z := eq9_yes l w; go_simp⟩)) KB9.out ?_
  try simp only [Act.put, List.getElem_toArray, List.getElem_cons_zero, List.getElem_cons_succ, List.setIfInBounds_toArray, List.set_cons_zero, List.set_cons_succ]
  refine wpAnyH_take (i := 38) (v := .bool true) rfl (by kernel_rfl) (by kernel_rfl) (by kernel_rfl) (fun _ _ _ h => h) (Yields.yieldsIf (Or.inl ⟨by rfl, fun w => by go_simp⟩)) KB9.out ?_
  try simp only [Act.put, List.getElem_toArray, List.getElem_cons_zero, List.getElem_cons_succ, List.setIfInBounds_toArray, List.set_cons_zero, List.set_cons_succ]
  refine wpAnyH_take (i := 39) (v := .bool true) rfl (by kernel_rfl) (by kernel_rfl) (by kernel_rfl) (fun _ _ _ h => h) (Yields.yieldsIf (Or.inl ⟨by rfl, fun w => by go_simp⟩)) KB9.out ?_
  try simp only [Act.put, List.getElem_toArray, List.getElem_cons_zero, List.getElem_cons_succ, List.setIfInBounds_toArray, List.set_cons_zero, List.set_cons_succ]
  refine wpAnyH_take (i := 40) (v := .slice uo un uc) rfl (by kernel_rfl) (by kernel_rfl) (by kernel_rfl) (fun _ _ _ h => h) (Yields.yieldsIf (Or.inl ⟨by rfl, fun w => by go_simp⟩)) KB9.out ?_
  try simp only [Act.put, List.getElem_toArray, List.getElem_cons_zero, List.getElem_cons_succ, List.setIfInBounds_toArray, List.set_cons_zero, List.set_cons_succ]
  refine wpAnyH_take (i := 41) (v := .int .i64 ((un : Nat) : Int)) rfl (by kernel_rfl) (by kernel_rfl) (by kernel_rfl) (fun _ _ _ h => h) (Yields.yieldsIf (Or.inl ⟨by rfl, fun w => by go_simp⟩)) KB9.out ?_
  try simp only [Act.put, List.getElem_toArray, List.getElem_cons_zero, List.getElem_cons_succ, List.setIfInBounds_toArray, List.set_cons_zero, List.set_cons_succ]
  refine wpAnyH_take (i := 42) (v := .slice ao n c) rfl (by kernel_rfl) (by kernel_rfl) (by kernel_rfl) (fun _ _ _ h => h) (Yields.yieldsIf (Or.inl ⟨by rfl, fun w => by go_simp⟩)) KB9.out ?_
  try simp only [Act.put, List.getElem_toArray, List.getElem_cons_zero, List.getElem_cons_succ, List.setIfInBounds_toArray, List.set_cons_zero, List.set_cons_succ]
  refine wpAnyH_take (i := 43) (v := .int .i64 ((n : Nat) : Int)) rfl (by kernel_rfl) (by kernel_rfl) (by kernel_rfl) (fun _ _ _ h => h) (Yields.yieldsIf (Or.inl ⟨by rfl, fun w => by go_simp⟩)) KB9.out ?_
  try simp only [Act.put, List.getElem_toArray, List.getElem_cons_zero, List.getElem_cons_succ, List.setIfInBounds_toArray, List.set_cons_zero, List.set_cons_succ]
  refine wpAnyH_take (i := 44) (v := .int .i64 (t : Int)) rfl (by kernel_rfl) (by kernel_rfl) (by kernel_rfl) (fun _ _ _ h => h) (Yields.yieldsIf (Or.inl ⟨by rfl, fun w => by go_simp⟩)) KB9.out ?_
  try simp only [Act.put, List.getElem_toArray, List.getElem_cons_zero, List.getElem_cons_succ, List.setIfInBounds_toArray, List.set_cons_zero, List.set_cons_succ]
  refine wpAnyH_take (i := 45) (v := .int .i64 (f : Int)) rfl (by kernel_rfl) (by kernel_rfl) (by kernel_rfl) (fun _ _ _ h => h) (Yields.yieldsIf (Or.inl ⟨by rfl, fun w => by go_simp⟩)) KB9.out ?_
  try simp only [Act.put, List.getElem_toArray, List.getElem_cons_zero, List.getElem_cons_succ, List.setIfInBounds_toArray, List.set_cons_zero, List.set_cons_succ]
  refine wpAnyH_take (i := 46) (v := .int .i64 ((t : Int) - (f : Int))) rfl (by kernel_rfl) (by kernel_rfl) (by kernel_rfl) (fun _ _ _ h => h) (Yields.yieldsIf (Or.inl ⟨by rfl, fun w => by go_simp⟩)) KB9.out ?_
  try simp only [Act.put, List.getElem_toArray, List.getElem_cons_zero, List.getElem_cons_succ, List.setIfInBounds_toArray, List.set_cons_zero, List.set_cons_succ]
  refine wpAnyH_take (i := 47) (v := .int .i64 ((n : Int) - ((t : Int) - (f : Int)))) rfl (by kernel_rfl) (by kernel_rfl) (by kernel_rfl) (fun _ _ _ h => h) (Yields.yieldsIf (Or.inl ⟨by rfl, fun w => by go_simp⟩)) KB9.out ?_
  try simp only [Act.put, List.getElem_toArray, List.getElem_cons_zero, List.getElem_cons_succ, List.setIfInBounds_toArray, List.set_cons_zero, List.set_cons_succ]
  refine wpAnyH_take (i := 48) (v := .bool true) rfl (by kernel_rfl) (by kernel_rfl) (by kernel_rfl) (fun _ _ _ h => h) (Yields.yieldsIf (Or.inl ⟨by rfl, fun w => by go_simp⟩)) KB9.out ?_
  try simp only [Act.put, List.getElem_toArray, List.getElem_cons_zero, List.getElem_cons_succ, List.setIfInBounds_toArray, List.set_cons_zero, List.set_cons_succ]
  refine wpAnyH_take (i := 49) (v := .bool true) rfl (by kernel_rfl) (by kernel_rfl) (by kernel_rfl) (fun _ _ _ h => h) (Yields.yieldsIf (Or.inl ⟨by rfl, fun w => by go_simp⟩)) KB9.out ?_
  try simp only [Act.put, List.getElem_toArray, List.getElem_cons_zero, List.getElem_cons_succ, List.setIfInBounds_toArray, List.set_cons_zero, List.set_cons_succ]
  refine wpAnyH_take (i := 50) (v := .bool true) rfl (by kernel_rfl) (by kernel_rfl) (by kernel_rfl) (fun _ _ _ h => h) (Yields.yieldsIf (Or.inl ⟨by rfl, fun w => by go_simp⟩)) KB9.out ?_
  try simp only [Act.put, List.getElem_toArray, List.getElem_cons_zero, List.getElem_cons_succ, List.setIfInBounds_toArray, List.set_cons_zero, List.set_cons_succ]
  refine wpAnyH_done (by kernel_rfl) ?_ _
  go_wp2
  go_ret
  exact ⟨rfl, bT BB4.out KB9.out⟩
end Go.Proofs.YtppefcnopkmhbaaDoor
