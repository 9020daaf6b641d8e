/- OperCases, walked. -/
import Derived.Test.YtppefcnopkmhbaaDoorKCsp
namespace Go.Proofs.YtppefcnopkmhbaaDoor
open Go.RowKit

set_option maxRecDepth 8000
theorem own_len {W : World} {b n : Nat} {v : Value} {l : List UInt8} (h : W.ownsRow b 5 1 v n (bv l)) : l.length = n := by have := h.1; rw [bv_length] at this; omega
theorem ns_let {l : List UInt8} {f t n : Nat} {g : UInt8 → UInt8} (_hft : f ≤ t) (hl : l.length = n) (hn : n ≤ 16384) : nsum (sw l f t ((sl l f t).map g)) ≤ 1073741824 := by
  have h := nsum_sw l f t ((sl l f t).map g)
  have h2 : ((sl l f t).map g).length ≤ l.length := by rw [List.length_map]; unfold sl; rw [List.length_take, List.length_drop]; omega
  omega
theorem apply_call {ao : Option Addr} {n c : Nat} {l : List UInt8} {W : World} {eo : Option Addr} {en ec : Nat} {E : List Er} {D : List Ed} {U : List UInt8} (HT : Tx W ao n c l) (hn : n ≤ 1048576) (HE : Edz W eo E) (hen : E.length = en) (he : en ≤ 1048577) (hD : E.map Er.d = D) (hs : nsum D ≤ 1073741824) (hU : apU l D = U ∧ apE l D = 0) :
    Calls Tryd.prog 10 #[.slice ao n c, .slice eo en ec] W fun e w' => ∃ uo uc, e = .returned (.tuple #[.slice uo U.length uc, .int .i64 0]) ∧ Tx w' uo U.length uc U ∧ Below W.heap.size W w' := by
  have hM : Mod l D := mod_n (by have := HT.len; omega)
  refine (apply_q ao n c l eo en ec E W HT (by omega) HE hen (by omega) hD hM).mono ?_
  rintro e w' ⟨v, he', ho, hb⟩
  rw [hU.1] at ho
  rw [hU.2] at he'
  obtain ⟨uo, uc, rfl, hT⟩ := own_tx ho (by have := apU_le hM; rw [hU.1] at this; omega)
  exact ⟨uo, uc, he', hT, hb⟩
set_option maxHeartbeats 16000000 in
set_option linter.unusedSimpArgs false in
theorem operCases_walk (ao : Option Addr) (n c : Nat) (l : List UInt8) (i1 i2 : Int) (W : World) (HT : Tx W ao n c l) (h11 : -9223372036854775808 ≤ i1) (h12 : i1 ≤ 9223372036854775807) (h21 : -9223372036854775808 ≤ i2) (h22 : i2 ≤ 9223372036854775807) (hc48 : n ≤ 281474976710656) :
    Calls Tryd.prog 4 #[.slice ao n c, .int .i64 i1, .int .i64 i2] W fun e w' => e = .returned (.bool true) ∧ Below W.heap.size W w' := by
  have hln := HT.len
  have CA := Hid.mk' (awake_any W)
  have TT := Hid.mk' HT
  have BB := Hid.mk' (Below.refl W.heap.size W)
  clear HT
  go_enter Tryd.func4, Tryd.ntmps4
  go_upto_region 3 with (first | (go_at_call 6; refine CA.out.mono ?_; rintro e w1 ⟨rfl, hb⟩) | fail)
  clear CA
  have TT_ := Hid.mk' (TT.out.keep hb)
  clear TT
  have TT := TT_
  clear TT_
  have BB_ := Hid.mk' (bT BB.out hb)
  clear BB
  have BB := BB_
  clear BB_
  clear hb
  by_cases hbig : (16384 : Int) < (n : Int)
  · go_wp2
    go_ret
    exact ⟨rfl, BB.out⟩
  have hn : n ≤ 16384 := by omega
  have hw0 : IntKind.i64.wrap ((n : Int) + 1) = (n : Int) + 1 := by rw [IntKind.wrap_i64]; omega
  have P1 := place_any i1 (n + 1) w1 (by omega) h11 h12 (by omega)
  have P2 := place_any i2 (n + 1) w1 (by omega) h21 h22 (by omega)
  have hp1 := (plc_lt i1 (n := n + 1) (by omega)).1
  have hp2 := (plc_lt i2 (n := n + 1) (by omega)).1
  generalize plc i1 (n + 1) = pa at *
  generalize plc i2 (n + 1) = pb at *
  rw [show ((n + 1 : Nat) : Int) = (n : Int) + 1 from rfl] at P1 P2
  have CP1 := Hid.mk' P1
  have CP2 := Hid.mk' P2
  clear P1 P2 h11 h12 h21 h22 hc48
  obtain ⟨f, hf⟩ : ∃ f, min pa pb = f := ⟨_, rfl⟩
  obtain ⟨t, ht⟩ : ∃ t, max pa pb = t := ⟨_, rfl⟩
  have hmin : min (pa : Int) (pb : Int) = (f : Int) := by omega
  have hmax : max (pa : Int) (pb : Int) = (t : Int) := by omega
  have hft : f ≤ t := by omega
  have htn : t ≤ n := by omega
  go_upto_region 5 with fail
  go_wp2_with fail
  refine CP1.out.mono ?_
  rintro e w' ⟨rfl, hw⟩
  have hq := hw.symm
  subst hq
  clear hw
  go_wp2_with fail
  refine CP2.out.mono ?_
  rintro e w' ⟨rfl, hw⟩
  have hq := hw.symm
  subst hq
  clear hw
  go_upto_region 7 with fail
  clear CP1 CP2
  obtain ⟨qr, hqr⟩ : ∃ q, w1.heap.size = q := ⟨_, rfl⟩
  have hbx : Below w1.heap.size w1 (w1.alloc (.cells #[.int .i64 (f : Int), .int .i64 (t : Int), .bool false, .bool false] 37)) := bAlloc (Below.refl _ _) _
  have KR : Hid (Blk (w1.alloc (.cells #[.int .i64 (f : Int), .int .i64 (t : Int), .bool false, .bool false] 37)) qr 37 #[.int .i64 (f : Int), .int .i64 (t : Int), .bool false, .bool false]) := by unfold Hid; rw [← hqr]; exact Blk.new w1 37 _
  rw [hqr]
  generalize w1.alloc (.cells #[.int .i64 (f : Int), .int .i64 (t : Int), .bool false, .bool false] 37) = w2 at *
  clear hqr
  have TT_ := Hid.mk' (TT.out.keep hbx)
  clear TT
  have TT := TT_
  clear TT_
  have BB_ := Hid.mk' (bT BB.out hbx)
  clear BB
  have BB := BB_
  clear BB_
  clear hbx
  obtain ⟨r0, r1, r2, r3⟩ := rgC_cells KR.out
  by_cases hfe : f = t
  · subst hfe
    have C0 := do_any ao n c l (f : Int) ⟨#[103, 126]⟩ (f : Int) (f : Int) false false 1 w2 TT.out (by omega)
    rw [do_let (l := l) (o := 6) hft (by have := TT.out.len; omega) (by decide +kernel) (by omega), if_pos rfl] at C0
    have CD := Hid.mk' C0
    clear C0
    go_wp2_with fail
    refine CD.out.mono ?_
    rintro e w3 ⟨v, F, tv, rfl, hF, hM, hb⟩
    clear CD
    obtain ⟨eox, ecx, rfl, hZ, -⟩ := hM.eds.edz
    obtain ⟨tox, tcx, rfl⟩ := hM.tx.shape
    obtain ⟨enx, hen⟩ : ∃ en, F.length = en := ⟨_, rfl⟩
    rw [hen]
    try dsimp only [ef0] at hF
    have FZx := Hid.mk' hZ
    have FDx := Hid.mk' hF
    have FEx := Hid.mk' hen
    have FLx : enx ≤ 1 := by rw [← hen, ← List.length_map (f := Er.d), hF]; exact Nat.zero_le _
    clear hZ hF hen hM
    have TT_ := Hid.mk' (TT.out.keep hb)
    clear TT
    have TT := TT_
    clear TT_
    have BB_ := Hid.mk' (bT BB.out hb)
    clear BB
    have BB := BB_
    clear BB_
    have KR_ := Hid.mk' (KR.out.keep hb)
    clear KR
    have KR := KR_
    clear KR_
    clear hb
    unfold efV
    dsimp only [List.length_nil, ef0]
    go_upto_region 8 with fail
    obtain ⟨qx, hqx⟩ : ∃ q, w3.heap.size = q := ⟨_, rfl⟩
    have hbx : Below w3.heap.size w3 (w3.alloc (.cells #[.slice eox enx ecx, .int .i64 0, .bool false, .bool false, .slice tox 0 tcx, .int .i64 0, .bool false] 32)) := bAlloc (Below.refl _ _) _
    have Kx : Hid (Blk (w3.alloc (.cells #[.slice eox enx ecx, .int .i64 0, .bool false, .bool false, .slice tox 0 tcx, .int .i64 0, .bool false] 32)) qx 32 #[.slice eox enx ecx, .int .i64 0, .bool false, .bool false, .slice tox 0 tcx, .int .i64 0, .bool false]) := by unfold Hid; rw [← hqx]; exact Blk.new w3 32 _
    rw [hqx]
    generalize w3.alloc (.cells #[.slice eox enx ecx, .int .i64 0, .bool false, .bool false, .slice tox 0 tcx, .int .i64 0, .bool false] 32) = w4 at *
    clear hqx
    have TT_ := Hid.mk' (TT.out.keep hbx)
    clear TT
    have TT := TT_
    clear TT_
    have BB_ := Hid.mk' (bT BB.out hbx)
    clear BB
    have BB := BB_
    clear BB_
    have KR_ := Hid.mk' (KR.out.keep hbx)
    clear KR
    have KR := KR_
    clear KR_
    have FZx_ := Hid.mk' (FZx.out.keep hbx)
    clear FZx
    have FZx := FZx_
    clear FZx_
    clear hbx
    have hpe : (pa : Int) = (pb : Int) := by omega
    go_wp2
    go_ret
    exact ⟨rfl, BB.out⟩
  have hpe : ¬ pa = pb := by omega
  have C0 := do_any ao n c l (f : Int) ⟨#[103, 126]⟩ (f : Int) (t : Int) false false 1 w2 TT.out (by omega)
  rw [do_let (l := l) (o := 6) hft (by have := TT.out.len; omega) (by decide +kernel) (by omega), if_neg hfe] at C0
  dsimp only at C0
  rw [show (if (6 : Nat) = 6 then tgB else if (6 : Nat) = 7 then loB else upB) = tgB from rfl] at C0
  have CD := Hid.mk' C0
  clear C0
  go_wp2_with fail
  refine CD.out.mono ?_
  rintro e w3 ⟨v, F, tv, rfl, hF, hM, hb⟩
  clear CD
  obtain ⟨eox, ecx, rfl, hZ, -⟩ := hM.eds.edz
  obtain ⟨tox, tcx, rfl⟩ := hM.tx.shape
  obtain ⟨enx, hen⟩ : ∃ en, F.length = en := ⟨_, rfl⟩
  rw [hen]
  try dsimp only [ef0] at hF
  have FZx := Hid.mk' hZ
  have FDx := Hid.mk' hF
  have FEx := Hid.mk' hen
  have FLx : enx ≤ 1 := by rw [← hen, ← List.length_map (f := Er.d), hF]; exact sw_len _ _ _ _
  clear hZ hF hen hM
  have TT_ := Hid.mk' (TT.out.keep hb)
  clear TT
  have TT := TT_
  clear TT_
  have BB_ := Hid.mk' (bT BB.out hb)
  clear BB
  have BB := BB_
  clear BB_
  have KR_ := Hid.mk' (KR.out.keep hb)
  clear KR
  have KR := KR_
  clear KR_
  clear hb
  unfold efV
  dsimp only [List.length_nil, ef0]
  go_upto_region 10 with fail
  obtain ⟨qx, hqx⟩ : ∃ q, w3.heap.size = q := ⟨_, rfl⟩
  have hbx : Below w3.heap.size w3 (w3.alloc (.cells #[.slice eox enx ecx, .int .i64 (f : Int), .bool false, .bool false, .slice tox 0 tcx, .int .i64 0, .bool false] 32)) := bAlloc (Below.refl _ _) _
  have Kx : Hid (Blk (w3.alloc (.cells #[.slice eox enx ecx, .int .i64 (f : Int), .bool false, .bool false, .slice tox 0 tcx, .int .i64 0, .bool false] 32)) qx 32 #[.slice eox enx ecx, .int .i64 (f : Int), .bool false, .bool false, .slice tox 0 tcx, .int .i64 0, .bool false]) := by unfold Hid; rw [← hqx]; exact Blk.new w3 32 _
  rw [hqx]
  generalize w3.alloc (.cells #[.slice eox enx ecx, .int .i64 (f : Int), .bool false, .bool false, .slice tox 0 tcx, .int .i64 0, .bool false] 32) = w4 at *
  clear hqx
  have TT_ := Hid.mk' (TT.out.keep hbx)
  clear TT
  have TT := TT_
  clear TT_
  have BB_ := Hid.mk' (bT BB.out hbx)
  clear BB
  have BB := BB_
  clear BB_
  have KR_ := Hid.mk' (KR.out.keep hbx)
  clear KR
  have KR := KR_
  clear KR_
  have FZx_ := Hid.mk' (FZx.out.keep hbx)
  clear FZx
  have FZx := FZx_
  clear FZx_
  clear hbx
  have c0 : w4.cell? ⟨qx, 0, none⟩ = some _ := Kx.out.cell rfl
  have C0 := apply_call (ec := ecx) (U := cs tgB l f t) TT.out (by omega) FZx.out FEx.out (by omega) FDx.out (ns_let hft TT.out.len hn) (apU_sw hft (by have := TT.out.len; omega) _)
  rw [cs_len hft (by have := TT.out.len; omega), TT.out.len] at C0
  have CD := Hid.mk' C0
  clear C0
  go_wp2_with fail
  refine CD.out.mono ?_
  rintro e w5 ⟨uo, uc, rfl, hT, hb⟩
  clear CD c0
  have TT_ := Hid.mk' (TT.out.keep hb)
  clear TT
  have TT := TT_
  clear TT_
  have BB_ := Hid.mk' (bT BB.out hb)
  clear BB
  have BB := BB_
  clear BB_
  have KR_ := Hid.mk' (KR.out.keep hb)
  clear KR
  have KR := KR_
  clear KR_
  have FZx_ := Hid.mk' (FZx.out.keep hb)
  clear FZx
  have FZx := FZx_
  clear FZx_
  have Kx_ := Hid.mk' (Kx.out.keep hb)
  clear Kx
  have Kx := Kx_
  clear Kx_
  have Tu := Hid.mk' hT
  clear hT hb
  obtain ⟨U, hU⟩ : ∃ U, cs tgB l f t = U := ⟨_, rfl⟩
  rw [hU] at Tu
  have HU := Hid.mk' hU
  clear hU
  obtain ⟨r0, r1, r2, r3⟩ := rgC_cells KR.out
  have hUl : U.length = n := Tu.out.len
  have hUl' : U.length = l.length := by rw [hUl, TT.out.len]
  have C0 := do_any uo n uc U (f : Int) ⟨#[103, 126]⟩ (f : Int) (t : Int) false false 1 w5 Tu.out (by omega)
  rw [do_let (l := U) (o := 6) hft (by have := Tu.out.len; omega) (by decide +kernel) (by omega), if_neg hfe] at C0
  dsimp only at C0
  rw [show (if (6 : Nat) = 6 then tgB else if (6 : Nat) = 7 then loB else upB) = tgB from rfl] at C0
  have CD := Hid.mk' C0
  clear C0
  go_wp2_with fail
  refine CD.out.mono ?_
  rintro e w6 ⟨v, F, tv, rfl, hF, hM, hb⟩
  clear CD
  obtain ⟨eoy, ecy, rfl, hZ, -⟩ := hM.eds.edz
  obtain ⟨toy, tcy, rfl⟩ := hM.tx.shape
  obtain ⟨eny, hen⟩ : ∃ en, F.length = en := ⟨_, rfl⟩
  rw [hen]
  try dsimp only [ef0] at hF
  have FZy := Hid.mk' hZ
  have FDy := Hid.mk' hF
  have FEy := Hid.mk' hen
  have FLy : eny ≤ 1 := by rw [← hen, ← List.length_map (f := Er.d), hF]; exact sw_len _ _ _ _
  clear hZ hF hen hM
  have TT_ := Hid.mk' (TT.out.keep hb)
  clear TT
  have TT := TT_
  clear TT_
  have BB_ := Hid.mk' (bT BB.out hb)
  clear BB
  have BB := BB_
  clear BB_
  have KR_ := Hid.mk' (KR.out.keep hb)
  clear KR
  have KR := KR_
  clear KR_
  have FZx_ := Hid.mk' (FZx.out.keep hb)
  clear FZx
  have FZx := FZx_
  clear FZx_
  have Kx_ := Hid.mk' (Kx.out.keep hb)
  clear Kx
  have Kx := Kx_
  clear Kx_
  have Tu_ := Hid.mk' (Tu.out.keep hb)
  clear Tu
  have Tu := Tu_
  clear Tu_
  clear hb
  unfold efV
  dsimp only [List.length_nil, ef0]
  go_upto_region 12 with fail
  obtain ⟨qy, hqy⟩ : ∃ q, w6.heap.size = q := ⟨_, rfl⟩
  have hbx : Below w6.heap.size w6 (w6.alloc (.cells #[.slice eoy eny ecy, .int .i64 (f : Int), .bool false, .bool false, .slice toy 0 tcy, .int .i64 0, .bool false] 32)) := bAlloc (Below.refl _ _) _
  have Ky : Hid (Blk (w6.alloc (.cells #[.slice eoy eny ecy, .int .i64 (f : Int), .bool false, .bool false, .slice toy 0 tcy, .int .i64 0, .bool false] 32)) qy 32 #[.slice eoy eny ecy, .int .i64 (f : Int), .bool false, .bool false, .slice toy 0 tcy, .int .i64 0, .bool false]) := by unfold Hid; rw [← hqy]; exact Blk.new w6 32 _
  rw [hqy]
  generalize w6.alloc (.cells #[.slice eoy eny ecy, .int .i64 (f : Int), .bool false, .bool false, .slice toy 0 tcy, .int .i64 0, .bool false] 32) = w7 at *
  clear hqy
  have TT_ := Hid.mk' (TT.out.keep hbx)
  clear TT
  have TT := TT_
  clear TT_
  have BB_ := Hid.mk' (bT BB.out hbx)
  clear BB
  have BB := BB_
  clear BB_
  have KR_ := Hid.mk' (KR.out.keep hbx)
  clear KR
  have KR := KR_
  clear KR_
  have FZx_ := Hid.mk' (FZx.out.keep hbx)
  clear FZx
  have FZx := FZx_
  clear FZx_
  have Kx_ := Hid.mk' (Kx.out.keep hbx)
  clear Kx
  have Kx := Kx_
  clear Kx_
  have Tu_ := Hid.mk' (Tu.out.keep hbx)
  clear Tu
  have Tu := Tu_
  clear Tu_
  have FZy_ := Hid.mk' (FZy.out.keep hbx)
  clear FZy
  have FZy := FZy_
  clear FZy_
  clear hbx
  have hbk : U.take f ++ (sl U f t).map (tw tgB) ++ U.drop t = l := by rw [← HU.out]; exact cs_back hft (by have := TT.out.len; omega)
  have c0 : w7.cell? ⟨qy, 0, none⟩ = some _ := Ky.out.cell rfl
  have C0 := apply_call (ec := ecy) (U := l) Tu.out (by omega) FZy.out FEy.out (by omega) FDy.out (ns_let hft Tu.out.len hn) ⟨(apU_sw hft (by omega) _).1.trans hbk, (apU_sw hft (by omega) _).2⟩
  rw [TT.out.len] at C0
  have CD := Hid.mk' C0
  clear C0
  go_wp2_with fail
  refine CD.out.mono ?_
  rintro e w8 ⟨vo, vc, rfl, hT, hb⟩
  clear CD c0
  have TT_ := Hid.mk' (TT.out.keep hb)
  clear TT
  have TT := TT_
  clear TT_
  have BB_ := Hid.mk' (bT BB.out hb)
  clear BB
  have BB := BB_
  clear BB_
  have KR_ := Hid.mk' (KR.out.keep hb)
  clear KR
  have KR := KR_
  clear KR_
  have FZx_ := Hid.mk' (FZx.out.keep hb)
  clear FZx
  have FZx := FZx_
  clear FZx_
  have Kx_ := Hid.mk' (Kx.out.keep hb)
  clear Kx
  have Kx := Kx_
  clear Kx_
  have Tu_ := Hid.mk' (Tu.out.keep hb)
  clear Tu
  have Tu := Tu_
  clear Tu_
  have FZy_ := Hid.mk' (FZy.out.keep hb)
  clear FZy
  have FZy := FZy_
  clear FZy_
  have Ky_ := Hid.mk' (Ky.out.keep hb)
  clear Ky
  have Ky := Ky_
  clear Ky_
  have Tv := Hid.mk' hT
  clear hT hb
  clear hbk
  obtain ⟨r0, r1, r2, r3⟩ := rgC_cells KR.out
  obtain ⟨x0, x1, x2, x3, x4, x5, x6⟩ := ef_cells Kx.out
  have cv := conv_tx Tv.out
  have ct := conv_tx TT.out
  have nn := ne9_no l w8
  go_upto_region 15 with fail
  clear cv ct nn x0 x1 x2 x3 x4 x5 x6
  clear Kx FZx
  clear Ky FZy Tv
  have C0 := do_any ao n c l (f : Int) ⟨#[103, 117]⟩ (f : Int) (t : Int) false false 1 w8 TT.out (by omega)
  rw [do_let (l := l) (o := 7) hft (by have := TT.out.len; omega) (by decide +kernel) (by omega), if_neg hfe] at C0
  dsimp only at C0
  rw [show (if (7 : Nat) = 6 then tgB else if (7 : Nat) = 7 then loB else upB) = loB from rfl] at C0
  have CD := Hid.mk' C0
  clear C0
  go_wp2_with fail
  refine CD.out.mono ?_
  rintro e w9 ⟨v, F, tv, rfl, hF, hM, hb⟩
  clear CD
  obtain ⟨eoa, eca, rfl, hZ, -⟩ := hM.eds.edz
  obtain ⟨toa, tca, rfl⟩ := hM.tx.shape
  obtain ⟨ena, hen⟩ : ∃ en, F.length = en := ⟨_, rfl⟩
  rw [hen]
  try dsimp only [ef0] at hF
  have FZa := Hid.mk' hZ
  have FDa := Hid.mk' hF
  have FEa := Hid.mk' hen
  have FLa : ena ≤ 1 := by rw [← hen, ← List.length_map (f := Er.d), hF]; exact sw_len _ _ _ _
  clear hZ hF hen hM
  have TT_ := Hid.mk' (TT.out.keep hb)
  clear TT
  have TT := TT_
  clear TT_
  have BB_ := Hid.mk' (bT BB.out hb)
  clear BB
  have BB := BB_
  clear BB_
  have KR_ := Hid.mk' (KR.out.keep hb)
  clear KR
  have KR := KR_
  clear KR_
  have Tu_ := Hid.mk' (Tu.out.keep hb)
  clear Tu
  have Tu := Tu_
  clear Tu_
  clear hb
  unfold efV
  dsimp only [List.length_nil, ef0]
  go_upto_region 16 with fail
  obtain ⟨qa, hqa⟩ : ∃ q, w9.heap.size = q := ⟨_, rfl⟩
  have hbx : Below w9.heap.size w9 (w9.alloc (.cells #[.slice eoa ena eca, .int .i64 (f : Int), .bool false, .bool false, .slice toa 0 tca, .int .i64 0, .bool false] 32)) := bAlloc (Below.refl _ _) _
  have Ka : Hid (Blk (w9.alloc (.cells #[.slice eoa ena eca, .int .i64 (f : Int), .bool false, .bool false, .slice toa 0 tca, .int .i64 0, .bool false] 32)) qa 32 #[.slice eoa ena eca, .int .i64 (f : Int), .bool false, .bool false, .slice toa 0 tca, .int .i64 0, .bool false]) := by unfold Hid; rw [← hqa]; exact Blk.new w9 32 _
  rw [hqa]
  generalize w9.alloc (.cells #[.slice eoa ena eca, .int .i64 (f : Int), .bool false, .bool false, .slice toa 0 tca, .int .i64 0, .bool false] 32) = w10 at *
  clear hqa
  have TT_ := Hid.mk' (TT.out.keep hbx)
  clear TT
  have TT := TT_
  clear TT_
  have BB_ := Hid.mk' (bT BB.out hbx)
  clear BB
  have BB := BB_
  clear BB_
  have KR_ := Hid.mk' (KR.out.keep hbx)
  clear KR
  have KR := KR_
  clear KR_
  have Tu_ := Hid.mk' (Tu.out.keep hbx)
  clear Tu
  have Tu := Tu_
  clear Tu_
  have FZa_ := Hid.mk' (FZa.out.keep hbx)
  clear FZa
  have FZa := FZa_
  clear FZa_
  clear hbx
  clear r0 r1 r2 r3
  obtain ⟨r0, r1, r2, r3⟩ := rgC_cells KR.out
  have C0 := do_any ao n c l (f : Int) ⟨#[103, 85]⟩ (f : Int) (t : Int) false false 1 w10 TT.out (by omega)
  rw [do_let (l := l) (o := 8) hft (by have := TT.out.len; omega) (by decide +kernel) (by omega), if_neg hfe] at C0
  dsimp only at C0
  rw [show (if (8 : Nat) = 6 then tgB else if (8 : Nat) = 7 then loB else upB) = upB from rfl] at C0
  have CD := Hid.mk' C0
  clear C0
  go_wp2_with fail
  refine CD.out.mono ?_
  rintro e w11 ⟨v, F, tv, rfl, hF, hM, hb⟩
  clear CD
  obtain ⟨eob, ecb, rfl, hZ, -⟩ := hM.eds.edz
  obtain ⟨tob, tcb, rfl⟩ := hM.tx.shape
  obtain ⟨enb, hen⟩ : ∃ en, F.length = en := ⟨_, rfl⟩
  rw [hen]
  try dsimp only [ef0] at hF
  have FZb := Hid.mk' hZ
  have FDb := Hid.mk' hF
  have FEb := Hid.mk' hen
  have FLb : enb ≤ 1 := by rw [← hen, ← List.length_map (f := Er.d), hF]; exact sw_len _ _ _ _
  clear hZ hF hen hM
  have TT_ := Hid.mk' (TT.out.keep hb)
  clear TT
  have TT := TT_
  clear TT_
  have BB_ := Hid.mk' (bT BB.out hb)
  clear BB
  have BB := BB_
  clear BB_
  have KR_ := Hid.mk' (KR.out.keep hb)
  clear KR
  have KR := KR_
  clear KR_
  have Tu_ := Hid.mk' (Tu.out.keep hb)
  clear Tu
  have Tu := Tu_
  clear Tu_
  have FZa_ := Hid.mk' (FZa.out.keep hb)
  clear FZa
  have FZa := FZa_
  clear FZa_
  have Ka_ := Hid.mk' (Ka.out.keep hb)
  clear Ka
  have Ka := Ka_
  clear Ka_
  clear hb
  unfold efV
  dsimp only [List.length_nil, ef0]
  go_upto_region 17 with fail
  obtain ⟨qb, hqb⟩ : ∃ q, w11.heap.size = q := ⟨_, rfl⟩
  have hbx : Below w11.heap.size w11 (w11.alloc (.cells #[.slice eob enb ecb, .int .i64 (f : Int), .bool false, .bool false, .slice tob 0 tcb, .int .i64 0, .bool false] 32)) := bAlloc (Below.refl _ _) _
  have Kb : Hid (Blk (w11.alloc (.cells #[.slice eob enb ecb, .int .i64 (f : Int), .bool false, .bool false, .slice tob 0 tcb, .int .i64 0, .bool false] 32)) qb 32 #[.slice eob enb ecb, .int .i64 (f : Int), .bool false, .bool false, .slice tob 0 tcb, .int .i64 0, .bool false]) := by unfold Hid; rw [← hqb]; exact Blk.new w11 32 _
  rw [hqb]
  generalize w11.alloc (.cells #[.slice eob enb ecb, .int .i64 (f : Int), .bool false, .bool false, .slice tob 0 tcb, .int .i64 0, .bool false] 32) = w12 at *
  clear hqb
  have TT_ := Hid.mk' (TT.out.keep hbx)
  clear TT
  have TT := TT_
  clear TT_
  have BB_ := Hid.mk' (bT BB.out hbx)
  clear BB
  have BB := BB_
  clear BB_
  have KR_ := Hid.mk' (KR.out.keep hbx)
  clear KR
  have KR := KR_
  clear KR_
  have Tu_ := Hid.mk' (Tu.out.keep hbx)
  clear Tu
  have Tu := Tu_
  clear Tu_
  have FZa_ := Hid.mk' (FZa.out.keep hbx)
  clear FZa
  have FZa := FZa_
  clear FZa_
  have Ka_ := Hid.mk' (Ka.out.keep hbx)
  clear Ka
  have Ka := Ka_
  clear Ka_
  have FZb_ := Hid.mk' (FZb.out.keep hbx)
  clear FZb
  have FZb := FZb_
  clear FZb_
  clear hbx
  have c0 : w12.cell? ⟨qa, 0, none⟩ = some _ := Ka.out.cell rfl
  have C0 := apply_call (ec := eca) (U := cs loB l f t) TT.out (by omega) FZa.out FEa.out (by omega) FDa.out (ns_let hft TT.out.len hn) (apU_sw hft (by have := TT.out.len; omega) _)
  rw [cs_len hft (by have := TT.out.len; omega), TT.out.len] at C0
  have CD := Hid.mk' C0
  clear C0
  go_wp2_with fail
  refine CD.out.mono ?_
  rintro e w13 ⟨po, pc, rfl, hT, hb⟩
  clear CD c0
  have TT_ := Hid.mk' (TT.out.keep hb)
  clear TT
  have TT := TT_
  clear TT_
  have BB_ := Hid.mk' (bT BB.out hb)
  clear BB
  have BB := BB_
  clear BB_
  have KR_ := Hid.mk' (KR.out.keep hb)
  clear KR
  have KR := KR_
  clear KR_
  have Tu_ := Hid.mk' (Tu.out.keep hb)
  clear Tu
  have Tu := Tu_
  clear Tu_
  have FZa_ := Hid.mk' (FZa.out.keep hb)
  clear FZa
  have FZa := FZa_
  clear FZa_
  have Ka_ := Hid.mk' (Ka.out.keep hb)
  clear Ka
  have Ka := Ka_
  clear Ka_
  have FZb_ := Hid.mk' (FZb.out.keep hb)
  clear FZb
  have FZb := FZb_
  clear FZb_
  have Kb_ := Hid.mk' (Kb.out.keep hb)
  clear Kb
  have Kb := Kb_
  clear Kb_
  have Tp := Hid.mk' hT
  clear hT hb
  obtain ⟨P, hP⟩ : ∃ U, cs loB l f t = U := ⟨_, rfl⟩
  rw [hP] at Tp
  have HP := Hid.mk' hP
  clear hP
  go_upto_region 18 with fail
  have c0 : w13.cell? ⟨qb, 0, none⟩ = some _ := Kb.out.cell rfl
  have C0 := apply_call (ec := ecb) (U := cs upB l f t) TT.out (by omega) FZb.out FEb.out (by omega) FDb.out (ns_let hft TT.out.len hn) (apU_sw hft (by have := TT.out.len; omega) _)
  rw [cs_len hft (by have := TT.out.len; omega), TT.out.len] at C0
  have CD := Hid.mk' C0
  clear C0
  go_wp2_with fail
  refine CD.out.mono ?_
  rintro e w14 ⟨qo, qc, rfl, hT, hb⟩
  clear CD c0
  have TT_ := Hid.mk' (TT.out.keep hb)
  clear TT
  have TT := TT_
  clear TT_
  have BB_ := Hid.mk' (bT BB.out hb)
  clear BB
  have BB := BB_
  clear BB_
  have KR_ := Hid.mk' (KR.out.keep hb)
  clear KR
  have KR := KR_
  clear KR_
  have Tu_ := Hid.mk' (Tu.out.keep hb)
  clear Tu
  have Tu := Tu_
  clear Tu_
  have FZa_ := Hid.mk' (FZa.out.keep hb)
  clear FZa
  have FZa := FZa_
  clear FZa_
  have Ka_ := Hid.mk' (Ka.out.keep hb)
  clear Ka
  have Ka := Ka_
  clear Ka_
  have FZb_ := Hid.mk' (FZb.out.keep hb)
  clear FZb
  have FZb := FZb_
  clear FZb_
  have Kb_ := Hid.mk' (Kb.out.keep hb)
  clear Kb
  have Kb := Kb_
  clear Kb_
  have Tp_ := Hid.mk' (Tp.out.keep hb)
  clear Tp
  have Tp := Tp_
  clear Tp_
  have Tq := Hid.mk' hT
  clear hT hb
  obtain ⟨Q, hQ⟩ : ∃ U, cs upB l f t = U := ⟨_, rfl⟩
  rw [hQ] at Tq
  have HQ := Hid.mk' hQ
  clear hQ
  clear Ka FZa Kb FZb
  clear r0 r1 r2 r3
  obtain ⟨r0, r1, r2, r3⟩ := rgC_cells KR.out
  go_upto_region 21 with fail
  go_wp2_with fail
  have HFL := Hid.mk' hln
  clear r0 r1 r2 r3
  go_loopg [22, 23, 190] n (fun m x22 x23 x190 wx => ∃ (i : Nat), x190 = .int .i64 (i : Int) ∧ i + m = n ∧ Hid (Below w14.heap.size w14 wx))
  case atStart => exact ⟨0, rfl, by omega, Below.refl _ _⟩
  case round =>
    obtain ⟨i, rfl, him, KB⟩ := hrel
    by_cases hgk : gk = 0
    · subst hgk
      have hii : ¬ (i : Int) < (n : Int) := by omega
      go_wp2
      go_ret
      exact ⟨rfl, bT BB.out KB.out⟩
    · obtain ⟨go, hgo⟩ : ∃ g, gk = g + 1 := ⟨gk - 1, by omega⟩
      subst hgo
      have hii : (i : Int) < (n : Int) := by omega
      have hi0 : (0 : Int) ≤ (i : Int) := by omega
      have hin : i < n := by omega
      obtain ⟨g, o, rfl, hc⟩ := TT.out.at (by omega)
      obtain ⟨ug, uo', rfl, huc⟩ := Tu.out.at (by omega)
      obtain ⟨pg, po', rfl, hpc⟩ := Tp.out.at (by omega)
      obtain ⟨qg, qo', rfl, hqc⟩ := Tq.out.at (by omega)
      have k0 := hc i hin
      have ku := huc i hin
      have kp := hpc i hin
      have kq := hqc i hin
      have hw1 : IntKind.i64.wrap ((i : Int) + 1) = (i : Int) + 1 := by rw [IntKind.wrap_i64]; omega
      have hb1 := UInt8.toNat_lt (at8 l i)
      have R := KR.out.keep KB.out
      obtain ⟨r0, r1, r2, r3⟩ := rgC_cells R
      clear hc huc hpc hqc R
      have eu : ((at8 U i).toNat : Int) = if f ≤ i ∧ i < t then tgB ((at8 l i).toNat : Int) else ((at8 l i).toNat : Int) := by
        rw [← HU.out]
        split
        · rename_i h; rw [cs_in (by rw [HFL.out]; omega) h.1 h.2]; exact tw_nat tg_in _
        · rename_i h; rw [cs_out hft (by rw [HFL.out]; omega) (by omega)]
      have ep : ((at8 P i).toNat : Int) = if f ≤ i ∧ i < t then loB ((at8 l i).toNat : Int) else ((at8 l i).toNat : Int) := by
        rw [← HP.out]
        split
        · rename_i h; rw [cs_in (by rw [HFL.out]; omega) h.1 h.2]; exact tw_nat lo_in _
        · rename_i h; rw [cs_out hft (by rw [HFL.out]; omega) (by omega)]
      have eq : ((at8 Q i).toNat : Int) = if f ≤ i ∧ i < t then upB ((at8 l i).toNat : Int) else ((at8 l i).toNat : Int) := by
        rw [← HQ.out]
        split
        · rename_i h; rw [cs_in (by rw [HFL.out]; omega) h.1 h.2]; exact tw_nat up_in _
        · rename_i h; rw [cs_out hft (by rw [HFL.out]; omega) (by omega)]
      rw [eu] at ku
      rw [ep] at kp
      rw [eq] at kq
      clear eu ep eq
      have hz0 : (0 : Int) ≤ ((at8 l i).toNat : Int) := by omega
      have hz1 : ((at8 l i).toNat : Int) ≤ 255 := by omega
      generalize ((at8 l i).toNat : Int) = z at *
      clear hb1
      by_cases hc0 : i < f
      · rw [if_neg (by omega)] at ku kp kq
        have j0 := cell_keep k0 KB.out
        have ju := cell_keep ku KB.out
        have jp := cell_keep kp KB.out
        have jq := cell_keep kq KB.out
        have hf1 : (i : Int) < (f : Int) := by omega
        go_wp2
        go_roundg go
        case measure => omega
        case rel => exact ⟨i + 1, by go_num, by omega, KB.out⟩
      by_cases hc1 : t ≤ i
      · rw [if_neg (by omega)] at ku kp kq
        have j0 := cell_keep k0 KB.out
        have ju := cell_keep ku KB.out
        have jp := cell_keep kp KB.out
        have jq := cell_keep kq KB.out
        have hf1 : ¬ (i : Int) < (f : Int) := by omega
        have hf2 : (t : Int) ≤ (i : Int) := by omega
        go_wp2
        go_roundg go
        case measure => omega
        case rel => exact ⟨i + 1, by go_num, by omega, KB.out⟩
      rw [if_pos ⟨by omega, by omega⟩] at ku kp kq
      have hf1 : ¬ (i : Int) < (f : Int) := by omega
      have hf2 : ¬ (t : Int) ≤ (i : Int) := by omega
      have hl1 := lo_in z hz0 hz1
      have hl2 := up_in z hz0 hz1
      have hl3 := tg_in z hz0 hz1
      have j0 := cell_keep k0 KB.out
      go_upto_region 27 with fail
      have KU := Hid.mk' ku
      have KP := Hid.mk' kp
      have KQ := Hid.mk' kq
      have KB2 : Hid (Below w14.heap.size w14 wr.drew) := KB.out.drew
      clear ku kp kq k0 j0 r0 r1 r2 r3
      refine wp_region_held (S := fun w' => Below w14.heap.size w14 w') (by kernel_rfl) ?_
      change wpAnyH _ _ _ _ _ _ _ _ (World.drew _)
      generalize wr.drew = V4 at *
      refine wpAnyH_take (i := 0) (v := .slice (some ⟨pg, po', none⟩) n pc) rfl (by kernel_rfl) (by kernel_rfl) (by kernel_rfl) (fun _ _ _ h => h) (Yields.yieldsIf (Or.inl ⟨by rfl, fun w => by go_simp⟩)) KB2.out ?_
      try simp only [Act.put, List.getElem_toArray, List.getElem_cons_zero, List.getElem_cons_succ, List.setIfInBounds_toArray, List.set_cons_zero, List.set_cons_succ]
      refine wpAnyH_take (i := 1) (v := .int .i64 (i : Int)) rfl (by kernel_rfl) (by kernel_rfl) (by kernel_rfl) (fun _ _ _ h => h) (Yields.yieldsIf (Or.inl ⟨by rfl, fun w => by go_simp⟩)) KB2.out ?_
      try simp only [Act.put, List.getElem_toArray, List.getElem_cons_zero, List.getElem_cons_succ, List.setIfInBounds_toArray, List.set_cons_zero, List.set_cons_succ]
      refine wpAnyH_take (i := 2) (v := .pointer (some ⟨pg, po' + i, none⟩)) rfl (by kernel_rfl) (by kernel_rfl) (by kernel_rfl) (fun _ _ _ h => h) (Yields.yieldsIf (Or.inl ⟨by rfl, fun w => by go_simp⟩)) KB2.out ?_
      try simp only [Act.put, List.getElem_toArray, List.getElem_cons_zero, List.getElem_cons_succ, List.setIfInBounds_toArray, List.set_cons_zero, List.set_cons_succ]
      refine wpAnyH_take (i := 3) (v := .int .u8 (loB z)) rfl (by kernel_rfl) (by kernel_rfl) (by kernel_rfl) (fun _ _ _ h => h) (Or.inl ⟨by rfl, fun w9 h9 => by have y1 := cell_keep KU.out h9; have y2 := cell_keep KP.out h9; have y3 := cell_keep KQ.out h9; go_simp⟩) KB2.out ?_
      try simp only [Act.put, List.getElem_toArray, List.getElem_cons_zero, List.getElem_cons_succ, List.setIfInBounds_toArray, List.set_cons_zero, List.set_cons_succ]
      refine wpAnyH_take (i := 4) (v := .int .u8 z) rfl (by kernel_rfl) (by kernel_rfl) (by kernel_rfl) (fun _ _ _ h => h) (Yields.yieldsIf (Or.inl ⟨by rfl, fun w => by go_simp⟩)) KB2.out ?_
      try simp only [Act.put, List.getElem_toArray, List.getElem_cons_zero, List.getElem_cons_succ, List.setIfInBounds_toArray, List.set_cons_zero, List.set_cons_succ]
      refine wpAnyH_all (rs := [5]) (by kernel_rfl) (by simp) (AllH.cons rfl (fun K hK => ?_) AllH.nil)
      go_simp
      refine (lower_any z _ hz0 hz1).mono ?_
      rintro e w' ⟨rfl, hw⟩
      have hq := hw.symm
      subst hq
      clear hw
      dsimp only
      refine hK _ _ ⟨KB2.out, ?_⟩
      clear hK K
      try simp only [Act.put, List.getElem_toArray, List.getElem_cons_zero, List.getElem_cons_succ, List.setIfInBounds_toArray, List.set_cons_zero, List.set_cons_succ]
      refine wpAnyH_take (i := 6) (v := .bool false) rfl (by kernel_rfl) (by kernel_rfl) (by kernel_rfl) (fun _ _ _ h => h) (Yields.yieldsIf (Or.inl ⟨by rfl, fun w => by go_simp⟩)) KB2.out ?_
      try simp only [Act.put, List.getElem_toArray, List.getElem_cons_zero, List.getElem_cons_succ, List.setIfInBounds_toArray, List.set_cons_zero, List.set_cons_succ]
      refine wpAnyH_take (i := 7) (v := .bool false) rfl (by kernel_rfl) (by kernel_rfl) (by kernel_rfl) (fun _ _ _ h => h) (Yields.yieldsIf (Or.inl ⟨by rfl, fun w => by go_simp⟩)) KB2.out ?_
      try simp only [Act.put, List.getElem_toArray, List.getElem_cons_zero, List.getElem_cons_succ, List.setIfInBounds_toArray, List.set_cons_zero, List.set_cons_succ]
      refine wpAnyH_take (i := 8) (v := .slice (some ⟨qg, qo', none⟩) n qc) rfl (by kernel_rfl) (by kernel_rfl) (by kernel_rfl) (fun _ _ _ h => h) (Yields.yieldsIf (Or.inl ⟨by rfl, fun w => by go_simp⟩)) KB2.out ?_
      try simp only [Act.put, List.getElem_toArray, List.getElem_cons_zero, List.getElem_cons_succ, List.setIfInBounds_toArray, List.set_cons_zero, List.set_cons_succ]
      refine wpAnyH_take (i := 9) (v := .int .i64 (i : Int)) rfl (by kernel_rfl) (by kernel_rfl) (by kernel_rfl) (fun _ _ _ h => h) (Yields.yieldsIf (Or.inl ⟨by rfl, fun w => by go_simp⟩)) KB2.out ?_
      try simp only [Act.put, List.getElem_toArray, List.getElem_cons_zero, List.getElem_cons_succ, List.setIfInBounds_toArray, List.set_cons_zero, List.set_cons_succ]
      refine wpAnyH_take (i := 10) (v := .pointer (some ⟨qg, qo' + i, none⟩)) rfl (by kernel_rfl) (by kernel_rfl) (by kernel_rfl) (fun _ _ _ h => h) (Yields.yieldsIf (Or.inl ⟨by rfl, fun w => by go_simp⟩)) KB2.out ?_
      try simp only [Act.put, List.getElem_toArray, List.getElem_cons_zero, List.getElem_cons_succ, List.setIfInBounds_toArray, List.set_cons_zero, List.set_cons_succ]
      refine wpAnyH_take (i := 11) (v := .int .u8 (upB z)) rfl (by kernel_rfl) (by kernel_rfl) (by kernel_rfl) (fun _ _ _ h => h) (Or.inl ⟨by rfl, fun w9 h9 => by have y1 := cell_keep KU.out h9; have y2 := cell_keep KP.out h9; have y3 := cell_keep KQ.out h9; go_simp⟩) KB2.out ?_
      try simp only [Act.put, List.getElem_toArray, List.getElem_cons_zero, List.getElem_cons_succ, List.setIfInBounds_toArray, List.set_cons_zero, List.set_cons_succ]
      refine wpAnyH_take (i := 12) (v := .int .u8 z) rfl (by kernel_rfl) (by kernel_rfl) (by kernel_rfl) (fun _ _ _ h => h) (Yields.yieldsIf (Or.inl ⟨by rfl, fun w => by go_simp⟩)) KB2.out ?_
      try simp only [Act.put, List.getElem_toArray, List.getElem_cons_zero, List.getElem_cons_succ, List.setIfInBounds_toArray, List.set_cons_zero, List.set_cons_succ]
      refine wpAnyH_all (rs := [13]) (by kernel_rfl) (by simp) (AllH.cons rfl (fun K hK => ?_) AllH.nil)
      go_simp
      refine (upper_any z _ hz0 hz1).mono ?_
      rintro e w' ⟨rfl, hw⟩
      have hq := hw.symm
      subst hq
      clear hw
      dsimp only
      refine hK _ _ ⟨KB2.out, ?_⟩
      clear hK K
      try simp only [Act.put, List.getElem_toArray, List.getElem_cons_zero, List.getElem_cons_succ, List.setIfInBounds_toArray, List.set_cons_zero, List.set_cons_succ]
      refine wpAnyH_take (i := 14) (v := .bool false) rfl (by kernel_rfl) (by kernel_rfl) (by kernel_rfl) (fun _ _ _ h => h) (Yields.yieldsIf (Or.inl ⟨by rfl, fun w => by go_simp⟩)) KB2.out ?_
      try simp only [Act.put, List.getElem_toArray, List.getElem_cons_zero, List.getElem_cons_succ, List.setIfInBounds_toArray, List.set_cons_zero, List.set_cons_succ]
      refine wpAnyH_take (i := 15) (v := .bool false) rfl (by kernel_rfl) (by kernel_rfl) (by kernel_rfl) (fun _ _ _ h => h) (Yields.yieldsIf (Or.inl ⟨by rfl, fun w => by go_simp⟩)) KB2.out ?_
      try simp only [Act.put, List.getElem_toArray, List.getElem_cons_zero, List.getElem_cons_succ, List.setIfInBounds_toArray, List.set_cons_zero, List.set_cons_succ]
      refine wpAnyH_take (i := 16) (v := .bool false) rfl (by kernel_rfl) (by kernel_rfl) (by kernel_rfl) (fun _ _ _ h => h) (Yields.yieldsIf (Or.inl ⟨by rfl, fun w => by go_simp⟩)) KB2.out ?_
      try simp only [Act.put, List.getElem_toArray, List.getElem_cons_zero, List.getElem_cons_succ, List.setIfInBounds_toArray, List.set_cons_zero, List.set_cons_succ]
      refine wpAnyH_take (i := 17) (v := .slice (some ⟨ug, uo', none⟩) n uc) rfl (by kernel_rfl) (by kernel_rfl) (by kernel_rfl) (fun _ _ _ h => h) (Yields.yieldsIf (Or.inl ⟨by rfl, fun w => by go_simp⟩)) KB2.out ?_
      try simp only [Act.put, List.getElem_toArray, List.getElem_cons_zero, List.getElem_cons_succ, List.setIfInBounds_toArray, List.set_cons_zero, List.set_cons_succ]
      refine wpAnyH_take (i := 18) (v := .int .i64 (i : Int)) rfl (by kernel_rfl) (by kernel_rfl) (by kernel_rfl) (fun _ _ _ h => h) (Yields.yieldsIf (Or.inl ⟨by rfl, fun w => by go_simp⟩)) KB2.out ?_
      try simp only [Act.put, List.getElem_toArray, List.getElem_cons_zero, List.getElem_cons_succ, List.setIfInBounds_toArray, List.set_cons_zero, List.set_cons_succ]
      refine wpAnyH_take (i := 19) (v := .pointer (some ⟨ug, uo' + i, none⟩)) rfl (by kernel_rfl) (by kernel_rfl) (by kernel_rfl) (fun _ _ _ h => h) (Yields.yieldsIf (Or.inl ⟨by rfl, fun w => by go_simp⟩)) KB2.out ?_
      try simp only [Act.put, List.getElem_toArray, List.getElem_cons_zero, List.getElem_cons_succ, List.setIfInBounds_toArray, List.set_cons_zero, List.set_cons_succ]
      refine wpAnyH_take (i := 20) (v := .int .u8 (tgB z)) rfl (by kernel_rfl) (by kernel_rfl) (by kernel_rfl) (fun _ _ _ h => h) (Or.inl ⟨by rfl, fun w9 h9 => by have y1 := cell_keep KU.out h9; have y2 := cell_keep KP.out h9; have y3 := cell_keep KQ.out h9; go_simp⟩) KB2.out ?_
      try simp only [Act.put, List.getElem_toArray, List.getElem_cons_zero, List.getElem_cons_succ, List.setIfInBounds_toArray, List.set_cons_zero, List.set_cons_succ]
      refine wpAnyH_take (i := 21) (v := .int .u8 z) rfl (by kernel_rfl) (by kernel_rfl) (by kernel_rfl) (fun _ _ _ h => h) (Yields.yieldsIf (Or.inl ⟨by rfl, fun w => by go_simp⟩)) KB2.out ?_
      try simp only [Act.put, List.getElem_toArray, List.getElem_cons_zero, List.getElem_cons_succ, List.setIfInBounds_toArray, List.set_cons_zero, List.set_cons_succ]
      refine wpAnyH_all (rs := [22]) (by kernel_rfl) (by simp) (AllH.cons rfl (fun K hK => ?_) AllH.nil)
      go_simp
      refine (toggle_any z _ hz0 hz1).mono ?_
      rintro e w' ⟨rfl, hw⟩
      have hq := hw.symm
      subst hq
      clear hw
      dsimp only
      refine hK _ _ ⟨KB2.out, ?_⟩
      clear hK K
      try simp only [Act.put, List.getElem_toArray, List.getElem_cons_zero, List.getElem_cons_succ, List.setIfInBounds_toArray, List.set_cons_zero, List.set_cons_succ]
      refine wpAnyH_take (i := 23) (v := .bool false) rfl (by kernel_rfl) (by kernel_rfl) (by kernel_rfl) (fun _ _ _ h => h) (Yields.yieldsIf (Or.inl ⟨by rfl, fun w => by go_simp⟩)) KB2.out ?_
      try simp only [Act.put, List.getElem_toArray, List.getElem_cons_zero, List.getElem_cons_succ, List.setIfInBounds_toArray, List.set_cons_zero, List.set_cons_succ]
      refine wpAnyH_take (i := 24) (v := .bool false) rfl (by kernel_rfl) (by kernel_rfl) (by kernel_rfl) (fun _ _ _ h => h) (Yields.yieldsIf (Or.inl ⟨by rfl, fun w => by go_simp⟩)) KB2.out ?_
      try simp only [Act.put, List.getElem_toArray, List.getElem_cons_zero, List.getElem_cons_succ, List.setIfInBounds_toArray, List.set_cons_zero, List.set_cons_succ]
      refine wpAnyH_done (by kernel_rfl) ?_ _
      go_wp2
      go_roundg go
      case measure => omega
      case rel => exact ⟨i + 1, by go_num, by omega, KB2.out⟩
end Go.Proofs.YtppefcnopkmhbaaDoor
