/- OperFits, walked. -/
import Derived.Test.YtppefcnopkmhbaaGreatDoorPa30
namespace Go.Proofs.YtppefcnopkmhbaaGreatDoor
open Go.RowKit

set_option maxRecDepth 8000
def askC (a1 a2 : Int) (s : ByteArray) (rf rt : Int) (rl rd : Bool) : Array Value := #[.int .i64 a1, .int .i64 a2, .string s, .int .i64 rf, .int .i64 rt, .bool rl, .bool rd]
def laiC (b1 b2 : Int) (set lin : Bool) (xv : Value) (ah : Bool) : Array Value := #[.int .i64 b1, .int .i64 b2, .bool set, .bool lin, xv, .bool ah]
def triC (a1 a2 : Int) (s : ByteArray) (rf rt : Int) (rl rd : Bool) (b1 b2 : Int) (set lin : Bool) (xv : Value) (ah : Bool) (kind m1 m2 : Int) (bb : UInt8) (key : ByteArray) : Array Value := #[.int .i64 a1, .int .i64 a2, .string s, .int .i64 rf, .int .i64 rt, .bool rl, .bool rd, .int .i64 b1, .int .i64 b2, .bool set, .bool lin, xv, .bool ah, .int .i64 kind, .int .i64 m1, .int .i64 m2, .int .u8 (bb.toNat : Int), .string key]
theorem askC_cells {W : World} {B : Nat} {a1 a2 : Int} {s : ByteArray} {rf rt : Int} {rl rd : Bool} (h : Blk W B 30 (askC a1 a2 s rf rt rl rd)) :
    W.cell? ⟨B, 0, none⟩ = some (.int .i64 a1) ∧ W.cell? ⟨B, 1, none⟩ = some (.int .i64 a2) ∧ W.cell? ⟨B, 2, none⟩ = some (.string s) ∧ W.cell? ⟨B, 3, none⟩ = some (.int .i64 rf) ∧ W.cell? ⟨B, 4, none⟩ = some (.int .i64 rt) ∧ W.cell? ⟨B, 5, none⟩ = some (.bool rl) ∧ W.cell? ⟨B, 6, none⟩ = some (.bool rd) := ⟨h.cell rfl, h.cell rfl, h.cell rfl, h.cell rfl, h.cell rfl, h.cell rfl, h.cell rfl⟩
theorem laiC_cells {W : World} {B : Nat} {b1 b2 : Int} {set lin : Bool} {xv : Value} {ah : Bool} (h : Blk W B 48 (laiC b1 b2 set lin xv ah)) :
    W.cell? ⟨B, 0, none⟩ = some (.int .i64 b1) ∧ W.cell? ⟨B, 1, none⟩ = some (.int .i64 b2) ∧ W.cell? ⟨B, 2, none⟩ = some (.bool set) ∧ W.cell? ⟨B, 3, none⟩ = some (.bool lin) ∧ W.cell? ⟨B, 4, none⟩ = some xv ∧ W.cell? ⟨B, 5, none⟩ = some (.bool ah) := ⟨h.cell rfl, h.cell rfl, h.cell rfl, h.cell rfl, h.cell rfl, h.cell rfl⟩
theorem triC_cells {W : World} {B : Nat} {a1 a2 : Int} {s : ByteArray} {rf rt : Int} {rl rd : Bool} {b1 b2 : Int} {set lin : Bool} {xv : Value} {ah : Bool} {kind m1 m2 : Int} {bb : UInt8} {key : ByteArray} (h : Blk W B 61 (triC a1 a2 s rf rt rl rd b1 b2 set lin xv ah kind m1 m2 bb key)) :
    W.cell? ⟨B, 0, none⟩ = some (.int .i64 a1) ∧ W.cell? ⟨B, 1, none⟩ = some (.int .i64 a2) ∧ W.cell? ⟨B, 2, none⟩ = some (.string s) ∧ W.cell? ⟨B, 3, none⟩ = some (.int .i64 rf) ∧ W.cell? ⟨B, 4, none⟩ = some (.int .i64 rt) ∧ W.cell? ⟨B, 5, none⟩ = some (.bool rl) ∧ W.cell? ⟨B, 6, none⟩ = some (.bool rd) ∧ W.cell? ⟨B, 7, none⟩ = some (.int .i64 b1) ∧ W.cell? ⟨B, 8, none⟩ = some (.int .i64 b2) ∧ W.cell? ⟨B, 9, none⟩ = some (.bool set) ∧ W.cell? ⟨B, 10, none⟩ = some (.bool lin) ∧ W.cell? ⟨B, 11, none⟩ = some (xv) ∧ W.cell? ⟨B, 12, none⟩ = some (.bool ah) ∧ W.cell? ⟨B, 13, none⟩ = some (.int .i64 kind) ∧ W.cell? ⟨B, 14, none⟩ = some (.int .i64 m1) ∧ W.cell? ⟨B, 15, none⟩ = some (.int .i64 m2) ∧ W.cell? ⟨B, 16, none⟩ = some (.int .u8 (bb.toNat : Int)) ∧ W.cell? ⟨B, 17, none⟩ = some (.string key) := ⟨h.cell rfl, h.cell rfl, h.cell rfl, h.cell rfl, h.cell rfl, h.cell rfl, h.cell rfl, h.cell rfl, h.cell rfl, h.cell rfl, h.cell rfl, h.cell rfl, h.cell rfl, h.cell rfl, h.cell rfl, h.cell rfl, h.cell rfl, h.cell rfl⟩
def Fsq (w1 wx : World) (x5 x6 x7 : Value) (a1 a2 : Int) (s : ByteArray) (rf rt : Int) (rl rd : Bool) (b1 b2 : Int) (set lin : Bool) (xo : Option Addr) (xn xc : Nat) (ah : Bool) (kind m1 m2 : Int) (bb : UInt8) (key : ByteArray) : Prop := ∃ A B C : Nat, x5 = .pointer (some ⟨A, 0, none⟩) ∧ x6 = .pointer (some ⟨B, 0, none⟩) ∧ x7 = .pointer (some ⟨C, 0, none⟩) ∧ Hid (Blk wx A 30 (askC a1 a2 s rf rt rl rd)) ∧ Hid (Blk wx B 48 (laiC b1 b2 set lin (.slice xo xn xc) ah)) ∧ Hid (Blk wx C 54 (smC kind m1 m2 bb key)) ∧ Hid (Below w1.heap.size w1 wx)
set_option maxHeartbeats 32000000 in
set_option linter.unusedSimpArgs false in
theorem operFits_walk (ao : Option Addr) (n c : Nat) (l : List UInt8) (a1 a2 : Int) (s : ByteArray) (rf rt : Int) (rl rd : Bool) (b1 b2 : Int) (set lin : Bool) (xo : Option Addr) (xn xc : Nat) (X : List UInt8) (ah : Bool) (kind m1 m2 : Int) (bb : UInt8) (key : ByteArray) (W : World) (HT : Tx W ao n c l) (HX : Tx W xo xn xc X) (hxn : xn ≤ 140737488351232) :
    Calls Tryz.prog 6 #[.slice ao n c, .agg #[.int .i64 a1, .int .i64 a2, .string s, .int .i64 rf, .int .i64 rt, .bool rl, .bool rd, .int .i64 b1, .int .i64 b2, .bool set, .bool lin, .slice xo xn xc, .bool ah, .int .i64 kind, .int .i64 m1, .int .i64 m2, .int .u8 (bb.toNat : Int), .string key]] W fun e w' => e = .returned (.bool true) ∧ Below W.heap.size W w' := by
  have hln := HT.len
  obtain ⟨W0, hW0⟩ : ∃ x, W.alloc (.cells #[.int .i64 a1, .int .i64 a2, .string s, .int .i64 rf, .int .i64 rt, .bool rl, .bool rd, .int .i64 b1, .int .i64 b2, .bool set, .bool lin, .slice xo xn xc, .bool ah, .int .i64 kind, .int .i64 m1, .int .i64 m2, .int .u8 (bb.toNat : Int), .string key] 61) = x := ⟨_, rfl⟩
  obtain ⟨qc, hqc⟩ : ∃ q, W.heap.size = q := ⟨_, rfl⟩
  have hb0 : Below W.heap.size W W0 := by rw [← hW0]; exact bAlloc (Below.refl _ _) _
  have KC : Hid (Blk W0 qc 61 (triC a1 a2 s rf rt rl rd b1 b2 set lin (.slice xo xn xc) ah kind m1 m2 bb key)) := by unfold Hid; rw [← hW0, ← hqc]; exact Blk.new W 61 _
  have CA := Hid.mk' (awake_any W0)
  have TT := Hid.mk' (HT.keep hb0)
  have XX := Hid.mk' (HX.keep hb0)
  have BB := Hid.mk' hb0
  clear HT HX hb0
  go_enter Tryz.func6, Tryz.ntmps6
  go_upto_region 1 with fail
  clear hW0 hqc
  go_upto_region 3 with (first | (go_at_call 7; refine CA.out.mono ?_; rintro e w1 ⟨rfl, hb⟩) | fail)
  clear CA
  have TT_ := Hid.mk' (TT.out.keep hb)
  clear TT
  have TT := TT_
  clear TT_
  have XX_ := Hid.mk' (XX.out.keep hb)
  clear XX
  have XX := XX_
  clear XX_
  have BB_ := Hid.mk' (bT BB.out hb)
  clear BB
  have BB := BB_
  clear BB_
  have KC_ := Hid.mk' (KC.out.keep hb)
  clear KC
  have KC := KC_
  clear KC_
  clear hb
  go_cut [5, 6, 7] from 16 to 21 (fun x5 x6 x7 wx => Fsq w1 wx x5 x6 x7 a1 a2 s rf rt rl rd b1 b2 set lin xo xn xc ah kind m1 m2 bb key)
  case first =>
    have SZ : Hid (Below w1.heap.size w1 w1.drew) := (Below.refl _ _).drew
    clear TT XX BB
    have TRC := KC
    clear KC
    refine wp_region_held (S := fun w' => Below w1.heap.size w1 w') (by kernel_rfl) ?_
    change wpAnyH _ _ _ _ _ _ _ _ (World.drew _)
    generalize w1.drew = V0 at *
    refine wpAnyH_take (i := 0) (v := .pointer (some ⟨qc, 0, none⟩)) rfl (by kernel_rfl) (by kernel_rfl) (by kernel_rfl) (fun _ _ _ h => h) (Yields.yieldsIf (Or.inl ⟨by rfl, fun w => by go_simp⟩)) SZ.out ?_
    try simp only [Act.put, List.getElem_toArray, List.getElem_cons_zero, List.getElem_cons_succ, List.setIfInBounds_toArray, List.set_cons_zero, List.set_cons_succ]
    refine wpAnyH_take (i := 1) (v := .agg #[.int .i64 a1, .int .i64 a2, .string s, .int .i64 rf, .int .i64 rt, .bool rl, .bool rd]) rfl (by kernel_rfl) (by kernel_rfl) (by kernel_rfl) (fun _ _ _ h => h) (Or.inl ⟨by rfl, fun w9 h9 => by obtain ⟨y0, y1, y2, y3, y4, y5, y6, y7, y8, y9, y10, y11, y12, y13, y14, y15, y16, y17⟩ := triC_cells (TRC.out.keep h9); go_simp⟩) SZ.out ?_
    try simp only [Act.put, List.getElem_toArray, List.getElem_cons_zero, List.getElem_cons_succ, List.setIfInBounds_toArray, List.set_cons_zero, List.set_cons_succ]
    refine wpAnyH_take (i := 2) (v := .pointer (some ⟨qc, 7, none⟩)) rfl (by kernel_rfl) (by kernel_rfl) (by kernel_rfl) (fun _ _ _ h => h) (Yields.yieldsIf (Or.inl ⟨by rfl, fun w => by go_simp⟩)) SZ.out ?_
    try simp only [Act.put, List.getElem_toArray, List.getElem_cons_zero, List.getElem_cons_succ, List.setIfInBounds_toArray, List.set_cons_zero, List.set_cons_succ]
    refine wpAnyH_take (i := 3) (v := .agg #[.int .i64 b1, .int .i64 b2, .bool set, .bool lin, .slice xo xn xc, .bool ah]) rfl (by kernel_rfl) (by kernel_rfl) (by kernel_rfl) (fun _ _ _ h => h) (Or.inl ⟨by rfl, fun w9 h9 => by obtain ⟨y0, y1, y2, y3, y4, y5, y6, y7, y8, y9, y10, y11, y12, y13, y14, y15, y16, y17⟩ := triC_cells (TRC.out.keep h9); go_simp⟩) SZ.out ?_
    try simp only [Act.put, List.getElem_toArray, List.getElem_cons_zero, List.getElem_cons_succ, List.setIfInBounds_toArray, List.set_cons_zero, List.set_cons_succ]
    refine wpAnyH_take (i := 4) (v := .pointer (some ⟨qc, 13, none⟩)) rfl (by kernel_rfl) (by kernel_rfl) (by kernel_rfl) (fun _ _ _ h => h) (Yields.yieldsIf (Or.inl ⟨by rfl, fun w => by go_simp⟩)) SZ.out ?_
    try simp only [Act.put, List.getElem_toArray, List.getElem_cons_zero, List.getElem_cons_succ, List.setIfInBounds_toArray, List.set_cons_zero, List.set_cons_succ]
    refine wpAnyH_take (i := 5) (v := .agg #[.int .i64 kind, .int .i64 m1, .int .i64 m2, .int .u8 (bb.toNat : Int), .string key]) rfl (by kernel_rfl) (by kernel_rfl) (by kernel_rfl) (fun _ _ _ h => h) (Or.inl ⟨by rfl, fun w9 h9 => by obtain ⟨y0, y1, y2, y3, y4, y5, y6, y7, y8, y9, y10, y11, y12, y13, y14, y15, y16, y17⟩ := triC_cells (TRC.out.keep h9); go_simp⟩) SZ.out ?_
    try simp only [Act.put, List.getElem_toArray, List.getElem_cons_zero, List.getElem_cons_succ, List.setIfInBounds_toArray, List.set_cons_zero, List.set_cons_succ]
    refine wpAnyH_all (rs := [6, 7, 8]) (by kernel_rfl) (by simp) (AllH.cons rfl (fun K hK => ?_) (AllH.cons rfl (fun K hK => ?_) (AllH.cons rfl (fun K hK => ?_) AllH.nil)))
    · skip
      go_simp
      obtain ⟨A, hA⟩ : ∃ q, V0.heap.size = q := ⟨_, rfl⟩
      have hbx : Below V0.heap.size V0 (V0.alloc (.cells #[.int .i64 0, .int .i64 0, .string ⟨#[]⟩, .int .i64 0, .int .i64 0, .bool false, .bool false] 30)) := bAlloc (Below.refl _ _) _
      have KA : Hid (Blk (V0.alloc (.cells #[.int .i64 0, .int .i64 0, .string ⟨#[]⟩, .int .i64 0, .int .i64 0, .bool false, .bool false] 30)) A 30 #[.int .i64 0, .int .i64 0, .string ⟨#[]⟩, .int .i64 0, .int .i64 0, .bool false, .bool false]) := by unfold Hid; rw [← hA]; exact Blk.new V0 30 _
      rw [hA]
      have GA : Hid (w1.heap.size ≤ A) := by unfold Hid; rw [← hA]; exact SZ.out.size
      generalize V0.alloc (.cells #[.int .i64 0, .int .i64 0, .string ⟨#[]⟩, .int .i64 0, .int .i64 0, .bool false, .bool false] 30) = V1 at *
      have SV1 := Hid.mk' (bT SZ.out hbx)
      clear hbx hA
      refine hK _ _ ⟨SV1.out, ?_⟩
      clear hK K
      try simp only [Act.put, List.getElem_toArray, List.getElem_cons_zero, List.getElem_cons_succ, List.setIfInBounds_toArray, List.set_cons_zero, List.set_cons_succ]
      refine wpAnyH_all (rs := [7, 8]) (by kernel_rfl) (by simp) (AllH.cons rfl (fun K hK => ?_) (AllH.cons rfl (fun K hK => ?_) AllH.nil))
      · skip
        go_simp
        obtain ⟨B, hB⟩ : ∃ q, V1.heap.size = q := ⟨_, rfl⟩
        have hbx : Below V1.heap.size V1 (V1.alloc (.cells #[.int .i64 0, .int .i64 0, .bool false, .bool false, .slice none 0 0, .bool false] 48)) := bAlloc (Below.refl _ _) _
        have KB : Hid (Blk (V1.alloc (.cells #[.int .i64 0, .int .i64 0, .bool false, .bool false, .slice none 0 0, .bool false] 48)) B 48 #[.int .i64 0, .int .i64 0, .bool false, .bool false, .slice none 0 0, .bool false]) := by unfold Hid; rw [← hB]; exact Blk.new V1 48 _
        rw [hB]
        have GB : Hid (w1.heap.size ≤ B) := by unfold Hid; rw [← hB]; exact SV1.out.size
        have DAB : Hid (A < B) := by unfold Hid; rw [← hB]; exact KA.out.lt
        generalize V1.alloc (.cells #[.int .i64 0, .int .i64 0, .bool false, .bool false, .slice none 0 0, .bool false] 48) = V2 at *
        have SV2 := Hid.mk' (bT SV1.out hbx)
        have KA' := Hid.mk' (KA.out.keep hbx)
        clear KA
        have KA := KA'
        clear KA'
        clear hbx hB
        refine hK _ _ ⟨SV2.out, ?_⟩
        clear hK K
        try simp only [Act.put, List.getElem_toArray, List.getElem_cons_zero, List.getElem_cons_succ, List.setIfInBounds_toArray, List.set_cons_zero, List.set_cons_succ]
        refine wpAnyH_all (rs := [8]) (by kernel_rfl) (by simp) (AllH.cons rfl (fun K hK => ?_) AllH.nil)
        go_simp
        obtain ⟨C, hC⟩ : ∃ q, V2.heap.size = q := ⟨_, rfl⟩
        have hbx : Below V2.heap.size V2 (V2.alloc (.cells #[.int .i64 0, .int .i64 0, .int .i64 0, .int .u8 0, .string ⟨#[]⟩] 54)) := bAlloc (Below.refl _ _) _
        have KC : Hid (Blk (V2.alloc (.cells #[.int .i64 0, .int .i64 0, .int .i64 0, .int .u8 0, .string ⟨#[]⟩] 54)) C 54 #[.int .i64 0, .int .i64 0, .int .i64 0, .int .u8 0, .string ⟨#[]⟩]) := by unfold Hid; rw [← hC]; exact Blk.new V2 54 _
        rw [hC]
        have GC : Hid (w1.heap.size ≤ C) := by unfold Hid; rw [← hC]; exact SV2.out.size
        have DAC : Hid (A < C) := by unfold Hid; rw [← hC]; exact KA.out.lt
        have DBC : Hid (B < C) := by unfold Hid; rw [← hC]; exact KB.out.lt
        generalize V2.alloc (.cells #[.int .i64 0, .int .i64 0, .int .i64 0, .int .u8 0, .string ⟨#[]⟩] 54) = V3 at *
        have SV3 := Hid.mk' (bT SV2.out hbx)
        have KA' := Hid.mk' (KA.out.keep hbx)
        clear KA
        have KA := KA'
        clear KA'
        have KB' := Hid.mk' (KB.out.keep hbx)
        clear KB
        have KB := KB'
        clear KB'
        clear hbx hC
        refine hK _ _ ⟨SV3.out, ?_⟩
        clear hK K
        try simp only [Act.put, List.getElem_toArray, List.getElem_cons_zero, List.getElem_cons_succ, List.setIfInBounds_toArray, List.set_cons_zero, List.set_cons_succ]
        refine wpAnyH_all (rs := [9]) (by kernel_rfl) (by simp) (AllH.cons rfl (fun K hK => ?_) AllH.nil)
        have e9 := KA.out
        have c0 : V3.cell? ⟨A, 0, none⟩ = some _ := KA.out.cell rfl
        have f0 := KA.out.frozen 0
        have c1 : V3.cell? ⟨A, 1, none⟩ = some _ := KA.out.cell rfl
        have f1 := KA.out.frozen 1
        have c2 : V3.cell? ⟨A, 2, none⟩ = some _ := KA.out.cell rfl
        have f2 := KA.out.frozen 2
        have c3 : V3.cell? ⟨A, 3, none⟩ = some _ := KA.out.cell rfl
        have f3 := KA.out.frozen 3
        have c4 : V3.cell? ⟨A, 4, none⟩ = some _ := KA.out.cell rfl
        have f4 := KA.out.frozen 4
        have c5 : V3.cell? ⟨A, 5, none⟩ = some _ := KA.out.cell rfl
        have f5 := KA.out.frozen 5
        have c6 : V3.cell? ⟨A, 6, none⟩ = some _ := KA.out.cell rfl
        have f6 := KA.out.frozen 6
        clear e9
        go_simp
        have hbk : Blk (((((((V3.setCell ⟨A, 0, none⟩ (.int .i64 a1)).setCell ⟨A, 1, none⟩ (.int .i64 a2)).setCell ⟨A, 2, none⟩ (.string s)).setCell ⟨A, 3, none⟩ (.int .i64 rf)).setCell ⟨A, 4, none⟩ (.int .i64 rt)).setCell ⟨A, 5, none⟩ (.bool rl)).setCell ⟨A, 6, none⟩ (.bool rd)) A 30 (askC a1 a2 s rf rt rl rd) := by
          have := (((((((KA.out.set (j := 0) (.int .i64 a1)).set (j := 1) (.int .i64 a2)).set (j := 2) (.string s)).set (j := 3) (.int .i64 rf)).set (j := 4) (.int .i64 rt)).set (j := 5) (.bool rl)).set (j := 6) (.bool rd))
          simpa [askC, laiC, smC] using this
        have hgr : V3.grownBy (((((((V3.setCell ⟨A, 0, none⟩ (.int .i64 a1)).setCell ⟨A, 1, none⟩ (.int .i64 a2)).setCell ⟨A, 2, none⟩ (.string s)).setCell ⟨A, 3, none⟩ (.int .i64 rf)).setCell ⟨A, 4, none⟩ (.int .i64 rt)).setCell ⟨A, 5, none⟩ (.bool rl)).setCell ⟨A, 6, none⟩ (.bool rd)) (some A) := ((((((grown_set V3 A 0 _).trans (grown_set _ A 1 _)).trans (grown_set _ A 2 _)).trans (grown_set _ A 3 _)).trans (grown_set _ A 4 _)).trans (grown_set _ A 5 _)).trans (grown_set _ A 6 _)
        generalize (((((((V3.setCell ⟨A, 0, none⟩ (.int .i64 a1)).setCell ⟨A, 1, none⟩ (.int .i64 a2)).setCell ⟨A, 2, none⟩ (.string s)).setCell ⟨A, 3, none⟩ (.int .i64 rf)).setCell ⟨A, 4, none⟩ (.int .i64 rt)).setCell ⟨A, 5, none⟩ (.bool rl)).setCell ⟨A, 6, none⟩ (.bool rd)) = V4 at *
        have SV4 := Hid.mk' (SV3.out.grown hgr SV3.out.size (fun g hg => by injection hg with hg; have := GA.out; omega))
        have KB' := Hid.mk' (KB.out.off2 hgr (fun e => by injection e with e; have := DAB.out; omega))
        clear KB
        have KB := KB'
        clear KB'
        have KC' := Hid.mk' (KC.out.off2 hgr (fun e => by injection e with e; have := DAC.out; omega))
        clear KC
        have KC := KC'
        clear KC'
        clear KA
        have KA := Hid.mk' hbk
        clear hbk hgr c0 f0 c1 f1 c2 f2 c3 f3 c4 f4 c5 f5 c6 f6
        refine hK _ _ ⟨SV4.out, ?_⟩
        clear hK K
        try simp only [Act.put, List.getElem_toArray, List.getElem_cons_zero, List.getElem_cons_succ, List.setIfInBounds_toArray, List.set_cons_zero, List.set_cons_succ]
        refine wpAnyH_all (rs := [10]) (by kernel_rfl) (by simp) (AllH.cons rfl (fun K hK => ?_) AllH.nil)
        have e9 := KB.out
        have c0 : V4.cell? ⟨B, 0, none⟩ = some _ := KB.out.cell rfl
        have f0 := KB.out.frozen 0
        have c1 : V4.cell? ⟨B, 1, none⟩ = some _ := KB.out.cell rfl
        have f1 := KB.out.frozen 1
        have c2 : V4.cell? ⟨B, 2, none⟩ = some _ := KB.out.cell rfl
        have f2 := KB.out.frozen 2
        have c3 : V4.cell? ⟨B, 3, none⟩ = some _ := KB.out.cell rfl
        have f3 := KB.out.frozen 3
        have c4 : V4.cell? ⟨B, 4, none⟩ = some _ := KB.out.cell rfl
        have f4 := KB.out.frozen 4
        have c5 : V4.cell? ⟨B, 5, none⟩ = some _ := KB.out.cell rfl
        have f5 := KB.out.frozen 5
        clear e9
        go_simp
        have hbk : Blk ((((((V4.setCell ⟨B, 0, none⟩ (.int .i64 b1)).setCell ⟨B, 1, none⟩ (.int .i64 b2)).setCell ⟨B, 2, none⟩ (.bool set)).setCell ⟨B, 3, none⟩ (.bool lin)).setCell ⟨B, 4, none⟩ (.slice xo xn xc)).setCell ⟨B, 5, none⟩ (.bool ah)) B 48 (laiC b1 b2 set lin (.slice xo xn xc) ah) := by
          have := ((((((KB.out.set (j := 0) (.int .i64 b1)).set (j := 1) (.int .i64 b2)).set (j := 2) (.bool set)).set (j := 3) (.bool lin)).set (j := 4) (.slice xo xn xc)).set (j := 5) (.bool ah))
          simpa [askC, laiC, smC] using this
        have hgr : V4.grownBy ((((((V4.setCell ⟨B, 0, none⟩ (.int .i64 b1)).setCell ⟨B, 1, none⟩ (.int .i64 b2)).setCell ⟨B, 2, none⟩ (.bool set)).setCell ⟨B, 3, none⟩ (.bool lin)).setCell ⟨B, 4, none⟩ (.slice xo xn xc)).setCell ⟨B, 5, none⟩ (.bool ah)) (some B) := (((((grown_set V4 B 0 _).trans (grown_set _ B 1 _)).trans (grown_set _ B 2 _)).trans (grown_set _ B 3 _)).trans (grown_set _ B 4 _)).trans (grown_set _ B 5 _)
        generalize ((((((V4.setCell ⟨B, 0, none⟩ (.int .i64 b1)).setCell ⟨B, 1, none⟩ (.int .i64 b2)).setCell ⟨B, 2, none⟩ (.bool set)).setCell ⟨B, 3, none⟩ (.bool lin)).setCell ⟨B, 4, none⟩ (.slice xo xn xc)).setCell ⟨B, 5, none⟩ (.bool ah)) = V5 at *
        have SV5 := Hid.mk' (SV4.out.grown hgr SV4.out.size (fun g hg => by injection hg with hg; have := GB.out; omega))
        have KA' := Hid.mk' (KA.out.off2 hgr (fun e => by injection e with e; have := DAB.out; omega))
        clear KA
        have KA := KA'
        clear KA'
        have KC' := Hid.mk' (KC.out.off2 hgr (fun e => by injection e with e; have := DBC.out; omega))
        clear KC
        have KC := KC'
        clear KC'
        clear KB
        have KB := Hid.mk' hbk
        clear hbk hgr c0 f0 c1 f1 c2 f2 c3 f3 c4 f4 c5 f5
        refine hK _ _ ⟨SV5.out, ?_⟩
        clear hK K
        try simp only [Act.put, List.getElem_toArray, List.getElem_cons_zero, List.getElem_cons_succ, List.setIfInBounds_toArray, List.set_cons_zero, List.set_cons_succ]
        refine wpAnyH_all (rs := [11]) (by kernel_rfl) (by simp) (AllH.cons rfl (fun K hK => ?_) AllH.nil)
        have e9 := KC.out
        have c0 : V5.cell? ⟨C, 0, none⟩ = some _ := KC.out.cell rfl
        have f0 := KC.out.frozen 0
        have c1 : V5.cell? ⟨C, 1, none⟩ = some _ := KC.out.cell rfl
        have f1 := KC.out.frozen 1
        have c2 : V5.cell? ⟨C, 2, none⟩ = some _ := KC.out.cell rfl
        have f2 := KC.out.frozen 2
        have c3 : V5.cell? ⟨C, 3, none⟩ = some _ := KC.out.cell rfl
        have f3 := KC.out.frozen 3
        have c4 : V5.cell? ⟨C, 4, none⟩ = some _ := KC.out.cell rfl
        have f4 := KC.out.frozen 4
        clear e9
        go_simp
        have hbk : Blk (((((V5.setCell ⟨C, 0, none⟩ (.int .i64 kind)).setCell ⟨C, 1, none⟩ (.int .i64 m1)).setCell ⟨C, 2, none⟩ (.int .i64 m2)).setCell ⟨C, 3, none⟩ (.int .u8 (bb.toNat : Int))).setCell ⟨C, 4, none⟩ (.string key)) C 54 (smC kind m1 m2 bb key) := by
          have := (((((KC.out.set (j := 0) (.int .i64 kind)).set (j := 1) (.int .i64 m1)).set (j := 2) (.int .i64 m2)).set (j := 3) (.int .u8 (bb.toNat : Int))).set (j := 4) (.string key))
          simpa [askC, laiC, smC] using this
        have hgr : V5.grownBy (((((V5.setCell ⟨C, 0, none⟩ (.int .i64 kind)).setCell ⟨C, 1, none⟩ (.int .i64 m1)).setCell ⟨C, 2, none⟩ (.int .i64 m2)).setCell ⟨C, 3, none⟩ (.int .u8 (bb.toNat : Int))).setCell ⟨C, 4, none⟩ (.string key)) (some C) := ((((grown_set V5 C 0 _).trans (grown_set _ C 1 _)).trans (grown_set _ C 2 _)).trans (grown_set _ C 3 _)).trans (grown_set _ C 4 _)
        generalize (((((V5.setCell ⟨C, 0, none⟩ (.int .i64 kind)).setCell ⟨C, 1, none⟩ (.int .i64 m1)).setCell ⟨C, 2, none⟩ (.int .i64 m2)).setCell ⟨C, 3, none⟩ (.int .u8 (bb.toNat : Int))).setCell ⟨C, 4, none⟩ (.string key)) = V6 at *
        have SV6 := Hid.mk' (SV5.out.grown hgr SV5.out.size (fun g hg => by injection hg with hg; have := GC.out; omega))
        have KA' := Hid.mk' (KA.out.off2 hgr (fun e => by injection e with e; have := DAC.out; omega))
        clear KA
        have KA := KA'
        clear KA'
        have KB' := Hid.mk' (KB.out.off2 hgr (fun e => by injection e with e; have := DBC.out; omega))
        clear KB
        have KB := KB'
        clear KB'
        clear KC
        have KC := Hid.mk' hbk
        clear hbk hgr c0 f0 c1 f1 c2 f2 c3 f3 c4 f4
        refine hK _ _ ⟨SV6.out, ?_⟩
        clear hK K
        try simp only [Act.put, List.getElem_toArray, List.getElem_cons_zero, List.getElem_cons_succ, List.setIfInBounds_toArray, List.set_cons_zero, List.set_cons_succ]
        refine wpAnyH_done (by kernel_rfl) ?_ _
        go_wp2_with fail
        go_meet
        exact ⟨A, B, C, rfl, rfl, rfl, KA.out, KB.out, KC.out, SV6.out⟩
      · skip
        go_simp
        obtain ⟨C, hC⟩ : ∃ q, V1.heap.size = q := ⟨_, rfl⟩
        have hbx : Below V1.heap.size V1 (V1.alloc (.cells #[.int .i64 0, .int .i64 0, .int .i64 0, .int .u8 0, .string ⟨#[]⟩] 54)) := bAlloc (Below.refl _ _) _
        have KC : Hid (Blk (V1.alloc (.cells #[.int .i64 0, .int .i64 0, .int .i64 0, .int .u8 0, .string ⟨#[]⟩] 54)) C 54 #[.int .i64 0, .int .i64 0, .int .i64 0, .int .u8 0, .string ⟨#[]⟩]) := by unfold Hid; rw [← hC]; exact Blk.new V1 54 _
        rw [hC]
        have GC : Hid (w1.heap.size ≤ C) := by unfold Hid; rw [← hC]; exact SV1.out.size
        have DAC : Hid (A < C) := by unfold Hid; rw [← hC]; exact KA.out.lt
        generalize V1.alloc (.cells #[.int .i64 0, .int .i64 0, .int .i64 0, .int .u8 0, .string ⟨#[]⟩] 54) = V2 at *
        have SV2 := Hid.mk' (bT SV1.out hbx)
        have KA' := Hid.mk' (KA.out.keep hbx)
        clear KA
        have KA := KA'
        clear KA'
        clear hbx hC
        refine hK _ _ ⟨SV2.out, ?_⟩
        clear hK K
        try simp only [Act.put, List.getElem_toArray, List.getElem_cons_zero, List.getElem_cons_succ, List.setIfInBounds_toArray, List.set_cons_zero, List.set_cons_succ]
        refine wpAnyH_all (rs := [7]) (by kernel_rfl) (by simp) (AllH.cons rfl (fun K hK => ?_) AllH.nil)
        go_simp
        obtain ⟨B, hB⟩ : ∃ q, V2.heap.size = q := ⟨_, rfl⟩
        have hbx : Below V2.heap.size V2 (V2.alloc (.cells #[.int .i64 0, .int .i64 0, .bool false, .bool false, .slice none 0 0, .bool false] 48)) := bAlloc (Below.refl _ _) _
        have KB : Hid (Blk (V2.alloc (.cells #[.int .i64 0, .int .i64 0, .bool false, .bool false, .slice none 0 0, .bool false] 48)) B 48 #[.int .i64 0, .int .i64 0, .bool false, .bool false, .slice none 0 0, .bool false]) := by unfold Hid; rw [← hB]; exact Blk.new V2 48 _
        rw [hB]
        have GB : Hid (w1.heap.size ≤ B) := by unfold Hid; rw [← hB]; exact SV2.out.size
        have DAB : Hid (A < B) := by unfold Hid; rw [← hB]; exact KA.out.lt
        have DCB : Hid (C < B) := by unfold Hid; rw [← hB]; exact KC.out.lt
        generalize V2.alloc (.cells #[.int .i64 0, .int .i64 0, .bool false, .bool false, .slice none 0 0, .bool false] 48) = V3 at *
        have SV3 := Hid.mk' (bT SV2.out hbx)
        have KA' := Hid.mk' (KA.out.keep hbx)
        clear KA
        have KA := KA'
        clear KA'
        have KC' := Hid.mk' (KC.out.keep hbx)
        clear KC
        have KC := KC'
        clear KC'
        clear hbx hB
        refine hK _ _ ⟨SV3.out, ?_⟩
        clear hK K
        try simp only [Act.put, List.getElem_toArray, List.getElem_cons_zero, List.getElem_cons_succ, List.setIfInBounds_toArray, List.set_cons_zero, List.set_cons_succ]
        refine wpAnyH_all (rs := [9]) (by kernel_rfl) (by simp) (AllH.cons rfl (fun K hK => ?_) AllH.nil)
        have e9 := KA.out
        have c0 : V3.cell? ⟨A, 0, none⟩ = some _ := KA.out.cell rfl
        have f0 := KA.out.frozen 0
        have c1 : V3.cell? ⟨A, 1, none⟩ = some _ := KA.out.cell rfl
        have f1 := KA.out.frozen 1
        have c2 : V3.cell? ⟨A, 2, none⟩ = some _ := KA.out.cell rfl
        have f2 := KA.out.frozen 2
        have c3 : V3.cell? ⟨A, 3, none⟩ = some _ := KA.out.cell rfl
        have f3 := KA.out.frozen 3
        have c4 : V3.cell? ⟨A, 4, none⟩ = some _ := KA.out.cell rfl
        have f4 := KA.out.frozen 4
        have c5 : V3.cell? ⟨A, 5, none⟩ = some _ := KA.out.cell rfl
        have f5 := KA.out.frozen 5
        have c6 : V3.cell? ⟨A, 6, none⟩ = some _ := KA.out.cell rfl
        have f6 := KA.out.frozen 6
        clear e9
        go_simp
        have hbk : Blk (((((((V3.setCell ⟨A, 0, none⟩ (.int .i64 a1)).setCell ⟨A, 1, none⟩ (.int .i64 a2)).setCell ⟨A, 2, none⟩ (.string s)).setCell ⟨A, 3, none⟩ (.int .i64 rf)).setCell ⟨A, 4, none⟩ (.int .i64 rt)).setCell ⟨A, 5, none⟩ (.bool rl)).setCell ⟨A, 6, none⟩ (.bool rd)) A 30 (askC a1 a2 s rf rt rl rd) := by
          have := (((((((KA.out.set (j := 0) (.int .i64 a1)).set (j := 1) (.int .i64 a2)).set (j := 2) (.string s)).set (j := 3) (.int .i64 rf)).set (j := 4) (.int .i64 rt)).set (j := 5) (.bool rl)).set (j := 6) (.bool rd))
          simpa [askC, laiC, smC] using this
        have hgr : V3.grownBy (((((((V3.setCell ⟨A, 0, none⟩ (.int .i64 a1)).setCell ⟨A, 1, none⟩ (.int .i64 a2)).setCell ⟨A, 2, none⟩ (.string s)).setCell ⟨A, 3, none⟩ (.int .i64 rf)).setCell ⟨A, 4, none⟩ (.int .i64 rt)).setCell ⟨A, 5, none⟩ (.bool rl)).setCell ⟨A, 6, none⟩ (.bool rd)) (some A) := ((((((grown_set V3 A 0 _).trans (grown_set _ A 1 _)).trans (grown_set _ A 2 _)).trans (grown_set _ A 3 _)).trans (grown_set _ A 4 _)).trans (grown_set _ A 5 _)).trans (grown_set _ A 6 _)
        generalize (((((((V3.setCell ⟨A, 0, none⟩ (.int .i64 a1)).setCell ⟨A, 1, none⟩ (.int .i64 a2)).setCell ⟨A, 2, none⟩ (.string s)).setCell ⟨A, 3, none⟩ (.int .i64 rf)).setCell ⟨A, 4, none⟩ (.int .i64 rt)).setCell ⟨A, 5, none⟩ (.bool rl)).setCell ⟨A, 6, none⟩ (.bool rd)) = V4 at *
        have SV4 := Hid.mk' (SV3.out.grown hgr SV3.out.size (fun g hg => by injection hg with hg; have := GA.out; omega))
        have KB' := Hid.mk' (KB.out.off2 hgr (fun e => by injection e with e; have := DAB.out; omega))
        clear KB
        have KB := KB'
        clear KB'
        have KC' := Hid.mk' (KC.out.off2 hgr (fun e => by injection e with e; have := DAC.out; omega))
        clear KC
        have KC := KC'
        clear KC'
        clear KA
        have KA := Hid.mk' hbk
        clear hbk hgr c0 f0 c1 f1 c2 f2 c3 f3 c4 f4 c5 f5 c6 f6
        refine hK _ _ ⟨SV4.out, ?_⟩
        clear hK K
        try simp only [Act.put, List.getElem_toArray, List.getElem_cons_zero, List.getElem_cons_succ, List.setIfInBounds_toArray, List.set_cons_zero, List.set_cons_succ]
        refine wpAnyH_all (rs := [10]) (by kernel_rfl) (by simp) (AllH.cons rfl (fun K hK => ?_) AllH.nil)
        have e9 := KB.out
        have c0 : V4.cell? ⟨B, 0, none⟩ = some _ := KB.out.cell rfl
        have f0 := KB.out.frozen 0
        have c1 : V4.cell? ⟨B, 1, none⟩ = some _ := KB.out.cell rfl
        have f1 := KB.out.frozen 1
        have c2 : V4.cell? ⟨B, 2, none⟩ = some _ := KB.out.cell rfl
        have f2 := KB.out.frozen 2
        have c3 : V4.cell? ⟨B, 3, none⟩ = some _ := KB.out.cell rfl
        have f3 := KB.out.frozen 3
        have c4 : V4.cell? ⟨B, 4, none⟩ = some _ := KB.out.cell rfl
        have f4 := KB.out.frozen 4
        have c5 : V4.cell? ⟨B, 5, none⟩ = some _ := KB.out.cell rfl
        have f5 := KB.out.frozen 5
        clear e9
        go_simp
        have hbk : Blk ((((((V4.setCell ⟨B, 0, none⟩ (.int .i64 b1)).setCell ⟨B, 1, none⟩ (.int .i64 b2)).setCell ⟨B, 2, none⟩ (.bool set)).setCell ⟨B, 3, none⟩ (.bool lin)).setCell ⟨B, 4, none⟩ (.slice xo xn xc)).setCell ⟨B, 5, none⟩ (.bool ah)) B 48 (laiC b1 b2 set lin (.slice xo xn xc) ah) := by
          have := ((((((KB.out.set (j := 0) (.int .i64 b1)).set (j := 1) (.int .i64 b2)).set (j := 2) (.bool set)).set (j := 3) (.bool lin)).set (j := 4) (.slice xo xn xc)).set (j := 5) (.bool ah))
          simpa [askC, laiC, smC] using this
        have hgr : V4.grownBy ((((((V4.setCell ⟨B, 0, none⟩ (.int .i64 b1)).setCell ⟨B, 1, none⟩ (.int .i64 b2)).setCell ⟨B, 2, none⟩ (.bool set)).setCell ⟨B, 3, none⟩ (.bool lin)).setCell ⟨B, 4, none⟩ (.slice xo xn xc)).setCell ⟨B, 5, none⟩ (.bool ah)) (some B) := (((((grown_set V4 B 0 _).trans (grown_set _ B 1 _)).trans (grown_set _ B 2 _)).trans (grown_set _ B 3 _)).trans (grown_set _ B 4 _)).trans (grown_set _ B 5 _)
        generalize ((((((V4.setCell ⟨B, 0, none⟩ (.int .i64 b1)).setCell ⟨B, 1, none⟩ (.int .i64 b2)).setCell ⟨B, 2, none⟩ (.bool set)).setCell ⟨B, 3, none⟩ (.bool lin)).setCell ⟨B, 4, none⟩ (.slice xo xn xc)).setCell ⟨B, 5, none⟩ (.bool ah)) = V5 at *
        have SV5 := Hid.mk' (SV4.out.grown hgr SV4.out.size (fun g hg => by injection hg with hg; have := GB.out; omega))
        have KA' := Hid.mk' (KA.out.off2 hgr (fun e => by injection e with e; have := DAB.out; omega))
        clear KA
        have KA := KA'
        clear KA'
        have KC' := Hid.mk' (KC.out.off2 hgr (fun e => by injection e with e; have := DCB.out; omega))
        clear KC
        have KC := KC'
        clear KC'
        clear KB
        have KB := Hid.mk' hbk
        clear hbk hgr c0 f0 c1 f1 c2 f2 c3 f3 c4 f4 c5 f5
        refine hK _ _ ⟨SV5.out, ?_⟩
        clear hK K
        try simp only [Act.put, List.getElem_toArray, List.getElem_cons_zero, List.getElem_cons_succ, List.setIfInBounds_toArray, List.set_cons_zero, List.set_cons_succ]
        refine wpAnyH_all (rs := [11]) (by kernel_rfl) (by simp) (AllH.cons rfl (fun K hK => ?_) AllH.nil)
        have e9 := KC.out
        have c0 : V5.cell? ⟨C, 0, none⟩ = some _ := KC.out.cell rfl
        have f0 := KC.out.frozen 0
        have c1 : V5.cell? ⟨C, 1, none⟩ = some _ := KC.out.cell rfl
        have f1 := KC.out.frozen 1
        have c2 : V5.cell? ⟨C, 2, none⟩ = some _ := KC.out.cell rfl
        have f2 := KC.out.frozen 2
        have c3 : V5.cell? ⟨C, 3, none⟩ = some _ := KC.out.cell rfl
        have f3 := KC.out.frozen 3
        have c4 : V5.cell? ⟨C, 4, none⟩ = some _ := KC.out.cell rfl
        have f4 := KC.out.frozen 4
        clear e9
        go_simp
        have hbk : Blk (((((V5.setCell ⟨C, 0, none⟩ (.int .i64 kind)).setCell ⟨C, 1, none⟩ (.int .i64 m1)).setCell ⟨C, 2, none⟩ (.int .i64 m2)).setCell ⟨C, 3, none⟩ (.int .u8 (bb.toNat : Int))).setCell ⟨C, 4, none⟩ (.string key)) C 54 (smC kind m1 m2 bb key) := by
          have := (((((KC.out.set (j := 0) (.int .i64 kind)).set (j := 1) (.int .i64 m1)).set (j := 2) (.int .i64 m2)).set (j := 3) (.int .u8 (bb.toNat : Int))).set (j := 4) (.string key))
          simpa [askC, laiC, smC] using this
        have hgr : V5.grownBy (((((V5.setCell ⟨C, 0, none⟩ (.int .i64 kind)).setCell ⟨C, 1, none⟩ (.int .i64 m1)).setCell ⟨C, 2, none⟩ (.int .i64 m2)).setCell ⟨C, 3, none⟩ (.int .u8 (bb.toNat : Int))).setCell ⟨C, 4, none⟩ (.string key)) (some C) := ((((grown_set V5 C 0 _).trans (grown_set _ C 1 _)).trans (grown_set _ C 2 _)).trans (grown_set _ C 3 _)).trans (grown_set _ C 4 _)
        generalize (((((V5.setCell ⟨C, 0, none⟩ (.int .i64 kind)).setCell ⟨C, 1, none⟩ (.int .i64 m1)).setCell ⟨C, 2, none⟩ (.int .i64 m2)).setCell ⟨C, 3, none⟩ (.int .u8 (bb.toNat : Int))).setCell ⟨C, 4, none⟩ (.string key)) = V6 at *
        have SV6 := Hid.mk' (SV5.out.grown hgr SV5.out.size (fun g hg => by injection hg with hg; have := GC.out; omega))
        have KA' := Hid.mk' (KA.out.off2 hgr (fun e => by injection e with e; have := DAC.out; omega))
        clear KA
        have KA := KA'
        clear KA'
        have KB' := Hid.mk' (KB.out.off2 hgr (fun e => by injection e with e; have := DCB.out; omega))
        clear KB
        have KB := KB'
        clear KB'
        clear KC
        have KC := Hid.mk' hbk
        clear hbk hgr c0 f0 c1 f1 c2 f2 c3 f3 c4 f4
        refine hK _ _ ⟨SV6.out, ?_⟩
        clear hK K
        try simp only [Act.put, List.getElem_toArray, List.getElem_cons_zero, List.getElem_cons_succ, List.setIfInBounds_toArray, List.set_cons_zero, List.set_cons_succ]
        refine wpAnyH_done (by kernel_rfl) ?_ _
        go_wp2_with fail
        go_meet
        exact ⟨A, B, C, rfl, rfl, rfl, KA.out, KB.out, KC.out, SV6.out⟩
    · skip
      go_simp
      obtain ⟨B, hB⟩ : ∃ q, V0.heap.size = q := ⟨_, rfl⟩
      have hbx : Below V0.heap.size V0 (V0.alloc (.cells #[.int .i64 0, .int .i64 0, .bool false, .bool false, .slice none 0 0, .bool false] 48)) := bAlloc (Below.refl _ _) _
      have KB : Hid (Blk (V0.alloc (.cells #[.int .i64 0, .int .i64 0, .bool false, .bool false, .slice none 0 0, .bool false] 48)) B 48 #[.int .i64 0, .int .i64 0, .bool false, .bool false, .slice none 0 0, .bool false]) := by unfold Hid; rw [← hB]; exact Blk.new V0 48 _
      rw [hB]
      have GB : Hid (w1.heap.size ≤ B) := by unfold Hid; rw [← hB]; exact SZ.out.size
      generalize V0.alloc (.cells #[.int .i64 0, .int .i64 0, .bool false, .bool false, .slice none 0 0, .bool false] 48) = V1 at *
      have SV1 := Hid.mk' (bT SZ.out hbx)
      clear hbx hB
      refine hK _ _ ⟨SV1.out, ?_⟩
      clear hK K
      try simp only [Act.put, List.getElem_toArray, List.getElem_cons_zero, List.getElem_cons_succ, List.setIfInBounds_toArray, List.set_cons_zero, List.set_cons_succ]
      refine wpAnyH_all (rs := [6, 8]) (by kernel_rfl) (by simp) (AllH.cons rfl (fun K hK => ?_) (AllH.cons rfl (fun K hK => ?_) AllH.nil))
      · skip
        go_simp
        obtain ⟨A, hA⟩ : ∃ q, V1.heap.size = q := ⟨_, rfl⟩
        have hbx : Below V1.heap.size V1 (V1.alloc (.cells #[.int .i64 0, .int .i64 0, .string ⟨#[]⟩, .int .i64 0, .int .i64 0, .bool false, .bool false] 30)) := bAlloc (Below.refl _ _) _
        have KA : Hid (Blk (V1.alloc (.cells #[.int .i64 0, .int .i64 0, .string ⟨#[]⟩, .int .i64 0, .int .i64 0, .bool false, .bool false] 30)) A 30 #[.int .i64 0, .int .i64 0, .string ⟨#[]⟩, .int .i64 0, .int .i64 0, .bool false, .bool false]) := by unfold Hid; rw [← hA]; exact Blk.new V1 30 _
        rw [hA]
        have GA : Hid (w1.heap.size ≤ A) := by unfold Hid; rw [← hA]; exact SV1.out.size
        have DBA : Hid (B < A) := by unfold Hid; rw [← hA]; exact KB.out.lt
        generalize V1.alloc (.cells #[.int .i64 0, .int .i64 0, .string ⟨#[]⟩, .int .i64 0, .int .i64 0, .bool false, .bool false] 30) = V2 at *
        have SV2 := Hid.mk' (bT SV1.out hbx)
        have KB' := Hid.mk' (KB.out.keep hbx)
        clear KB
        have KB := KB'
        clear KB'
        clear hbx hA
        refine hK _ _ ⟨SV2.out, ?_⟩
        clear hK K
        try simp only [Act.put, List.getElem_toArray, List.getElem_cons_zero, List.getElem_cons_succ, List.setIfInBounds_toArray, List.set_cons_zero, List.set_cons_succ]
        refine wpAnyH_all (rs := [8]) (by kernel_rfl) (by simp) (AllH.cons rfl (fun K hK => ?_) AllH.nil)
        go_simp
        obtain ⟨C, hC⟩ : ∃ q, V2.heap.size = q := ⟨_, rfl⟩
        have hbx : Below V2.heap.size V2 (V2.alloc (.cells #[.int .i64 0, .int .i64 0, .int .i64 0, .int .u8 0, .string ⟨#[]⟩] 54)) := bAlloc (Below.refl _ _) _
        have KC : Hid (Blk (V2.alloc (.cells #[.int .i64 0, .int .i64 0, .int .i64 0, .int .u8 0, .string ⟨#[]⟩] 54)) C 54 #[.int .i64 0, .int .i64 0, .int .i64 0, .int .u8 0, .string ⟨#[]⟩]) := by unfold Hid; rw [← hC]; exact Blk.new V2 54 _
        rw [hC]
        have GC : Hid (w1.heap.size ≤ C) := by unfold Hid; rw [← hC]; exact SV2.out.size
        have DBC : Hid (B < C) := by unfold Hid; rw [← hC]; exact KB.out.lt
        have DAC : Hid (A < C) := by unfold Hid; rw [← hC]; exact KA.out.lt
        generalize V2.alloc (.cells #[.int .i64 0, .int .i64 0, .int .i64 0, .int .u8 0, .string ⟨#[]⟩] 54) = V3 at *
        have SV3 := Hid.mk' (bT SV2.out hbx)
        have KB' := Hid.mk' (KB.out.keep hbx)
        clear KB
        have KB := KB'
        clear KB'
        have KA' := Hid.mk' (KA.out.keep hbx)
        clear KA
        have KA := KA'
        clear KA'
        clear hbx hC
        refine hK _ _ ⟨SV3.out, ?_⟩
        clear hK K
        try simp only [Act.put, List.getElem_toArray, List.getElem_cons_zero, List.getElem_cons_succ, List.setIfInBounds_toArray, List.set_cons_zero, List.set_cons_succ]
        refine wpAnyH_all (rs := [9]) (by kernel_rfl) (by simp) (AllH.cons rfl (fun K hK => ?_) AllH.nil)
        have e9 := KA.out
        have c0 : V3.cell? ⟨A, 0, none⟩ = some _ := KA.out.cell rfl
        have f0 := KA.out.frozen 0
        have c1 : V3.cell? ⟨A, 1, none⟩ = some _ := KA.out.cell rfl
        have f1 := KA.out.frozen 1
        have c2 : V3.cell? ⟨A, 2, none⟩ = some _ := KA.out.cell rfl
        have f2 := KA.out.frozen 2
        have c3 : V3.cell? ⟨A, 3, none⟩ = some _ := KA.out.cell rfl
        have f3 := KA.out.frozen 3
        have c4 : V3.cell? ⟨A, 4, none⟩ = some _ := KA.out.cell rfl
        have f4 := KA.out.frozen 4
        have c5 : V3.cell? ⟨A, 5, none⟩ = some _ := KA.out.cell rfl
        have f5 := KA.out.frozen 5
        have c6 : V3.cell? ⟨A, 6, none⟩ = some _ := KA.out.cell rfl
        have f6 := KA.out.frozen 6
        clear e9
        go_simp
        have hbk : Blk (((((((V3.setCell ⟨A, 0, none⟩ (.int .i64 a1)).setCell ⟨A, 1, none⟩ (.int .i64 a2)).setCell ⟨A, 2, none⟩ (.string s)).setCell ⟨A, 3, none⟩ (.int .i64 rf)).setCell ⟨A, 4, none⟩ (.int .i64 rt)).setCell ⟨A, 5, none⟩ (.bool rl)).setCell ⟨A, 6, none⟩ (.bool rd)) A 30 (askC a1 a2 s rf rt rl rd) := by
          have := (((((((KA.out.set (j := 0) (.int .i64 a1)).set (j := 1) (.int .i64 a2)).set (j := 2) (.string s)).set (j := 3) (.int .i64 rf)).set (j := 4) (.int .i64 rt)).set (j := 5) (.bool rl)).set (j := 6) (.bool rd))
          simpa [askC, laiC, smC] using this
        have hgr : V3.grownBy (((((((V3.setCell ⟨A, 0, none⟩ (.int .i64 a1)).setCell ⟨A, 1, none⟩ (.int .i64 a2)).setCell ⟨A, 2, none⟩ (.string s)).setCell ⟨A, 3, none⟩ (.int .i64 rf)).setCell ⟨A, 4, none⟩ (.int .i64 rt)).setCell ⟨A, 5, none⟩ (.bool rl)).setCell ⟨A, 6, none⟩ (.bool rd)) (some A) := ((((((grown_set V3 A 0 _).trans (grown_set _ A 1 _)).trans (grown_set _ A 2 _)).trans (grown_set _ A 3 _)).trans (grown_set _ A 4 _)).trans (grown_set _ A 5 _)).trans (grown_set _ A 6 _)
        generalize (((((((V3.setCell ⟨A, 0, none⟩ (.int .i64 a1)).setCell ⟨A, 1, none⟩ (.int .i64 a2)).setCell ⟨A, 2, none⟩ (.string s)).setCell ⟨A, 3, none⟩ (.int .i64 rf)).setCell ⟨A, 4, none⟩ (.int .i64 rt)).setCell ⟨A, 5, none⟩ (.bool rl)).setCell ⟨A, 6, none⟩ (.bool rd)) = V4 at *
        have SV4 := Hid.mk' (SV3.out.grown hgr SV3.out.size (fun g hg => by injection hg with hg; have := GA.out; omega))
        have KB' := Hid.mk' (KB.out.off2 hgr (fun e => by injection e with e; have := DBA.out; omega))
        clear KB
        have KB := KB'
        clear KB'
        have KC' := Hid.mk' (KC.out.off2 hgr (fun e => by injection e with e; have := DAC.out; omega))
        clear KC
        have KC := KC'
        clear KC'
        clear KA
        have KA := Hid.mk' hbk
        clear hbk hgr c0 f0 c1 f1 c2 f2 c3 f3 c4 f4 c5 f5 c6 f6
        refine hK _ _ ⟨SV4.out, ?_⟩
        clear hK K
        try simp only [Act.put, List.getElem_toArray, List.getElem_cons_zero, List.getElem_cons_succ, List.setIfInBounds_toArray, List.set_cons_zero, List.set_cons_succ]
        refine wpAnyH_all (rs := [10]) (by kernel_rfl) (by simp) (AllH.cons rfl (fun K hK => ?_) AllH.nil)
        have e9 := KB.out
        have c0 : V4.cell? ⟨B, 0, none⟩ = some _ := KB.out.cell rfl
        have f0 := KB.out.frozen 0
        have c1 : V4.cell? ⟨B, 1, none⟩ = some _ := KB.out.cell rfl
        have f1 := KB.out.frozen 1
        have c2 : V4.cell? ⟨B, 2, none⟩ = some _ := KB.out.cell rfl
        have f2 := KB.out.frozen 2
        have c3 : V4.cell? ⟨B, 3, none⟩ = some _ := KB.out.cell rfl
        have f3 := KB.out.frozen 3
        have c4 : V4.cell? ⟨B, 4, none⟩ = some _ := KB.out.cell rfl
        have f4 := KB.out.frozen 4
        have c5 : V4.cell? ⟨B, 5, none⟩ = some _ := KB.out.cell rfl
        have f5 := KB.out.frozen 5
        clear e9
        go_simp
        have hbk : Blk ((((((V4.setCell ⟨B, 0, none⟩ (.int .i64 b1)).setCell ⟨B, 1, none⟩ (.int .i64 b2)).setCell ⟨B, 2, none⟩ (.bool set)).setCell ⟨B, 3, none⟩ (.bool lin)).setCell ⟨B, 4, none⟩ (.slice xo xn xc)).setCell ⟨B, 5, none⟩ (.bool ah)) B 48 (laiC b1 b2 set lin (.slice xo xn xc) ah) := by
          have := ((((((KB.out.set (j := 0) (.int .i64 b1)).set (j := 1) (.int .i64 b2)).set (j := 2) (.bool set)).set (j := 3) (.bool lin)).set (j := 4) (.slice xo xn xc)).set (j := 5) (.bool ah))
          simpa [askC, laiC, smC] using this
        have hgr : V4.grownBy ((((((V4.setCell ⟨B, 0, none⟩ (.int .i64 b1)).setCell ⟨B, 1, none⟩ (.int .i64 b2)).setCell ⟨B, 2, none⟩ (.bool set)).setCell ⟨B, 3, none⟩ (.bool lin)).setCell ⟨B, 4, none⟩ (.slice xo xn xc)).setCell ⟨B, 5, none⟩ (.bool ah)) (some B) := (((((grown_set V4 B 0 _).trans (grown_set _ B 1 _)).trans (grown_set _ B 2 _)).trans (grown_set _ B 3 _)).trans (grown_set _ B 4 _)).trans (grown_set _ B 5 _)
        generalize ((((((V4.setCell ⟨B, 0, none⟩ (.int .i64 b1)).setCell ⟨B, 1, none⟩ (.int .i64 b2)).setCell ⟨B, 2, none⟩ (.bool set)).setCell ⟨B, 3, none⟩ (.bool lin)).setCell ⟨B, 4, none⟩ (.slice xo xn xc)).setCell ⟨B, 5, none⟩ (.bool ah)) = V5 at *
        have SV5 := Hid.mk' (SV4.out.grown hgr SV4.out.size (fun g hg => by injection hg with hg; have := GB.out; omega))
        have KA' := Hid.mk' (KA.out.off2 hgr (fun e => by injection e with e; have := DBA.out; omega))
        clear KA
        have KA := KA'
        clear KA'
        have KC' := Hid.mk' (KC.out.off2 hgr (fun e => by injection e with e; have := DBC.out; omega))
        clear KC
        have KC := KC'
        clear KC'
        clear KB
        have KB := Hid.mk' hbk
        clear hbk hgr c0 f0 c1 f1 c2 f2 c3 f3 c4 f4 c5 f5
        refine hK _ _ ⟨SV5.out, ?_⟩
        clear hK K
        try simp only [Act.put, List.getElem_toArray, List.getElem_cons_zero, List.getElem_cons_succ, List.setIfInBounds_toArray, List.set_cons_zero, List.set_cons_succ]
        refine wpAnyH_all (rs := [11]) (by kernel_rfl) (by simp) (AllH.cons rfl (fun K hK => ?_) AllH.nil)
        have e9 := KC.out
        have c0 : V5.cell? ⟨C, 0, none⟩ = some _ := KC.out.cell rfl
        have f0 := KC.out.frozen 0
        have c1 : V5.cell? ⟨C, 1, none⟩ = some _ := KC.out.cell rfl
        have f1 := KC.out.frozen 1
        have c2 : V5.cell? ⟨C, 2, none⟩ = some _ := KC.out.cell rfl
        have f2 := KC.out.frozen 2
        have c3 : V5.cell? ⟨C, 3, none⟩ = some _ := KC.out.cell rfl
        have f3 := KC.out.frozen 3
        have c4 : V5.cell? ⟨C, 4, none⟩ = some _ := KC.out.cell rfl
        have f4 := KC.out.frozen 4
        clear e9
        go_simp
        have hbk : Blk (((((V5.setCell ⟨C, 0, none⟩ (.int .i64 kind)).setCell ⟨C, 1, none⟩ (.int .i64 m1)).setCell ⟨C, 2, none⟩ (.int .i64 m2)).setCell ⟨C, 3, none⟩ (.int .u8 (bb.toNat : Int))).setCell ⟨C, 4, none⟩ (.string key)) C 54 (smC kind m1 m2 bb key) := by
          have := (((((KC.out.set (j := 0) (.int .i64 kind)).set (j := 1) (.int .i64 m1)).set (j := 2) (.int .i64 m2)).set (j := 3) (.int .u8 (bb.toNat : Int))).set (j := 4) (.string key))
          simpa [askC, laiC, smC] using this
        have hgr : V5.grownBy (((((V5.setCell ⟨C, 0, none⟩ (.int .i64 kind)).setCell ⟨C, 1, none⟩ (.int .i64 m1)).setCell ⟨C, 2, none⟩ (.int .i64 m2)).setCell ⟨C, 3, none⟩ (.int .u8 (bb.toNat : Int))).setCell ⟨C, 4, none⟩ (.string key)) (some C) := ((((grown_set V5 C 0 _).trans (grown_set _ C 1 _)).trans (grown_set _ C 2 _)).trans (grown_set _ C 3 _)).trans (grown_set _ C 4 _)
        generalize (((((V5.setCell ⟨C, 0, none⟩ (.int .i64 kind)).setCell ⟨C, 1, none⟩ (.int .i64 m1)).setCell ⟨C, 2, none⟩ (.int .i64 m2)).setCell ⟨C, 3, none⟩ (.int .u8 (bb.toNat : Int))).setCell ⟨C, 4, none⟩ (.string key)) = V6 at *
        have SV6 := Hid.mk' (SV5.out.grown hgr SV5.out.size (fun g hg => by injection hg with hg; have := GC.out; omega))
        have KA' := Hid.mk' (KA.out.off2 hgr (fun e => by injection e with e; have := DAC.out; omega))
        clear KA
        have KA := KA'
        clear KA'
        have KB' := Hid.mk' (KB.out.off2 hgr (fun e => by injection e with e; have := DBC.out; omega))
        clear KB
        have KB := KB'
        clear KB'
        clear KC
        have KC := Hid.mk' hbk
        clear hbk hgr c0 f0 c1 f1 c2 f2 c3 f3 c4 f4
        refine hK _ _ ⟨SV6.out, ?_⟩
        clear hK K
        try simp only [Act.put, List.getElem_toArray, List.getElem_cons_zero, List.getElem_cons_succ, List.setIfInBounds_toArray, List.set_cons_zero, List.set_cons_succ]
        refine wpAnyH_done (by kernel_rfl) ?_ _
        go_wp2_with fail
        go_meet
        exact ⟨A, B, C, rfl, rfl, rfl, KA.out, KB.out, KC.out, SV6.out⟩
      · skip
        go_simp
        obtain ⟨C, hC⟩ : ∃ q, V1.heap.size = q := ⟨_, rfl⟩
        have hbx : Below V1.heap.size V1 (V1.alloc (.cells #[.int .i64 0, .int .i64 0, .int .i64 0, .int .u8 0, .string ⟨#[]⟩] 54)) := bAlloc (Below.refl _ _) _
        have KC : Hid (Blk (V1.alloc (.cells #[.int .i64 0, .int .i64 0, .int .i64 0, .int .u8 0, .string ⟨#[]⟩] 54)) C 54 #[.int .i64 0, .int .i64 0, .int .i64 0, .int .u8 0, .string ⟨#[]⟩]) := by unfold Hid; rw [← hC]; exact Blk.new V1 54 _
        rw [hC]
        have GC : Hid (w1.heap.size ≤ C) := by unfold Hid; rw [← hC]; exact SV1.out.size
        have DBC : Hid (B < C) := by unfold Hid; rw [← hC]; exact KB.out.lt
        generalize V1.alloc (.cells #[.int .i64 0, .int .i64 0, .int .i64 0, .int .u8 0, .string ⟨#[]⟩] 54) = V2 at *
        have SV2 := Hid.mk' (bT SV1.out hbx)
        have KB' := Hid.mk' (KB.out.keep hbx)
        clear KB
        have KB := KB'
        clear KB'
        clear hbx hC
        refine hK _ _ ⟨SV2.out, ?_⟩
        clear hK K
        try simp only [Act.put, List.getElem_toArray, List.getElem_cons_zero, List.getElem_cons_succ, List.setIfInBounds_toArray, List.set_cons_zero, List.set_cons_succ]
        refine wpAnyH_all (rs := [6]) (by kernel_rfl) (by simp) (AllH.cons rfl (fun K hK => ?_) AllH.nil)
        go_simp
        obtain ⟨A, hA⟩ : ∃ q, V2.heap.size = q := ⟨_, rfl⟩
        have hbx : Below V2.heap.size V2 (V2.alloc (.cells #[.int .i64 0, .int .i64 0, .string ⟨#[]⟩, .int .i64 0, .int .i64 0, .bool false, .bool false] 30)) := bAlloc (Below.refl _ _) _
        have KA : Hid (Blk (V2.alloc (.cells #[.int .i64 0, .int .i64 0, .string ⟨#[]⟩, .int .i64 0, .int .i64 0, .bool false, .bool false] 30)) A 30 #[.int .i64 0, .int .i64 0, .string ⟨#[]⟩, .int .i64 0, .int .i64 0, .bool false, .bool false]) := by unfold Hid; rw [← hA]; exact Blk.new V2 30 _
        rw [hA]
        have GA : Hid (w1.heap.size ≤ A) := by unfold Hid; rw [← hA]; exact SV2.out.size
        have DBA : Hid (B < A) := by unfold Hid; rw [← hA]; exact KB.out.lt
        have DCA : Hid (C < A) := by unfold Hid; rw [← hA]; exact KC.out.lt
        generalize V2.alloc (.cells #[.int .i64 0, .int .i64 0, .string ⟨#[]⟩, .int .i64 0, .int .i64 0, .bool false, .bool false] 30) = V3 at *
        have SV3 := Hid.mk' (bT SV2.out hbx)
        have KB' := Hid.mk' (KB.out.keep hbx)
        clear KB
        have KB := KB'
        clear KB'
        have KC' := Hid.mk' (KC.out.keep hbx)
        clear KC
        have KC := KC'
        clear KC'
        clear hbx hA
        refine hK _ _ ⟨SV3.out, ?_⟩
        clear hK K
        try simp only [Act.put, List.getElem_toArray, List.getElem_cons_zero, List.getElem_cons_succ, List.setIfInBounds_toArray, List.set_cons_zero, List.set_cons_succ]
        refine wpAnyH_all (rs := [9]) (by kernel_rfl) (by simp) (AllH.cons rfl (fun K hK => ?_) AllH.nil)
        have e9 := KA.out
        have c0 : V3.cell? ⟨A, 0, none⟩ = some _ := KA.out.cell rfl
        have f0 := KA.out.frozen 0
        have c1 : V3.cell? ⟨A, 1, none⟩ = some _ := KA.out.cell rfl
        have f1 := KA.out.frozen 1
        have c2 : V3.cell? ⟨A, 2, none⟩ = some _ := KA.out.cell rfl
        have f2 := KA.out.frozen 2
        have c3 : V3.cell? ⟨A, 3, none⟩ = some _ := KA.out.cell rfl
        have f3 := KA.out.frozen 3
        have c4 : V3.cell? ⟨A, 4, none⟩ = some _ := KA.out.cell rfl
        have f4 := KA.out.frozen 4
        have c5 : V3.cell? ⟨A, 5, none⟩ = some _ := KA.out.cell rfl
        have f5 := KA.out.frozen 5
        have c6 : V3.cell? ⟨A, 6, none⟩ = some _ := KA.out.cell rfl
        have f6 := KA.out.frozen 6
        clear e9
        go_simp
        have hbk : Blk (((((((V3.setCell ⟨A, 0, none⟩ (.int .i64 a1)).setCell ⟨A, 1, none⟩ (.int .i64 a2)).setCell ⟨A, 2, none⟩ (.string s)).setCell ⟨A, 3, none⟩ (.int .i64 rf)).setCell ⟨A, 4, none⟩ (.int .i64 rt)).setCell ⟨A, 5, none⟩ (.bool rl)).setCell ⟨A, 6, none⟩ (.bool rd)) A 30 (askC a1 a2 s rf rt rl rd) := by
          have := (((((((KA.out.set (j := 0) (.int .i64 a1)).set (j := 1) (.int .i64 a2)).set (j := 2) (.string s)).set (j := 3) (.int .i64 rf)).set (j := 4) (.int .i64 rt)).set (j := 5) (.bool rl)).set (j := 6) (.bool rd))
          simpa [askC, laiC, smC] using this
        have hgr : V3.grownBy (((((((V3.setCell ⟨A, 0, none⟩ (.int .i64 a1)).setCell ⟨A, 1, none⟩ (.int .i64 a2)).setCell ⟨A, 2, none⟩ (.string s)).setCell ⟨A, 3, none⟩ (.int .i64 rf)).setCell ⟨A, 4, none⟩ (.int .i64 rt)).setCell ⟨A, 5, none⟩ (.bool rl)).setCell ⟨A, 6, none⟩ (.bool rd)) (some A) := ((((((grown_set V3 A 0 _).trans (grown_set _ A 1 _)).trans (grown_set _ A 2 _)).trans (grown_set _ A 3 _)).trans (grown_set _ A 4 _)).trans (grown_set _ A 5 _)).trans (grown_set _ A 6 _)
        generalize (((((((V3.setCell ⟨A, 0, none⟩ (.int .i64 a1)).setCell ⟨A, 1, none⟩ (.int .i64 a2)).setCell ⟨A, 2, none⟩ (.string s)).setCell ⟨A, 3, none⟩ (.int .i64 rf)).setCell ⟨A, 4, none⟩ (.int .i64 rt)).setCell ⟨A, 5, none⟩ (.bool rl)).setCell ⟨A, 6, none⟩ (.bool rd)) = V4 at *
        have SV4 := Hid.mk' (SV3.out.grown hgr SV3.out.size (fun g hg => by injection hg with hg; have := GA.out; omega))
        have KB' := Hid.mk' (KB.out.off2 hgr (fun e => by injection e with e; have := DBA.out; omega))
        clear KB
        have KB := KB'
        clear KB'
        have KC' := Hid.mk' (KC.out.off2 hgr (fun e => by injection e with e; have := DCA.out; omega))
        clear KC
        have KC := KC'
        clear KC'
        clear KA
        have KA := Hid.mk' hbk
        clear hbk hgr c0 f0 c1 f1 c2 f2 c3 f3 c4 f4 c5 f5 c6 f6
        refine hK _ _ ⟨SV4.out, ?_⟩
        clear hK K
        try simp only [Act.put, List.getElem_toArray, List.getElem_cons_zero, List.getElem_cons_succ, List.setIfInBounds_toArray, List.set_cons_zero, List.set_cons_succ]
        refine wpAnyH_all (rs := [10]) (by kernel_rfl) (by simp) (AllH.cons rfl (fun K hK => ?_) AllH.nil)
        have e9 := KB.out
        have c0 : V4.cell? ⟨B, 0, none⟩ = some _ := KB.out.cell rfl
        have f0 := KB.out.frozen 0
        have c1 : V4.cell? ⟨B, 1, none⟩ = some _ := KB.out.cell rfl
        have f1 := KB.out.frozen 1
        have c2 : V4.cell? ⟨B, 2, none⟩ = some _ := KB.out.cell rfl
        have f2 := KB.out.frozen 2
        have c3 : V4.cell? ⟨B, 3, none⟩ = some _ := KB.out.cell rfl
        have f3 := KB.out.frozen 3
        have c4 : V4.cell? ⟨B, 4, none⟩ = some _ := KB.out.cell rfl
        have f4 := KB.out.frozen 4
        have c5 : V4.cell? ⟨B, 5, none⟩ = some _ := KB.out.cell rfl
        have f5 := KB.out.frozen 5
        clear e9
        go_simp
        have hbk : Blk ((((((V4.setCell ⟨B, 0, none⟩ (.int .i64 b1)).setCell ⟨B, 1, none⟩ (.int .i64 b2)).setCell ⟨B, 2, none⟩ (.bool set)).setCell ⟨B, 3, none⟩ (.bool lin)).setCell ⟨B, 4, none⟩ (.slice xo xn xc)).setCell ⟨B, 5, none⟩ (.bool ah)) B 48 (laiC b1 b2 set lin (.slice xo xn xc) ah) := by
          have := ((((((KB.out.set (j := 0) (.int .i64 b1)).set (j := 1) (.int .i64 b2)).set (j := 2) (.bool set)).set (j := 3) (.bool lin)).set (j := 4) (.slice xo xn xc)).set (j := 5) (.bool ah))
          simpa [askC, laiC, smC] using this
        have hgr : V4.grownBy ((((((V4.setCell ⟨B, 0, none⟩ (.int .i64 b1)).setCell ⟨B, 1, none⟩ (.int .i64 b2)).setCell ⟨B, 2, none⟩ (.bool set)).setCell ⟨B, 3, none⟩ (.bool lin)).setCell ⟨B, 4, none⟩ (.slice xo xn xc)).setCell ⟨B, 5, none⟩ (.bool ah)) (some B) := (((((grown_set V4 B 0 _).trans (grown_set _ B 1 _)).trans (grown_set _ B 2 _)).trans (grown_set _ B 3 _)).trans (grown_set _ B 4 _)).trans (grown_set _ B 5 _)
        generalize ((((((V4.setCell ⟨B, 0, none⟩ (.int .i64 b1)).setCell ⟨B, 1, none⟩ (.int .i64 b2)).setCell ⟨B, 2, none⟩ (.bool set)).setCell ⟨B, 3, none⟩ (.bool lin)).setCell ⟨B, 4, none⟩ (.slice xo xn xc)).setCell ⟨B, 5, none⟩ (.bool ah)) = V5 at *
        have SV5 := Hid.mk' (SV4.out.grown hgr SV4.out.size (fun g hg => by injection hg with hg; have := GB.out; omega))
        have KA' := Hid.mk' (KA.out.off2 hgr (fun e => by injection e with e; have := DBA.out; omega))
        clear KA
        have KA := KA'
        clear KA'
        have KC' := Hid.mk' (KC.out.off2 hgr (fun e => by injection e with e; have := DBC.out; omega))
        clear KC
        have KC := KC'
        clear KC'
        clear KB
        have KB := Hid.mk' hbk
        clear hbk hgr c0 f0 c1 f1 c2 f2 c3 f3 c4 f4 c5 f5
        refine hK _ _ ⟨SV5.out, ?_⟩
        clear hK K
        try simp only [Act.put, List.getElem_toArray, List.getElem_cons_zero, List.getElem_cons_succ, List.setIfInBounds_toArray, List.set_cons_zero, List.set_cons_succ]
        refine wpAnyH_all (rs := [11]) (by kernel_rfl) (by simp) (AllH.cons rfl (fun K hK => ?_) AllH.nil)
        have e9 := KC.out
        have c0 : V5.cell? ⟨C, 0, none⟩ = some _ := KC.out.cell rfl
        have f0 := KC.out.frozen 0
        have c1 : V5.cell? ⟨C, 1, none⟩ = some _ := KC.out.cell rfl
        have f1 := KC.out.frozen 1
        have c2 : V5.cell? ⟨C, 2, none⟩ = some _ := KC.out.cell rfl
        have f2 := KC.out.frozen 2
        have c3 : V5.cell? ⟨C, 3, none⟩ = some _ := KC.out.cell rfl
        have f3 := KC.out.frozen 3
        have c4 : V5.cell? ⟨C, 4, none⟩ = some _ := KC.out.cell rfl
        have f4 := KC.out.frozen 4
        clear e9
        go_simp
        have hbk : Blk (((((V5.setCell ⟨C, 0, none⟩ (.int .i64 kind)).setCell ⟨C, 1, none⟩ (.int .i64 m1)).setCell ⟨C, 2, none⟩ (.int .i64 m2)).setCell ⟨C, 3, none⟩ (.int .u8 (bb.toNat : Int))).setCell ⟨C, 4, none⟩ (.string key)) C 54 (smC kind m1 m2 bb key) := by
          have := (((((KC.out.set (j := 0) (.int .i64 kind)).set (j := 1) (.int .i64 m1)).set (j := 2) (.int .i64 m2)).set (j := 3) (.int .u8 (bb.toNat : Int))).set (j := 4) (.string key))
          simpa [askC, laiC, smC] using this
        have hgr : V5.grownBy (((((V5.setCell ⟨C, 0, none⟩ (.int .i64 kind)).setCell ⟨C, 1, none⟩ (.int .i64 m1)).setCell ⟨C, 2, none⟩ (.int .i64 m2)).setCell ⟨C, 3, none⟩ (.int .u8 (bb.toNat : Int))).setCell ⟨C, 4, none⟩ (.string key)) (some C) := ((((grown_set V5 C 0 _).trans (grown_set _ C 1 _)).trans (grown_set _ C 2 _)).trans (grown_set _ C 3 _)).trans (grown_set _ C 4 _)
        generalize (((((V5.setCell ⟨C, 0, none⟩ (.int .i64 kind)).setCell ⟨C, 1, none⟩ (.int .i64 m1)).setCell ⟨C, 2, none⟩ (.int .i64 m2)).setCell ⟨C, 3, none⟩ (.int .u8 (bb.toNat : Int))).setCell ⟨C, 4, none⟩ (.string key)) = V6 at *
        have SV6 := Hid.mk' (SV5.out.grown hgr SV5.out.size (fun g hg => by injection hg with hg; have := GC.out; omega))
        have KA' := Hid.mk' (KA.out.off2 hgr (fun e => by injection e with e; have := DCA.out; omega))
        clear KA
        have KA := KA'
        clear KA'
        have KB' := Hid.mk' (KB.out.off2 hgr (fun e => by injection e with e; have := DBC.out; omega))
        clear KB
        have KB := KB'
        clear KB'
        clear KC
        have KC := Hid.mk' hbk
        clear hbk hgr c0 f0 c1 f1 c2 f2 c3 f3 c4 f4
        refine hK _ _ ⟨SV6.out, ?_⟩
        clear hK K
        try simp only [Act.put, List.getElem_toArray, List.getElem_cons_zero, List.getElem_cons_succ, List.setIfInBounds_toArray, List.set_cons_zero, List.set_cons_succ]
        refine wpAnyH_done (by kernel_rfl) ?_ _
        go_wp2_with fail
        go_meet
        exact ⟨A, B, C, rfl, rfl, rfl, KA.out, KB.out, KC.out, SV6.out⟩
    · skip
      go_simp
      obtain ⟨C, hC⟩ : ∃ q, V0.heap.size = q := ⟨_, rfl⟩
      have hbx : Below V0.heap.size V0 (V0.alloc (.cells #[.int .i64 0, .int .i64 0, .int .i64 0, .int .u8 0, .string ⟨#[]⟩] 54)) := bAlloc (Below.refl _ _) _
      have KC : Hid (Blk (V0.alloc (.cells #[.int .i64 0, .int .i64 0, .int .i64 0, .int .u8 0, .string ⟨#[]⟩] 54)) C 54 #[.int .i64 0, .int .i64 0, .int .i64 0, .int .u8 0, .string ⟨#[]⟩]) := by unfold Hid; rw [← hC]; exact Blk.new V0 54 _
      rw [hC]
      have GC : Hid (w1.heap.size ≤ C) := by unfold Hid; rw [← hC]; exact SZ.out.size
      generalize V0.alloc (.cells #[.int .i64 0, .int .i64 0, .int .i64 0, .int .u8 0, .string ⟨#[]⟩] 54) = V1 at *
      have SV1 := Hid.mk' (bT SZ.out hbx)
      clear hbx hC
      refine hK _ _ ⟨SV1.out, ?_⟩
      clear hK K
      try simp only [Act.put, List.getElem_toArray, List.getElem_cons_zero, List.getElem_cons_succ, List.setIfInBounds_toArray, List.set_cons_zero, List.set_cons_succ]
      refine wpAnyH_all (rs := [6, 7]) (by kernel_rfl) (by simp) (AllH.cons rfl (fun K hK => ?_) (AllH.cons rfl (fun K hK => ?_) AllH.nil))
      · skip
        go_simp
        obtain ⟨A, hA⟩ : ∃ q, V1.heap.size = q := ⟨_, rfl⟩
        have hbx : Below V1.heap.size V1 (V1.alloc (.cells #[.int .i64 0, .int .i64 0, .string ⟨#[]⟩, .int .i64 0, .int .i64 0, .bool false, .bool false] 30)) := bAlloc (Below.refl _ _) _
        have KA : Hid (Blk (V1.alloc (.cells #[.int .i64 0, .int .i64 0, .string ⟨#[]⟩, .int .i64 0, .int .i64 0, .bool false, .bool false] 30)) A 30 #[.int .i64 0, .int .i64 0, .string ⟨#[]⟩, .int .i64 0, .int .i64 0, .bool false, .bool false]) := by unfold Hid; rw [← hA]; exact Blk.new V1 30 _
        rw [hA]
        have GA : Hid (w1.heap.size ≤ A) := by unfold Hid; rw [← hA]; exact SV1.out.size
        have DCA : Hid (C < A) := by unfold Hid; rw [← hA]; exact KC.out.lt
        generalize V1.alloc (.cells #[.int .i64 0, .int .i64 0, .string ⟨#[]⟩, .int .i64 0, .int .i64 0, .bool false, .bool false] 30) = V2 at *
        have SV2 := Hid.mk' (bT SV1.out hbx)
        have KC' := Hid.mk' (KC.out.keep hbx)
        clear KC
        have KC := KC'
        clear KC'
        clear hbx hA
        refine hK _ _ ⟨SV2.out, ?_⟩
        clear hK K
        try simp only [Act.put, List.getElem_toArray, List.getElem_cons_zero, List.getElem_cons_succ, List.setIfInBounds_toArray, List.set_cons_zero, List.set_cons_succ]
        refine wpAnyH_all (rs := [7]) (by kernel_rfl) (by simp) (AllH.cons rfl (fun K hK => ?_) AllH.nil)
        go_simp
        obtain ⟨B, hB⟩ : ∃ q, V2.heap.size = q := ⟨_, rfl⟩
        have hbx : Below V2.heap.size V2 (V2.alloc (.cells #[.int .i64 0, .int .i64 0, .bool false, .bool false, .slice none 0 0, .bool false] 48)) := bAlloc (Below.refl _ _) _
        have KB : Hid (Blk (V2.alloc (.cells #[.int .i64 0, .int .i64 0, .bool false, .bool false, .slice none 0 0, .bool false] 48)) B 48 #[.int .i64 0, .int .i64 0, .bool false, .bool false, .slice none 0 0, .bool false]) := by unfold Hid; rw [← hB]; exact Blk.new V2 48 _
        rw [hB]
        have GB : Hid (w1.heap.size ≤ B) := by unfold Hid; rw [← hB]; exact SV2.out.size
        have DCB : Hid (C < B) := by unfold Hid; rw [← hB]; exact KC.out.lt
        have DAB : Hid (A < B) := by unfold Hid; rw [← hB]; exact KA.out.lt
        generalize V2.alloc (.cells #[.int .i64 0, .int .i64 0, .bool false, .bool false, .slice none 0 0, .bool false] 48) = V3 at *
        have SV3 := Hid.mk' (bT SV2.out hbx)
        have KC' := Hid.mk' (KC.out.keep hbx)
        clear KC
        have KC := KC'
        clear KC'
        have KA' := Hid.mk' (KA.out.keep hbx)
        clear KA
        have KA := KA'
        clear KA'
        clear hbx hB
        refine hK _ _ ⟨SV3.out, ?_⟩
        clear hK K
        try simp only [Act.put, List.getElem_toArray, List.getElem_cons_zero, List.getElem_cons_succ, List.setIfInBounds_toArray, List.set_cons_zero, List.set_cons_succ]
        refine wpAnyH_all (rs := [9]) (by kernel_rfl) (by simp) (AllH.cons rfl (fun K hK => ?_) AllH.nil)
        have e9 := KA.out
        have c0 : V3.cell? ⟨A, 0, none⟩ = some _ := KA.out.cell rfl
        have f0 := KA.out.frozen 0
        have c1 : V3.cell? ⟨A, 1, none⟩ = some _ := KA.out.cell rfl
        have f1 := KA.out.frozen 1
        have c2 : V3.cell? ⟨A, 2, none⟩ = some _ := KA.out.cell rfl
        have f2 := KA.out.frozen 2
        have c3 : V3.cell? ⟨A, 3, none⟩ = some _ := KA.out.cell rfl
        have f3 := KA.out.frozen 3
        have c4 : V3.cell? ⟨A, 4, none⟩ = some _ := KA.out.cell rfl
        have f4 := KA.out.frozen 4
        have c5 : V3.cell? ⟨A, 5, none⟩ = some _ := KA.out.cell rfl
        have f5 := KA.out.frozen 5
        have c6 : V3.cell? ⟨A, 6, none⟩ = some _ := KA.out.cell rfl
        have f6 := KA.out.frozen 6
        clear e9
        go_simp
        have hbk : Blk (((((((V3.setCell ⟨A, 0, none⟩ (.int .i64 a1)).setCell ⟨A, 1, none⟩ (.int .i64 a2)).setCell ⟨A, 2, none⟩ (.string s)).setCell ⟨A, 3, none⟩ (.int .i64 rf)).setCell ⟨A, 4, none⟩ (.int .i64 rt)).setCell ⟨A, 5, none⟩ (.bool rl)).setCell ⟨A, 6, none⟩ (.bool rd)) A 30 (askC a1 a2 s rf rt rl rd) := by
          have := (((((((KA.out.set (j := 0) (.int .i64 a1)).set (j := 1) (.int .i64 a2)).set (j := 2) (.string s)).set (j := 3) (.int .i64 rf)).set (j := 4) (.int .i64 rt)).set (j := 5) (.bool rl)).set (j := 6) (.bool rd))
          simpa [askC, laiC, smC] using this
        have hgr : V3.grownBy (((((((V3.setCell ⟨A, 0, none⟩ (.int .i64 a1)).setCell ⟨A, 1, none⟩ (.int .i64 a2)).setCell ⟨A, 2, none⟩ (.string s)).setCell ⟨A, 3, none⟩ (.int .i64 rf)).setCell ⟨A, 4, none⟩ (.int .i64 rt)).setCell ⟨A, 5, none⟩ (.bool rl)).setCell ⟨A, 6, none⟩ (.bool rd)) (some A) := ((((((grown_set V3 A 0 _).trans (grown_set _ A 1 _)).trans (grown_set _ A 2 _)).trans (grown_set _ A 3 _)).trans (grown_set _ A 4 _)).trans (grown_set _ A 5 _)).trans (grown_set _ A 6 _)
        generalize (((((((V3.setCell ⟨A, 0, none⟩ (.int .i64 a1)).setCell ⟨A, 1, none⟩ (.int .i64 a2)).setCell ⟨A, 2, none⟩ (.string s)).setCell ⟨A, 3, none⟩ (.int .i64 rf)).setCell ⟨A, 4, none⟩ (.int .i64 rt)).setCell ⟨A, 5, none⟩ (.bool rl)).setCell ⟨A, 6, none⟩ (.bool rd)) = V4 at *
        have SV4 := Hid.mk' (SV3.out.grown hgr SV3.out.size (fun g hg => by injection hg with hg; have := GA.out; omega))
        have KB' := Hid.mk' (KB.out.off2 hgr (fun e => by injection e with e; have := DAB.out; omega))
        clear KB
        have KB := KB'
        clear KB'
        have KC' := Hid.mk' (KC.out.off2 hgr (fun e => by injection e with e; have := DCA.out; omega))
        clear KC
        have KC := KC'
        clear KC'
        clear KA
        have KA := Hid.mk' hbk
        clear hbk hgr c0 f0 c1 f1 c2 f2 c3 f3 c4 f4 c5 f5 c6 f6
        refine hK _ _ ⟨SV4.out, ?_⟩
        clear hK K
        try simp only [Act.put, List.getElem_toArray, List.getElem_cons_zero, List.getElem_cons_succ, List.setIfInBounds_toArray, List.set_cons_zero, List.set_cons_succ]
        refine wpAnyH_all (rs := [10]) (by kernel_rfl) (by simp) (AllH.cons rfl (fun K hK => ?_) AllH.nil)
        have e9 := KB.out
        have c0 : V4.cell? ⟨B, 0, none⟩ = some _ := KB.out.cell rfl
        have f0 := KB.out.frozen 0
        have c1 : V4.cell? ⟨B, 1, none⟩ = some _ := KB.out.cell rfl
        have f1 := KB.out.frozen 1
        have c2 : V4.cell? ⟨B, 2, none⟩ = some _ := KB.out.cell rfl
        have f2 := KB.out.frozen 2
        have c3 : V4.cell? ⟨B, 3, none⟩ = some _ := KB.out.cell rfl
        have f3 := KB.out.frozen 3
        have c4 : V4.cell? ⟨B, 4, none⟩ = some _ := KB.out.cell rfl
        have f4 := KB.out.frozen 4
        have c5 : V4.cell? ⟨B, 5, none⟩ = some _ := KB.out.cell rfl
        have f5 := KB.out.frozen 5
        clear e9
        go_simp
        have hbk : Blk ((((((V4.setCell ⟨B, 0, none⟩ (.int .i64 b1)).setCell ⟨B, 1, none⟩ (.int .i64 b2)).setCell ⟨B, 2, none⟩ (.bool set)).setCell ⟨B, 3, none⟩ (.bool lin)).setCell ⟨B, 4, none⟩ (.slice xo xn xc)).setCell ⟨B, 5, none⟩ (.bool ah)) B 48 (laiC b1 b2 set lin (.slice xo xn xc) ah) := by
          have := ((((((KB.out.set (j := 0) (.int .i64 b1)).set (j := 1) (.int .i64 b2)).set (j := 2) (.bool set)).set (j := 3) (.bool lin)).set (j := 4) (.slice xo xn xc)).set (j := 5) (.bool ah))
          simpa [askC, laiC, smC] using this
        have hgr : V4.grownBy ((((((V4.setCell ⟨B, 0, none⟩ (.int .i64 b1)).setCell ⟨B, 1, none⟩ (.int .i64 b2)).setCell ⟨B, 2, none⟩ (.bool set)).setCell ⟨B, 3, none⟩ (.bool lin)).setCell ⟨B, 4, none⟩ (.slice xo xn xc)).setCell ⟨B, 5, none⟩ (.bool ah)) (some B) := (((((grown_set V4 B 0 _).trans (grown_set _ B 1 _)).trans (grown_set _ B 2 _)).trans (grown_set _ B 3 _)).trans (grown_set _ B 4 _)).trans (grown_set _ B 5 _)
        generalize ((((((V4.setCell ⟨B, 0, none⟩ (.int .i64 b1)).setCell ⟨B, 1, none⟩ (.int .i64 b2)).setCell ⟨B, 2, none⟩ (.bool set)).setCell ⟨B, 3, none⟩ (.bool lin)).setCell ⟨B, 4, none⟩ (.slice xo xn xc)).setCell ⟨B, 5, none⟩ (.bool ah)) = V5 at *
        have SV5 := Hid.mk' (SV4.out.grown hgr SV4.out.size (fun g hg => by injection hg with hg; have := GB.out; omega))
        have KA' := Hid.mk' (KA.out.off2 hgr (fun e => by injection e with e; have := DAB.out; omega))
        clear KA
        have KA := KA'
        clear KA'
        have KC' := Hid.mk' (KC.out.off2 hgr (fun e => by injection e with e; have := DCB.out; omega))
        clear KC
        have KC := KC'
        clear KC'
        clear KB
        have KB := Hid.mk' hbk
        clear hbk hgr c0 f0 c1 f1 c2 f2 c3 f3 c4 f4 c5 f5
        refine hK _ _ ⟨SV5.out, ?_⟩
        clear hK K
        try simp only [Act.put, List.getElem_toArray, List.getElem_cons_zero, List.getElem_cons_succ, List.setIfInBounds_toArray, List.set_cons_zero, List.set_cons_succ]
        refine wpAnyH_all (rs := [11]) (by kernel_rfl) (by simp) (AllH.cons rfl (fun K hK => ?_) AllH.nil)
        have e9 := KC.out
        have c0 : V5.cell? ⟨C, 0, none⟩ = some _ := KC.out.cell rfl
        have f0 := KC.out.frozen 0
        have c1 : V5.cell? ⟨C, 1, none⟩ = some _ := KC.out.cell rfl
        have f1 := KC.out.frozen 1
        have c2 : V5.cell? ⟨C, 2, none⟩ = some _ := KC.out.cell rfl
        have f2 := KC.out.frozen 2
        have c3 : V5.cell? ⟨C, 3, none⟩ = some _ := KC.out.cell rfl
        have f3 := KC.out.frozen 3
        have c4 : V5.cell? ⟨C, 4, none⟩ = some _ := KC.out.cell rfl
        have f4 := KC.out.frozen 4
        clear e9
        go_simp
        have hbk : Blk (((((V5.setCell ⟨C, 0, none⟩ (.int .i64 kind)).setCell ⟨C, 1, none⟩ (.int .i64 m1)).setCell ⟨C, 2, none⟩ (.int .i64 m2)).setCell ⟨C, 3, none⟩ (.int .u8 (bb.toNat : Int))).setCell ⟨C, 4, none⟩ (.string key)) C 54 (smC kind m1 m2 bb key) := by
          have := (((((KC.out.set (j := 0) (.int .i64 kind)).set (j := 1) (.int .i64 m1)).set (j := 2) (.int .i64 m2)).set (j := 3) (.int .u8 (bb.toNat : Int))).set (j := 4) (.string key))
          simpa [askC, laiC, smC] using this
        have hgr : V5.grownBy (((((V5.setCell ⟨C, 0, none⟩ (.int .i64 kind)).setCell ⟨C, 1, none⟩ (.int .i64 m1)).setCell ⟨C, 2, none⟩ (.int .i64 m2)).setCell ⟨C, 3, none⟩ (.int .u8 (bb.toNat : Int))).setCell ⟨C, 4, none⟩ (.string key)) (some C) := ((((grown_set V5 C 0 _).trans (grown_set _ C 1 _)).trans (grown_set _ C 2 _)).trans (grown_set _ C 3 _)).trans (grown_set _ C 4 _)
        generalize (((((V5.setCell ⟨C, 0, none⟩ (.int .i64 kind)).setCell ⟨C, 1, none⟩ (.int .i64 m1)).setCell ⟨C, 2, none⟩ (.int .i64 m2)).setCell ⟨C, 3, none⟩ (.int .u8 (bb.toNat : Int))).setCell ⟨C, 4, none⟩ (.string key)) = V6 at *
        have SV6 := Hid.mk' (SV5.out.grown hgr SV5.out.size (fun g hg => by injection hg with hg; have := GC.out; omega))
        have KA' := Hid.mk' (KA.out.off2 hgr (fun e => by injection e with e; have := DCA.out; omega))
        clear KA
        have KA := KA'
        clear KA'
        have KB' := Hid.mk' (KB.out.off2 hgr (fun e => by injection e with e; have := DCB.out; omega))
        clear KB
        have KB := KB'
        clear KB'
        clear KC
        have KC := Hid.mk' hbk
        clear hbk hgr c0 f0 c1 f1 c2 f2 c3 f3 c4 f4
        refine hK _ _ ⟨SV6.out, ?_⟩
        clear hK K
        try simp only [Act.put, List.getElem_toArray, List.getElem_cons_zero, List.getElem_cons_succ, List.setIfInBounds_toArray, List.set_cons_zero, List.set_cons_succ]
        refine wpAnyH_done (by kernel_rfl) ?_ _
        go_wp2_with fail
        go_meet
        exact ⟨A, B, C, rfl, rfl, rfl, KA.out, KB.out, KC.out, SV6.out⟩
      · skip
        go_simp
        obtain ⟨B, hB⟩ : ∃ q, V1.heap.size = q := ⟨_, rfl⟩
        have hbx : Below V1.heap.size V1 (V1.alloc (.cells #[.int .i64 0, .int .i64 0, .bool false, .bool false, .slice none 0 0, .bool false] 48)) := bAlloc (Below.refl _ _) _
        have KB : Hid (Blk (V1.alloc (.cells #[.int .i64 0, .int .i64 0, .bool false, .bool false, .slice none 0 0, .bool false] 48)) B 48 #[.int .i64 0, .int .i64 0, .bool false, .bool false, .slice none 0 0, .bool false]) := by unfold Hid; rw [← hB]; exact Blk.new V1 48 _
        rw [hB]
        have GB : Hid (w1.heap.size ≤ B) := by unfold Hid; rw [← hB]; exact SV1.out.size
        have DCB : Hid (C < B) := by unfold Hid; rw [← hB]; exact KC.out.lt
        generalize V1.alloc (.cells #[.int .i64 0, .int .i64 0, .bool false, .bool false, .slice none 0 0, .bool false] 48) = V2 at *
        have SV2 := Hid.mk' (bT SV1.out hbx)
        have KC' := Hid.mk' (KC.out.keep hbx)
        clear KC
        have KC := KC'
        clear KC'
        clear hbx hB
        refine hK _ _ ⟨SV2.out, ?_⟩
        clear hK K
        try simp only [Act.put, List.getElem_toArray, List.getElem_cons_zero, List.getElem_cons_succ, List.setIfInBounds_toArray, List.set_cons_zero, List.set_cons_succ]
        refine wpAnyH_all (rs := [6]) (by kernel_rfl) (by simp) (AllH.cons rfl (fun K hK => ?_) AllH.nil)
        go_simp
        obtain ⟨A, hA⟩ : ∃ q, V2.heap.size = q := ⟨_, rfl⟩
        have hbx : Below V2.heap.size V2 (V2.alloc (.cells #[.int .i64 0, .int .i64 0, .string ⟨#[]⟩, .int .i64 0, .int .i64 0, .bool false, .bool false] 30)) := bAlloc (Below.refl _ _) _
        have KA : Hid (Blk (V2.alloc (.cells #[.int .i64 0, .int .i64 0, .string ⟨#[]⟩, .int .i64 0, .int .i64 0, .bool false, .bool false] 30)) A 30 #[.int .i64 0, .int .i64 0, .string ⟨#[]⟩, .int .i64 0, .int .i64 0, .bool false, .bool false]) := by unfold Hid; rw [← hA]; exact Blk.new V2 30 _
        rw [hA]
        have GA : Hid (w1.heap.size ≤ A) := by unfold Hid; rw [← hA]; exact SV2.out.size
        have DCA : Hid (C < A) := by unfold Hid; rw [← hA]; exact KC.out.lt
        have DBA : Hid (B < A) := by unfold Hid; rw [← hA]; exact KB.out.lt
        generalize V2.alloc (.cells #[.int .i64 0, .int .i64 0, .string ⟨#[]⟩, .int .i64 0, .int .i64 0, .bool false, .bool false] 30) = V3 at *
        have SV3 := Hid.mk' (bT SV2.out hbx)
        have KC' := Hid.mk' (KC.out.keep hbx)
        clear KC
        have KC := KC'
        clear KC'
        have KB' := Hid.mk' (KB.out.keep hbx)
        clear KB
        have KB := KB'
        clear KB'
        clear hbx hA
        refine hK _ _ ⟨SV3.out, ?_⟩
        clear hK K
        try simp only [Act.put, List.getElem_toArray, List.getElem_cons_zero, List.getElem_cons_succ, List.setIfInBounds_toArray, List.set_cons_zero, List.set_cons_succ]
        refine wpAnyH_all (rs := [9]) (by kernel_rfl) (by simp) (AllH.cons rfl (fun K hK => ?_) AllH.nil)
        have e9 := KA.out
        have c0 : V3.cell? ⟨A, 0, none⟩ = some _ := KA.out.cell rfl
        have f0 := KA.out.frozen 0
        have c1 : V3.cell? ⟨A, 1, none⟩ = some _ := KA.out.cell rfl
        have f1 := KA.out.frozen 1
        have c2 : V3.cell? ⟨A, 2, none⟩ = some _ := KA.out.cell rfl
        have f2 := KA.out.frozen 2
        have c3 : V3.cell? ⟨A, 3, none⟩ = some _ := KA.out.cell rfl
        have f3 := KA.out.frozen 3
        have c4 : V3.cell? ⟨A, 4, none⟩ = some _ := KA.out.cell rfl
        have f4 := KA.out.frozen 4
        have c5 : V3.cell? ⟨A, 5, none⟩ = some _ := KA.out.cell rfl
        have f5 := KA.out.frozen 5
        have c6 : V3.cell? ⟨A, 6, none⟩ = some _ := KA.out.cell rfl
        have f6 := KA.out.frozen 6
        clear e9
        go_simp
        have hbk : Blk (((((((V3.setCell ⟨A, 0, none⟩ (.int .i64 a1)).setCell ⟨A, 1, none⟩ (.int .i64 a2)).setCell ⟨A, 2, none⟩ (.string s)).setCell ⟨A, 3, none⟩ (.int .i64 rf)).setCell ⟨A, 4, none⟩ (.int .i64 rt)).setCell ⟨A, 5, none⟩ (.bool rl)).setCell ⟨A, 6, none⟩ (.bool rd)) A 30 (askC a1 a2 s rf rt rl rd) := by
          have := (((((((KA.out.set (j := 0) (.int .i64 a1)).set (j := 1) (.int .i64 a2)).set (j := 2) (.string s)).set (j := 3) (.int .i64 rf)).set (j := 4) (.int .i64 rt)).set (j := 5) (.bool rl)).set (j := 6) (.bool rd))
          simpa [askC, laiC, smC] using this
        have hgr : V3.grownBy (((((((V3.setCell ⟨A, 0, none⟩ (.int .i64 a1)).setCell ⟨A, 1, none⟩ (.int .i64 a2)).setCell ⟨A, 2, none⟩ (.string s)).setCell ⟨A, 3, none⟩ (.int .i64 rf)).setCell ⟨A, 4, none⟩ (.int .i64 rt)).setCell ⟨A, 5, none⟩ (.bool rl)).setCell ⟨A, 6, none⟩ (.bool rd)) (some A) := ((((((grown_set V3 A 0 _).trans (grown_set _ A 1 _)).trans (grown_set _ A 2 _)).trans (grown_set _ A 3 _)).trans (grown_set _ A 4 _)).trans (grown_set _ A 5 _)).trans (grown_set _ A 6 _)
        generalize (((((((V3.setCell ⟨A, 0, none⟩ (.int .i64 a1)).setCell ⟨A, 1, none⟩ (.int .i64 a2)).setCell ⟨A, 2, none⟩ (.string s)).setCell ⟨A, 3, none⟩ (.int .i64 rf)).setCell ⟨A, 4, none⟩ (.int .i64 rt)).setCell ⟨A, 5, none⟩ (.bool rl)).setCell ⟨A, 6, none⟩ (.bool rd)) = V4 at *
        have SV4 := Hid.mk' (SV3.out.grown hgr SV3.out.size (fun g hg => by injection hg with hg; have := GA.out; omega))
        have KB' := Hid.mk' (KB.out.off2 hgr (fun e => by injection e with e; have := DBA.out; omega))
        clear KB
        have KB := KB'
        clear KB'
        have KC' := Hid.mk' (KC.out.off2 hgr (fun e => by injection e with e; have := DCA.out; omega))
        clear KC
        have KC := KC'
        clear KC'
        clear KA
        have KA := Hid.mk' hbk
        clear hbk hgr c0 f0 c1 f1 c2 f2 c3 f3 c4 f4 c5 f5 c6 f6
        refine hK _ _ ⟨SV4.out, ?_⟩
        clear hK K
        try simp only [Act.put, List.getElem_toArray, List.getElem_cons_zero, List.getElem_cons_succ, List.setIfInBounds_toArray, List.set_cons_zero, List.set_cons_succ]
        refine wpAnyH_all (rs := [10]) (by kernel_rfl) (by simp) (AllH.cons rfl (fun K hK => ?_) AllH.nil)
        have e9 := KB.out
        have c0 : V4.cell? ⟨B, 0, none⟩ = some _ := KB.out.cell rfl
        have f0 := KB.out.frozen 0
        have c1 : V4.cell? ⟨B, 1, none⟩ = some _ := KB.out.cell rfl
        have f1 := KB.out.frozen 1
        have c2 : V4.cell? ⟨B, 2, none⟩ = some _ := KB.out.cell rfl
        have f2 := KB.out.frozen 2
        have c3 : V4.cell? ⟨B, 3, none⟩ = some _ := KB.out.cell rfl
        have f3 := KB.out.frozen 3
        have c4 : V4.cell? ⟨B, 4, none⟩ = some _ := KB.out.cell rfl
        have f4 := KB.out.frozen 4
        have c5 : V4.cell? ⟨B, 5, none⟩ = some _ := KB.out.cell rfl
        have f5 := KB.out.frozen 5
        clear e9
        go_simp
        have hbk : Blk ((((((V4.setCell ⟨B, 0, none⟩ (.int .i64 b1)).setCell ⟨B, 1, none⟩ (.int .i64 b2)).setCell ⟨B, 2, none⟩ (.bool set)).setCell ⟨B, 3, none⟩ (.bool lin)).setCell ⟨B, 4, none⟩ (.slice xo xn xc)).setCell ⟨B, 5, none⟩ (.bool ah)) B 48 (laiC b1 b2 set lin (.slice xo xn xc) ah) := by
          have := ((((((KB.out.set (j := 0) (.int .i64 b1)).set (j := 1) (.int .i64 b2)).set (j := 2) (.bool set)).set (j := 3) (.bool lin)).set (j := 4) (.slice xo xn xc)).set (j := 5) (.bool ah))
          simpa [askC, laiC, smC] using this
        have hgr : V4.grownBy ((((((V4.setCell ⟨B, 0, none⟩ (.int .i64 b1)).setCell ⟨B, 1, none⟩ (.int .i64 b2)).setCell ⟨B, 2, none⟩ (.bool set)).setCell ⟨B, 3, none⟩ (.bool lin)).setCell ⟨B, 4, none⟩ (.slice xo xn xc)).setCell ⟨B, 5, none⟩ (.bool ah)) (some B) := (((((grown_set V4 B 0 _).trans (grown_set _ B 1 _)).trans (grown_set _ B 2 _)).trans (grown_set _ B 3 _)).trans (grown_set _ B 4 _)).trans (grown_set _ B 5 _)
        generalize ((((((V4.setCell ⟨B, 0, none⟩ (.int .i64 b1)).setCell ⟨B, 1, none⟩ (.int .i64 b2)).setCell ⟨B, 2, none⟩ (.bool set)).setCell ⟨B, 3, none⟩ (.bool lin)).setCell ⟨B, 4, none⟩ (.slice xo xn xc)).setCell ⟨B, 5, none⟩ (.bool ah)) = V5 at *
        have SV5 := Hid.mk' (SV4.out.grown hgr SV4.out.size (fun g hg => by injection hg with hg; have := GB.out; omega))
        have KA' := Hid.mk' (KA.out.off2 hgr (fun e => by injection e with e; have := DBA.out; omega))
        clear KA
        have KA := KA'
        clear KA'
        have KC' := Hid.mk' (KC.out.off2 hgr (fun e => by injection e with e; have := DCB.out; omega))
        clear KC
        have KC := KC'
        clear KC'
        clear KB
        have KB := Hid.mk' hbk
        clear hbk hgr c0 f0 c1 f1 c2 f2 c3 f3 c4 f4 c5 f5
        refine hK _ _ ⟨SV5.out, ?_⟩
        clear hK K
        try simp only [Act.put, List.getElem_toArray, List.getElem_cons_zero, List.getElem_cons_succ, List.setIfInBounds_toArray, List.set_cons_zero, List.set_cons_succ]
        refine wpAnyH_all (rs := [11]) (by kernel_rfl) (by simp) (AllH.cons rfl (fun K hK => ?_) AllH.nil)
        have e9 := KC.out
        have c0 : V5.cell? ⟨C, 0, none⟩ = some _ := KC.out.cell rfl
        have f0 := KC.out.frozen 0
        have c1 : V5.cell? ⟨C, 1, none⟩ = some _ := KC.out.cell rfl
        have f1 := KC.out.frozen 1
        have c2 : V5.cell? ⟨C, 2, none⟩ = some _ := KC.out.cell rfl
        have f2 := KC.out.frozen 2
        have c3 : V5.cell? ⟨C, 3, none⟩ = some _ := KC.out.cell rfl
        have f3 := KC.out.frozen 3
        have c4 : V5.cell? ⟨C, 4, none⟩ = some _ := KC.out.cell rfl
        have f4 := KC.out.frozen 4
        clear e9
        go_simp
        have hbk : Blk (((((V5.setCell ⟨C, 0, none⟩ (.int .i64 kind)).setCell ⟨C, 1, none⟩ (.int .i64 m1)).setCell ⟨C, 2, none⟩ (.int .i64 m2)).setCell ⟨C, 3, none⟩ (.int .u8 (bb.toNat : Int))).setCell ⟨C, 4, none⟩ (.string key)) C 54 (smC kind m1 m2 bb key) := by
          have := (((((KC.out.set (j := 0) (.int .i64 kind)).set (j := 1) (.int .i64 m1)).set (j := 2) (.int .i64 m2)).set (j := 3) (.int .u8 (bb.toNat : Int))).set (j := 4) (.string key))
          simpa [askC, laiC, smC] using this
        have hgr : V5.grownBy (((((V5.setCell ⟨C, 0, none⟩ (.int .i64 kind)).setCell ⟨C, 1, none⟩ (.int .i64 m1)).setCell ⟨C, 2, none⟩ (.int .i64 m2)).setCell ⟨C, 3, none⟩ (.int .u8 (bb.toNat : Int))).setCell ⟨C, 4, none⟩ (.string key)) (some C) := ((((grown_set V5 C 0 _).trans (grown_set _ C 1 _)).trans (grown_set _ C 2 _)).trans (grown_set _ C 3 _)).trans (grown_set _ C 4 _)
        generalize (((((V5.setCell ⟨C, 0, none⟩ (.int .i64 kind)).setCell ⟨C, 1, none⟩ (.int .i64 m1)).setCell ⟨C, 2, none⟩ (.int .i64 m2)).setCell ⟨C, 3, none⟩ (.int .u8 (bb.toNat : Int))).setCell ⟨C, 4, none⟩ (.string key)) = V6 at *
        have SV6 := Hid.mk' (SV5.out.grown hgr SV5.out.size (fun g hg => by injection hg with hg; have := GC.out; omega))
        have KA' := Hid.mk' (KA.out.off2 hgr (fun e => by injection e with e; have := DCA.out; omega))
        clear KA
        have KA := KA'
        clear KA'
        have KB' := Hid.mk' (KB.out.off2 hgr (fun e => by injection e with e; have := DCB.out; omega))
        clear KB
        have KB := KB'
        clear KB'
        clear KC
        have KC := Hid.mk' hbk
        clear hbk hgr c0 f0 c1 f1 c2 f2 c3 f3 c4 f4
        refine hK _ _ ⟨SV6.out, ?_⟩
        clear hK K
        try simp only [Act.put, List.getElem_toArray, List.getElem_cons_zero, List.getElem_cons_succ, List.setIfInBounds_toArray, List.set_cons_zero, List.set_cons_succ]
        refine wpAnyH_done (by kernel_rfl) ?_ _
        go_wp2_with fail
        go_meet
        exact ⟨A, B, C, rfl, rfl, rfl, KA.out, KB.out, KC.out, SV6.out⟩
  case rest =>
    obtain ⟨A, B, C, rfl, rfl, rfl, KA, KB, KS, hb9⟩ := hcut
    clear KC
    have TT_ := Hid.mk' (TT.out.keep hb9.out)
    clear TT
    have TT := TT_
    clear TT_
    have XX_ := Hid.mk' (XX.out.keep hb9.out)
    clear XX
    have XX := XX_
    clear XX_
    have BB_ := Hid.mk' (bT BB.out hb9.out)
    clear BB
    have BB := BB_
    clear BB_
    clear hb9
    go_upto_region 4 with fail
    by_cases hbig : (4096 : Int) < (n : Int)
    · go_wp2
      go_ret
      exact ⟨rfl, BB.out⟩
    have hn : n ≤ 4096 := by omega
    have hl : l.length ≤ 65536 := by omega
    go_upto_region 6 with fail
    obtain ⟨c0, c1, c2, c3, c4, c5, c6⟩ := askC_cells KA.out
    have C0 := do_any ao n c l a1 s rf rt rl rd a2 wc TT.out (by omega)
    have hfx := do_fit hl a1 s rf rt rl rd a2
    have htx := do_txt l a1 s rf rt rl rd a2
    obtain ⟨⟨⟨esx, curx, setx, linx, txtx, howx, typx⟩, zx⟩, hx⟩ : ∃ x, doX l a1 s rf rt rl rd a2 = x := ⟨_, rfl⟩
    rw [hx] at C0 hfx htx
    dsimp only at C0 htx
    have HFx := Hid.mk' hfx
    have CD := Hid.mk' C0
    clear C0 hx hfx
    go_wp2_with fail
    refine CD.out.mono ?_
    rintro e w3 ⟨v, Fx, tv, rfl, hF, hM, hb⟩
    clear CD c0 c1 c2 c3 c4 c5 c6
    have hE : Efr w3 v tv Fx ⟨esx, curx, setx, linx, txtx, howx, typx⟩ := hM.efr hF (by show txtx.length ≤ _; omega)
    have TT_ := Hid.mk' (TT.out.keep hb)
    clear TT
    have TT := TT_
    clear TT_
    have XX_ := Hid.mk' (XX.out.keep hb)
    clear XX
    have XX := XX_
    clear XX_
    have BB_ := Hid.mk' (bT BB.out hb)
    clear BB
    have BB := BB_
    clear BB_
    have KA_ := Hid.mk' (KA.out.keep hb)
    clear KA
    have KA := KA_
    clear KA_
    have KB_ := Hid.mk' (KB.out.keep hb)
    clear KB
    have KB := KB_
    clear KB_
    have KS_ := Hid.mk' (KS.out.keep hb)
    clear KS
    have KS := KS_
    clear KS_
    clear hb hF
    have Ex := Hid.mk' hE
    clear hE hM
    obtain ⟨eox, ecx, rfl, -⟩ := Ex.out.es
    obtain ⟨tox, tcx, rfl, -⟩ := Ex.out.tx
    unfold efV
    dsimp only
    obtain ⟨fnx, hfn⟩ : ∃ fn, Fx.length = fn := ⟨_, rfl⟩
    obtain ⟨tnx, htn⟩ : ∃ tn, txtx.length = tn := ⟨_, rfl⟩
    rw [hfn] at Ex ⊢
    rw [htn] at ⊢
    dsimp only at Ex
    skip
    have HNx := Hid.mk' htn
    clear hfn htn
    go_upto_region 7 with fail
    obtain ⟨qx, hqx⟩ : ∃ q, w3.heap.size = q := ⟨_, rfl⟩
    have hbx : Below w3.heap.size w3 (w3.alloc (.cells #[.slice eox fnx ecx, .int .i64 curx, .bool setx, .bool linx, .slice tox tnx tcx, .int .i64 howx, .bool typx] 35)) := bAlloc (Below.refl _ _) _
    have Kx : Hid (Blk (w3.alloc (.cells #[.slice eox fnx ecx, .int .i64 curx, .bool setx, .bool linx, .slice tox tnx tcx, .int .i64 howx, .bool typx] 35)) qx 35 #[.slice eox fnx ecx, .int .i64 curx, .bool setx, .bool linx, .slice tox tnx tcx, .int .i64 howx, .bool typx]) := by unfold Hid; rw [← hqx]; exact Blk.new w3 35 _
    rw [hqx]
    generalize w3.alloc (.cells #[.slice eox fnx ecx, .int .i64 curx, .bool setx, .bool linx, .slice tox tnx tcx, .int .i64 howx, .bool typx] 35) = w4 at *
    clear hqx
    have TT_ := Hid.mk' (TT.out.keep hbx)
    clear TT
    have TT := TT_
    clear TT_
    have XX_ := Hid.mk' (XX.out.keep hbx)
    clear XX
    have XX := XX_
    clear XX_
    have BB_ := Hid.mk' (bT BB.out hbx)
    clear BB
    have BB := BB_
    clear BB_
    have KA_ := Hid.mk' (KA.out.keep hbx)
    clear KA
    have KA := KA_
    clear KA_
    have KB_ := Hid.mk' (KB.out.keep hbx)
    clear KB
    have KB := KB_
    clear KB_
    have KS_ := Hid.mk' (KS.out.keep hbx)
    clear KS
    have KS := KS_
    clear KS_
    have Ex_ := Hid.mk' (Ex.out.keep hbx)
    clear Ex
    have Ex := Ex_
    clear Ex_
    clear hbx
    obtain ⟨c0, c1, c2, c3, c4, c5⟩ := laiC_cells KB.out
    have C0 := put_any ao n c l b1 b2 set lin xo xn xc X ah w4 TT.out XX.out (by omega) hxn
    have hfy := put_fit (l := l) b1 b2 set lin X ah
    have hty := (show (ptX l b1 b2 set lin X ah).1.txt.length = 0 by rw [put_txt]; rfl)
    obtain ⟨⟨⟨esy, cury, sety, liny, txty, howy, typy⟩, zy⟩, hx⟩ : ∃ x, ptX l b1 b2 set lin X ah = x := ⟨_, rfl⟩
    rw [hx] at C0 hfy hty
    dsimp only at C0 hty
    have HFy := Hid.mk' hfy
    have CD := Hid.mk' C0
    clear C0 hx hfy
    go_wp2_with fail
    refine CD.out.mono ?_
    rintro e w5 ⟨v, Fy, tv, rfl, hF, hM, hb⟩
    clear CD c0 c1 c2 c3 c4 c5
    have hE : Efr w5 v tv Fy ⟨esy, cury, sety, liny, txty, howy, typy⟩ := hM.efr hF (by show txty.length ≤ _; omega)
    have TT_ := Hid.mk' (TT.out.keep hb)
    clear TT
    have TT := TT_
    clear TT_
    have XX_ := Hid.mk' (XX.out.keep hb)
    clear XX
    have XX := XX_
    clear XX_
    have BB_ := Hid.mk' (bT BB.out hb)
    clear BB
    have BB := BB_
    clear BB_
    have KA_ := Hid.mk' (KA.out.keep hb)
    clear KA
    have KA := KA_
    clear KA_
    have KB_ := Hid.mk' (KB.out.keep hb)
    clear KB
    have KB := KB_
    clear KB_
    have KS_ := Hid.mk' (KS.out.keep hb)
    clear KS
    have KS := KS_
    clear KS_
    have Ex_ := Hid.mk' (Ex.out.keep hb)
    clear Ex
    have Ex := Ex_
    clear Ex_
    have Kx_ := Hid.mk' (Kx.out.keep hb)
    clear Kx
    have Kx := Kx_
    clear Kx_
    clear hb hF
    have Ey := Hid.mk' hE
    clear hE hM
    obtain ⟨eoy, ecy, rfl, -⟩ := Ey.out.es
    obtain ⟨toy, tcy, rfl, -⟩ := Ey.out.tx
    unfold efV
    dsimp only
    obtain ⟨fny, hfn⟩ : ∃ fn, Fy.length = fn := ⟨_, rfl⟩
    obtain ⟨tny, htn⟩ : ∃ tn, txty.length = tn := ⟨_, rfl⟩
    rw [hfn] at Ey ⊢
    rw [htn] at ⊢
    dsimp only at Ey
    skip
    have HNy := Hid.mk' htn
    clear hfn htn
    go_upto_region 8 with fail
    obtain ⟨qy, hqy⟩ : ∃ q, w5.heap.size = q := ⟨_, rfl⟩
    have hbx : Below w5.heap.size w5 (w5.alloc (.cells #[.slice eoy fny ecy, .int .i64 cury, .bool sety, .bool liny, .slice toy tny tcy, .int .i64 howy, .bool typy] 35)) := bAlloc (Below.refl _ _) _
    have Ky : Hid (Blk (w5.alloc (.cells #[.slice eoy fny ecy, .int .i64 cury, .bool sety, .bool liny, .slice toy tny tcy, .int .i64 howy, .bool typy] 35)) qy 35 #[.slice eoy fny ecy, .int .i64 cury, .bool sety, .bool liny, .slice toy tny tcy, .int .i64 howy, .bool typy]) := by unfold Hid; rw [← hqy]; exact Blk.new w5 35 _
    rw [hqy]
    generalize w5.alloc (.cells #[.slice eoy fny ecy, .int .i64 cury, .bool sety, .bool liny, .slice toy tny tcy, .int .i64 howy, .bool typy] 35) = w6 at *
    clear hqy
    have TT_ := Hid.mk' (TT.out.keep hbx)
    clear TT
    have TT := TT_
    clear TT_
    have XX_ := Hid.mk' (XX.out.keep hbx)
    clear XX
    have XX := XX_
    clear XX_
    have BB_ := Hid.mk' (bT BB.out hbx)
    clear BB
    have BB := BB_
    clear BB_
    have KA_ := Hid.mk' (KA.out.keep hbx)
    clear KA
    have KA := KA_
    clear KA_
    have KB_ := Hid.mk' (KB.out.keep hbx)
    clear KB
    have KB := KB_
    clear KB_
    have KS_ := Hid.mk' (KS.out.keep hbx)
    clear KS
    have KS := KS_
    clear KS_
    have Ex_ := Hid.mk' (Ex.out.keep hbx)
    clear Ex
    have Ex := Ex_
    clear Ex_
    have Kx_ := Hid.mk' (Kx.out.keep hbx)
    clear Kx
    have Kx := Kx_
    clear Kx_
    have Ey_ := Hid.mk' (Ey.out.keep hbx)
    clear Ey
    have Ey := Ey_
    clear Ey_
    clear hbx
    obtain ⟨c0, c1, c2, c3, c4⟩ := smC_cells KS.out
    have C0 := small_any ao n c l kind m1 m2 bb key w6 TT.out (by omega)
    have hfz := sm_fit hl kind m1 m2 bb key
    have htz := (show (smX l kind m1 m2 bb key).1.txt.length = 0 by rw [sm_txt]; rfl)
    obtain ⟨⟨⟨esz, curz, setz, linz, txtz, howz, typz⟩, zz⟩, hx⟩ : ∃ x, smX l kind m1 m2 bb key = x := ⟨_, rfl⟩
    rw [hx] at C0 hfz htz
    dsimp only at C0 htz
    have HFz := Hid.mk' hfz
    have CD := Hid.mk' C0
    clear C0 hx hfz
    go_wp2_with fail
    refine CD.out.mono ?_
    rintro e w7 ⟨v, Fz, tv, rfl, hF, hM, hb⟩
    clear CD c0 c1 c2 c3 c4
    have hE : Efr w7 v tv Fz ⟨esz, curz, setz, linz, txtz, howz, typz⟩ := hM.efr hF (by show txtz.length ≤ _; omega)
    have TT_ := Hid.mk' (TT.out.keep hb)
    clear TT
    have TT := TT_
    clear TT_
    have XX_ := Hid.mk' (XX.out.keep hb)
    clear XX
    have XX := XX_
    clear XX_
    have BB_ := Hid.mk' (bT BB.out hb)
    clear BB
    have BB := BB_
    clear BB_
    have KA_ := Hid.mk' (KA.out.keep hb)
    clear KA
    have KA := KA_
    clear KA_
    have KB_ := Hid.mk' (KB.out.keep hb)
    clear KB
    have KB := KB_
    clear KB_
    have KS_ := Hid.mk' (KS.out.keep hb)
    clear KS
    have KS := KS_
    clear KS_
    have Ex_ := Hid.mk' (Ex.out.keep hb)
    clear Ex
    have Ex := Ex_
    clear Ex_
    have Kx_ := Hid.mk' (Kx.out.keep hb)
    clear Kx
    have Kx := Kx_
    clear Kx_
    have Ey_ := Hid.mk' (Ey.out.keep hb)
    clear Ey
    have Ey := Ey_
    clear Ey_
    have Ky_ := Hid.mk' (Ky.out.keep hb)
    clear Ky
    have Ky := Ky_
    clear Ky_
    clear hb hF
    have Ez := Hid.mk' hE
    clear hE hM
    obtain ⟨eoz, ecz, rfl, -⟩ := Ez.out.es
    obtain ⟨toz, tcz, rfl, -⟩ := Ez.out.tx
    unfold efV
    dsimp only
    obtain ⟨fnz, hfn⟩ : ∃ fn, Fz.length = fn := ⟨_, rfl⟩
    obtain ⟨tnz, htn⟩ : ∃ tn, txtz.length = tn := ⟨_, rfl⟩
    rw [hfn] at Ez ⊢
    rw [htn] at ⊢
    dsimp only at Ez
    skip
    have HNz := Hid.mk' htn
    clear hfn htn
    go_upto_region 9 with fail
    obtain ⟨qz, hqz⟩ : ∃ q, w7.heap.size = q := ⟨_, rfl⟩
    have hbx : Below w7.heap.size w7 (w7.alloc (.cells #[.slice eoz fnz ecz, .int .i64 curz, .bool setz, .bool linz, .slice toz tnz tcz, .int .i64 howz, .bool typz] 35)) := bAlloc (Below.refl _ _) _
    have Kz : Hid (Blk (w7.alloc (.cells #[.slice eoz fnz ecz, .int .i64 curz, .bool setz, .bool linz, .slice toz tnz tcz, .int .i64 howz, .bool typz] 35)) qz 35 #[.slice eoz fnz ecz, .int .i64 curz, .bool setz, .bool linz, .slice toz tnz tcz, .int .i64 howz, .bool typz]) := by unfold Hid; rw [← hqz]; exact Blk.new w7 35 _
    rw [hqz]
    generalize w7.alloc (.cells #[.slice eoz fnz ecz, .int .i64 curz, .bool setz, .bool linz, .slice toz tnz tcz, .int .i64 howz, .bool typz] 35) = w8 at *
    clear hqz
    have TT_ := Hid.mk' (TT.out.keep hbx)
    clear TT
    have TT := TT_
    clear TT_
    have XX_ := Hid.mk' (XX.out.keep hbx)
    clear XX
    have XX := XX_
    clear XX_
    have BB_ := Hid.mk' (bT BB.out hbx)
    clear BB
    have BB := BB_
    clear BB_
    have KA_ := Hid.mk' (KA.out.keep hbx)
    clear KA
    have KA := KA_
    clear KA_
    have KB_ := Hid.mk' (KB.out.keep hbx)
    clear KB
    have KB := KB_
    clear KB_
    have KS_ := Hid.mk' (KS.out.keep hbx)
    clear KS
    have KS := KS_
    clear KS_
    have Ex_ := Hid.mk' (Ex.out.keep hbx)
    clear Ex
    have Ex := Ex_
    clear Ex_
    have Kx_ := Hid.mk' (Kx.out.keep hbx)
    clear Kx
    have Kx := Kx_
    clear Kx_
    have Ey_ := Hid.mk' (Ey.out.keep hbx)
    clear Ey
    have Ey := Ey_
    clear Ey_
    have Ky_ := Hid.mk' (Ky.out.keep hbx)
    clear Ky
    have Ky := Ky_
    clear Ky_
    have Ez_ := Hid.mk' (Ez.out.keep hbx)
    clear Ez
    have Ez := Ez_
    clear Ez_
    clear hbx
    have C0 := fits_any w8 ao n c l TT.out (by omega) _ _ Fx ⟨esx, curx, setx, linx, txtx, howx, typx⟩ zx Ex.out HFx.out.fit HFx.out.sum HFx.out.num
    unfold efV at C0
    dsimp only at C0
    rw [HNx.out] at C0
    have CD := Hid.mk' C0
    clear C0
    obtain ⟨x0, x1, x2, x3, x4, x5, x6⟩ := ef_cells Kx.out
    go_wp2_with fail
    refine CD.out.mono ?_
    rintro e w9 ⟨rfl, hb⟩
    clear CD x0 x1 x2 x3 x4 x5 x6
    have TT_ := Hid.mk' (TT.out.keep hb)
    clear TT
    have TT := TT_
    clear TT_
    have XX_ := Hid.mk' (XX.out.keep hb)
    clear XX
    have XX := XX_
    clear XX_
    have BB_ := Hid.mk' (bT BB.out hb)
    clear BB
    have BB := BB_
    clear BB_
    have KA_ := Hid.mk' (KA.out.keep hb)
    clear KA
    have KA := KA_
    clear KA_
    have KB_ := Hid.mk' (KB.out.keep hb)
    clear KB
    have KB := KB_
    clear KB_
    have KS_ := Hid.mk' (KS.out.keep hb)
    clear KS
    have KS := KS_
    clear KS_
    have Ex_ := Hid.mk' (Ex.out.keep hb)
    clear Ex
    have Ex := Ex_
    clear Ex_
    have Kx_ := Hid.mk' (Kx.out.keep hb)
    clear Kx
    have Kx := Kx_
    clear Kx_
    have Ey_ := Hid.mk' (Ey.out.keep hb)
    clear Ey
    have Ey := Ey_
    clear Ey_
    have Ky_ := Hid.mk' (Ky.out.keep hb)
    clear Ky
    have Ky := Ky_
    clear Ky_
    have Ez_ := Hid.mk' (Ez.out.keep hb)
    clear Ez
    have Ez := Ez_
    clear Ez_
    have Kz_ := Hid.mk' (Kz.out.keep hb)
    clear Kz
    have Kz := Kz_
    clear Kz_
    clear hb
    dsimp only
    have C0 := fits_any w9 ao n c l TT.out (by omega) _ _ Fy ⟨esy, cury, sety, liny, txty, howy, typy⟩ zy Ey.out HFy.out.fit HFy.out.sum HFy.out.num
    unfold efV at C0
    dsimp only at C0
    rw [HNy.out] at C0
    have CD := Hid.mk' C0
    clear C0
    obtain ⟨x0, x1, x2, x3, x4, x5, x6⟩ := ef_cells Ky.out
    go_wp2_with fail
    refine CD.out.mono ?_
    rintro e w10 ⟨rfl, hb⟩
    clear CD x0 x1 x2 x3 x4 x5 x6
    have TT_ := Hid.mk' (TT.out.keep hb)
    clear TT
    have TT := TT_
    clear TT_
    have XX_ := Hid.mk' (XX.out.keep hb)
    clear XX
    have XX := XX_
    clear XX_
    have BB_ := Hid.mk' (bT BB.out hb)
    clear BB
    have BB := BB_
    clear BB_
    have KA_ := Hid.mk' (KA.out.keep hb)
    clear KA
    have KA := KA_
    clear KA_
    have KB_ := Hid.mk' (KB.out.keep hb)
    clear KB
    have KB := KB_
    clear KB_
    have KS_ := Hid.mk' (KS.out.keep hb)
    clear KS
    have KS := KS_
    clear KS_
    have Ex_ := Hid.mk' (Ex.out.keep hb)
    clear Ex
    have Ex := Ex_
    clear Ex_
    have Kx_ := Hid.mk' (Kx.out.keep hb)
    clear Kx
    have Kx := Kx_
    clear Kx_
    have Ey_ := Hid.mk' (Ey.out.keep hb)
    clear Ey
    have Ey := Ey_
    clear Ey_
    have Ky_ := Hid.mk' (Ky.out.keep hb)
    clear Ky
    have Ky := Ky_
    clear Ky_
    have Ez_ := Hid.mk' (Ez.out.keep hb)
    clear Ez
    have Ez := Ez_
    clear Ez_
    have Kz_ := Hid.mk' (Kz.out.keep hb)
    clear Kz
    have Kz := Kz_
    clear Kz_
    clear hb
    dsimp only
    have C0 := fits_any w10 ao n c l TT.out (by omega) _ _ Fz ⟨esz, curz, setz, linz, txtz, howz, typz⟩ zz Ez.out HFz.out.fit HFz.out.sum HFz.out.num
    unfold efV at C0
    dsimp only at C0
    rw [HNz.out] at C0
    have CD := Hid.mk' C0
    clear C0
    obtain ⟨x0, x1, x2, x3, x4, x5, x6⟩ := ef_cells Kz.out
    go_wp2_with fail
    refine CD.out.mono ?_
    rintro e w11 ⟨rfl, hb⟩
    clear CD x0 x1 x2 x3 x4 x5 x6
    have TT_ := Hid.mk' (TT.out.keep hb)
    clear TT
    have TT := TT_
    clear TT_
    have XX_ := Hid.mk' (XX.out.keep hb)
    clear XX
    have XX := XX_
    clear XX_
    have BB_ := Hid.mk' (bT BB.out hb)
    clear BB
    have BB := BB_
    clear BB_
    have KA_ := Hid.mk' (KA.out.keep hb)
    clear KA
    have KA := KA_
    clear KA_
    have KB_ := Hid.mk' (KB.out.keep hb)
    clear KB
    have KB := KB_
    clear KB_
    have KS_ := Hid.mk' (KS.out.keep hb)
    clear KS
    have KS := KS_
    clear KS_
    have Ex_ := Hid.mk' (Ex.out.keep hb)
    clear Ex
    have Ex := Ex_
    clear Ex_
    have Kx_ := Hid.mk' (Kx.out.keep hb)
    clear Kx
    have Kx := Kx_
    clear Kx_
    have Ey_ := Hid.mk' (Ey.out.keep hb)
    clear Ey
    have Ey := Ey_
    clear Ey_
    have Ky_ := Hid.mk' (Ky.out.keep hb)
    clear Ky
    have Ky := Ky_
    clear Ky_
    have Ez_ := Hid.mk' (Ez.out.keep hb)
    clear Ez
    have Ez := Ez_
    clear Ez_
    have Kz_ := Hid.mk' (Kz.out.keep hb)
    clear Kz
    have Kz := Kz_
    clear Kz_
    clear hb
    dsimp only
    go_wp2_with fail
    go_ret
    exact ⟨rfl, BB.out⟩
end Go.Proofs.YtppefcnopkmhbaaGreatDoor
