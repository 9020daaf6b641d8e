/- Ind -/
import Derived.Test.YtppefcnopkmhbaaGreatDoorPt20
namespace Go.Proofs.YtppefcnopkmhbaaGreatDoor
open Go.RowKit

set_option maxRecDepth 8000
theorem EfQ.out {x : Ef} {z : Int} {w W1 w5 w6 : World} {v tv : Value} {F : List Er} {Q : Nat} (hF : F.map Er.d = x.es) (hM : Efm w5 W1.heap.size w5.heap.size v F tv x.txt) (hb : Below w.heap.size w W1) (hb5 : Below W1.heap.size W1 w5) (hg : w5.grownBy w6 (some Q)) (hQ : Q < W1.heap.size) (hw : w.heap.size ≤ Q) :
    EfQ x z w (.returned (.tuple #[efV v tv x, .int .i64 z])) w6 :=
  ⟨v, F, tv, rfl, hF, (hM.grown hg (.inl hQ)).wide hb.size hg.size, (bT hb hb5).grown hg (bT hb hb5).size (fun g hg' => by injection hg' with hg'; omega)⟩
set_option maxHeartbeats 4000000 in
set_option linter.unusedSimpArgs false in
theorem indent_any (ao : Option Addr) (n c k a b q : Nat) (fF tT : Int) (L D : Bool) (l : List UInt8) (w : World) (HT : Hid (Tx w ao n c l)) (hbig : n ≤ 1048576) (hab : a ≤ b) (hbn : b ≤ nl l) (hq : q ≤ 9999) :
    Calls Tryz.prog 71 #[tsk (.slice ao n c) (k : Int) fF tT L D (a : Int) (b : Int) (q : Int)] w fun e w' => EfQ (shX l (shf (hdI q) l (b + 1 - a) a 0) a).1 (shX l (shf (hdI q) l (b + 1 - a) a 0) a).2 w e w' := by
  show Calls Tryz.prog 71 #[.agg #[.slice ao n c, .int .i64 (k : Int), .int .i64 fF, .int .i64 tT, .bool L, .bool D, .int .i64 (a : Int), .int .i64 (b : Int), .int .i64 (q : Int)]] w _
  obtain ⟨W1, hW1⟩ : ∃ x, (w.alloc (.cells #[.slice ao n c, .int .i64 (k : Int), .int .i64 fF, .int .i64 tT, .bool L, .bool D, .int .i64 (a : Int), .int .i64 (b : Int), .int .i64 (q : Int)] 90)).alloc (.cells #[.slice none 0 0, .int .i64 0, .bool false, .bool false, .slice none 0 0, .int .i64 0, .bool false] 35) = x := ⟨_, rfl⟩
  have T1 : Hid (Two w W1 (.slice ao n c) (k : Int) fF tT L D (a : Int) (b : Int) (q : Int)) := by unfold Hid; rw [← hW1]; exact Two.new w _ _ _ _ _ _ _ _ _
  obtain ⟨B, hB⟩ : ∃ b, w.heap.size = b := ⟨_, rfl⟩
  have HB := Hid.mk' hB
  have K1 : Hid (Blk W1 B 90 (tskC (.slice ao n c) (k : Int) fF tT L D (a : Int) (b : Int) (q : Int))) := by unfold Hid; rw [← hB]; exact T1.out.tk
  have J1 : Hid (Blk W1 (B + 1) 35 (ef7 (.slice none 0 0) 0 false false (.slice none 0 0) 0 false)) := by unfold Hid; rw [← hB]; exact T1.out.ef
  have L1 := Hid.mk' T1.out.bel
  have C0 := (shift_in ao n c k a b q B fF tT L D l W1 (HT.out.keep T1.out.bel) hbig hab hbn hq K1).mono fun _ _ h => ShQ.ef h
  generalize shX l (shf (hdI q) l (b + 1 - a) a 0) a = X at *
  obtain ⟨x, z⟩ := X
  dsimp only at C0 ⊢
  have CS := Hid.mk' C0
  obtain ⟨c0, c1, c2, c3, c4, c5, c6, c7, c8⟩ := tsk_cells K1.out
  clear T1 HT C0
  go_enter Tryz.func71, Tryz.ntmps71
  go_upto_region 1 with fail
  clear hW1 hB
  go_wp2_with fail
  refine CS.out.mono ?_
  rintro e w5 ⟨v, F, tv, rfl, hF, hM, hb5⟩
  obtain ⟨es, cur, sset, lin, txt, how, typ⟩ := x
  obtain ⟨eo, ec, rfl, -, -⟩ := hM.eds.edz
  obtain ⟨to', tc, rfl⟩ := hM.tx.shape
  have J5 := Hid.mk' (J1.out.keep hb5)
  obtain ⟨j0, j1, j2, j3, j4, j5, j6⟩ := ef_cells J5.out
  obtain ⟨f0, f1, f2, f3, f4, f5, f6⟩ := ef_frozen J5.out
  have hbk := ef_store J5.out (.slice eo F.length ec) (.int .i64 cur) (.bool sset) (.bool lin) (.slice to' txt.length tc) (.int .i64 how) (.bool typ)
  have hgr := ef_grown w5 (B + 1) (.slice eo F.length ec) (.int .i64 cur) (.bool sset) (.bool lin) (.slice to' txt.length tc) (.int .i64 how) (.bool typ)
  have HF := Hid.mk' hF
  have HM := Hid.mk' hM
  have B5 := Hid.mk' hb5
  clear hF hM hb5 CS K1 c0 c1 c2 c3 c4 c5 c6 c7 c8
  unfold efV
  dsimp only
  go_wp2_with fail
  generalize (((((((w5.setCell ⟨B + 1, 0, none⟩ (.slice eo F.length ec)).setCell ⟨B + 1, 1, none⟩ (.int .i64 cur)).setCell ⟨B + 1, 2, none⟩ (.bool sset)).setCell ⟨B + 1, 3, none⟩ (.bool lin)).setCell ⟨B + 1, 4, none⟩ (.slice to' txt.length tc)).setCell ⟨B + 1, 5, none⟩ (.int .i64 how)).setCell ⟨B + 1, 6, none⟩ (.bool typ)) = w9 at *
  obtain ⟨g0, g1, g2, g3, g4, g5, g6⟩ := ef_cells hbk
  refine bodyPost_ret (v := .tuple #[.agg #[.slice eo F.length ec, .int .i64 cur, .bool sset, .bool lin, .slice to' txt.length tc, .int .i64 how, .bool typ], .int .i64 z]) (by simp [results, Tryz.results71, go_sem, g0, g1, g2, g3, g4, g5, g6]) rfl ?_
  exact EfQ.out HF.out HM.out L1.out B5.out hgr J1.out.lt (by have := HB.out; omega)
set_option maxHeartbeats 4000000 in
set_option linter.unusedSimpArgs false in
theorem outdent_any (ao : Option Addr) (n c k a b q : Nat) (fF tT : Int) (L D : Bool) (l : List UInt8) (w : World) (HT : Hid (Tx w ao n c l)) (hbig : n ≤ 1048576) (hab : a ≤ b) (hbn : b ≤ nl l) (hq : q ≤ 9999) :
    Calls Tryz.prog 72 #[tsk (.slice ao n c) (k : Int) fF tT L D (a : Int) (b : Int) (q : Int)] w fun e w' => EfQ (shX l (shf (hdO q) l (b + 1 - a) a 0) a).1 (shX l (shf (hdO q) l (b + 1 - a) a 0) a).2 w e w' := by
  show Calls Tryz.prog 72 #[.agg #[.slice ao n c, .int .i64 (k : Int), .int .i64 fF, .int .i64 tT, .bool L, .bool D, .int .i64 (a : Int), .int .i64 (b : Int), .int .i64 (q : Int)]] w _
  obtain ⟨W1, hW1⟩ : ∃ x, (w.alloc (.cells #[.slice ao n c, .int .i64 (k : Int), .int .i64 fF, .int .i64 tT, .bool L, .bool D, .int .i64 (a : Int), .int .i64 (b : Int), .int .i64 (q : Int)] 90)).alloc (.cells #[.slice none 0 0, .int .i64 0, .bool false, .bool false, .slice none 0 0, .int .i64 0, .bool false] 35) = x := ⟨_, rfl⟩
  have T1 : Hid (Two w W1 (.slice ao n c) (k : Int) fF tT L D (a : Int) (b : Int) (q : Int)) := by unfold Hid; rw [← hW1]; exact Two.new w _ _ _ _ _ _ _ _ _
  obtain ⟨B, hB⟩ : ∃ b, w.heap.size = b := ⟨_, rfl⟩
  have HB := Hid.mk' hB
  have K1 : Hid (Blk W1 B 90 (tskC (.slice ao n c) (k : Int) fF tT L D (a : Int) (b : Int) (q : Int))) := by unfold Hid; rw [← hB]; exact T1.out.tk
  have J1 : Hid (Blk W1 (B + 1) 35 (ef7 (.slice none 0 0) 0 false false (.slice none 0 0) 0 false)) := by unfold Hid; rw [← hB]; exact T1.out.ef
  have L1 := Hid.mk' T1.out.bel
  have C0 := (shift_out ao n c k a b q B fF tT L D l W1 (HT.out.keep T1.out.bel) hbig hab hbn hq K1).mono fun _ _ h => ShQ.ef h
  generalize shX l (shf (hdO q) l (b + 1 - a) a 0) a = X at *
  obtain ⟨x, z⟩ := X
  dsimp only at C0 ⊢
  have CS := Hid.mk' C0
  obtain ⟨c0, c1, c2, c3, c4, c5, c6, c7, c8⟩ := tsk_cells K1.out
  clear T1 HT C0
  go_enter Tryz.func72, Tryz.ntmps72
  go_upto_region 1 with fail
  clear hW1 hB
  go_wp2_with fail
  refine CS.out.mono ?_
  rintro e w5 ⟨v, F, tv, rfl, hF, hM, hb5⟩
  obtain ⟨es, cur, sset, lin, txt, how, typ⟩ := x
  obtain ⟨eo, ec, rfl, -, -⟩ := hM.eds.edz
  obtain ⟨to', tc, rfl⟩ := hM.tx.shape
  have J5 := Hid.mk' (J1.out.keep hb5)
  obtain ⟨j0, j1, j2, j3, j4, j5, j6⟩ := ef_cells J5.out
  obtain ⟨f0, f1, f2, f3, f4, f5, f6⟩ := ef_frozen J5.out
  have hbk := ef_store J5.out (.slice eo F.length ec) (.int .i64 cur) (.bool sset) (.bool lin) (.slice to' txt.length tc) (.int .i64 how) (.bool typ)
  have hgr := ef_grown w5 (B + 1) (.slice eo F.length ec) (.int .i64 cur) (.bool sset) (.bool lin) (.slice to' txt.length tc) (.int .i64 how) (.bool typ)
  have HF := Hid.mk' hF
  have HM := Hid.mk' hM
  have B5 := Hid.mk' hb5
  clear hF hM hb5 CS K1 c0 c1 c2 c3 c4 c5 c6 c7 c8
  unfold efV
  dsimp only
  go_wp2_with fail
  generalize (((((((w5.setCell ⟨B + 1, 0, none⟩ (.slice eo F.length ec)).setCell ⟨B + 1, 1, none⟩ (.int .i64 cur)).setCell ⟨B + 1, 2, none⟩ (.bool sset)).setCell ⟨B + 1, 3, none⟩ (.bool lin)).setCell ⟨B + 1, 4, none⟩ (.slice to' txt.length tc)).setCell ⟨B + 1, 5, none⟩ (.int .i64 how)).setCell ⟨B + 1, 6, none⟩ (.bool typ)) = w9 at *
  obtain ⟨g0, g1, g2, g3, g4, g5, g6⟩ := ef_cells hbk
  refine bodyPost_ret (v := .tuple #[.agg #[.slice eo F.length ec, .int .i64 cur, .bool sset, .bool lin, .slice to' txt.length tc, .int .i64 how, .bool typ], .int .i64 z]) (by simp [results, Tryz.results72, go_sem, g0, g1, g2, g3, g4, g5, g6]) rfl ?_
  exact EfQ.out HF.out HM.out L1.out B5.out hgr J1.out.lt (by have := HB.out; omega)
end Go.Proofs.YtppefcnopkmhbaaGreatDoor
