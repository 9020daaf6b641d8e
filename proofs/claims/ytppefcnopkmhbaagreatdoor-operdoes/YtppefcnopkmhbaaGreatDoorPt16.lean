/- Rpl -/
import Derived.Test.YtppefcnopkmhbaaGreatDoorPt15
namespace Go.Proofs.YtppefcnopkmhbaaGreatDoor
open Go.RowKit

set_option maxRecDepth 8000
set_option maxHeartbeats 4000000 in
theorem replace_none (ao : Option Addr) (n c k f : Nat) (D : Bool) (a b : Nat) (q : Int) (w : World) :
    Calls Tryz.prog 69 #[tsk (.slice ao n c) (k : Int) (f : Int) (f : Int) false D (a : Int) (b : Int) q] w fun e w' => EfQ ⟨[], (f : Int), false, false, [], 0, true⟩ 0 w e w' := by
  show Calls Tryz.prog 69 #[.agg #[.slice ao n c, .int .i64 (k : Int), .int .i64 (f : Int), .int .i64 (f : Int), .bool false, .bool D, .int .i64 (a : Int), .int .i64 (b : Int), .int .i64 q]] w _
  obtain ⟨W1, hW1⟩ : ∃ x, (w.alloc (.cells #[.slice ao n c, .int .i64 (k : Int), .int .i64 (f : Int), .int .i64 (f : Int), .bool false, .bool D, .int .i64 (a : Int), .int .i64 (b : Int), .int .i64 q] 90)).alloc (.cells #[.slice none 0 0, .int .i64 0, .bool false, .bool false, .slice none 0 0, .int .i64 0, .bool false] 35) = x := ⟨_, rfl⟩
  have T1 : Hid (Two w W1 (.slice ao n c) (k : Int) (f : Int) (f : Int) false D (a : Int) (b : Int) q) := by unfold Hid; rw [← hW1]; exact Two.new w _ _ _ _ _ _ _ _ _
  obtain ⟨B, hB⟩ : ∃ b, w.heap.size = b := ⟨_, rfl⟩
  have HB := Hid.mk' hB
  have K1 : Hid (Blk W1 B 90 (tskC (.slice ao n c) (k : Int) (f : Int) (f : Int) false D (a : Int) (b : Int) q)) := by unfold Hid; rw [← hB]; exact T1.out.tk
  have J1 : Hid (Blk W1 (B + 1) 35 (ef7 (.slice none 0 0) 0 false false (.slice none 0 0) 0 false)) := by unfold Hid; rw [← hB]; exact T1.out.ef
  have L1 := Hid.mk' T1.out.bel
  have J1s := Hid.mk' J1.out.lt
  have HW1 := Hid.mk' L1.out.size
  have K1d : Hid (Blk W1.drew B 90 (tskC (.slice ao n c) (k : Int) (f : Int) (f : Int) false D (a : Int) (b : Int) q)) := K1.out
  have J1d : Hid (Blk W1.drew (B + 1) 35 (ef7 (.slice none 0 0) 0 false false (.slice none 0 0) 0 false)) := J1.out
  have L1d : Hid (Below w.heap.size w W1.drew) := L1.out.drew
  obtain ⟨c0, c1, c2, c3, c4, c5, c6, c7, c8⟩ := tsk_cells K1d.out
  clear T1
  go_enter Tryz.func69, Tryz.ntmps69
  go_upto_region 1 with fail
  clear hW1 hB
  go_region
  obtain ⟨e0, e1, e2, e3, e4, e5, e6⟩ := ef_cells J1d.out
  obtain ⟨f0, f1, f2, f3, f4, f5, f6⟩ := ef_frozen J1d.out
  have hbk := ef_store J1d.out (.slice none 0 0) (.int .i64 (f : Int)) (.bool false) (.bool false) (.slice none 0 0) (.int .i64 0) (.bool true)
  have hgr := ef_grown W1.drew (B + 1) (.slice none 0 0) (.int .i64 (f : Int)) (.bool false) (.bool false) (.slice none 0 0) (.int .i64 0) (.bool true)
  generalize W1.drew = V1 at *
  go_wp2_with fail
  have G9 := Hid.mk' hgr
  generalize (((((((V1.setCell ⟨B + 1, 0, none⟩ (.slice none 0 0)).setCell ⟨B + 1, 1, none⟩ (.int .i64 (f : Int))).setCell ⟨B + 1, 2, none⟩ (.bool false)).setCell ⟨B + 1, 3, none⟩ (.bool false)).setCell ⟨B + 1, 4, none⟩ (.slice none 0 0)).setCell ⟨B + 1, 5, none⟩ (.int .i64 0)).setCell ⟨B + 1, 6, none⟩ (.bool true)) = w9 at *
  obtain ⟨g0, g1, g2, g3, g4, g5, g6⟩ := ef_cells hbk
  refine bodyPost_ret (v := .tuple #[.agg #[.slice none 0 0, .int .i64 (f : Int), .bool false, .bool false, .slice none 0 0, .int .i64 0, .bool true], .int .i64 0]) (by simp [results, Tryz.results69, go_sem, g0, g1, g2, g3, g4, g5, g6]) rfl ⟨.slice none 0 0, [], .slice none 0 0, rfl, rfl, Efm.bare (Eds.nil _ _ _), ?_⟩
  exact L1d.out.grown G9.out L1d.out.size (fun g hg => by injection hg with hg; rw [← hg, HB.out]; exact Nat.le_succ B)
set_option maxHeartbeats 8000000 in
set_option linter.unusedSimpArgs false in
theorem replace_L (ao : Option Addr) (n c k f t fr to9 : Nat) (D : Bool) (a b : Nat) (q : Int) (l : List UInt8) (w : World) (HT : Hid (Tx w ao n c l)) (hbig : n ≤ 1048576) (hg : rgB l (f : Int) (t : Int) true D = true) (hfr : fr ≤ to9) (hto : to9 ≤ n)
    (hS : a ≤ nl l ∧ b ≤ nl l ∧ sp l a = fr ∧ en l (sp l b) = to9) :
    Calls Tryz.prog 69 #[tsk (.slice ao n c) (k : Int) (f : Int) (t : Int) true D (a : Int) (b : Int) q] w fun e w' => EfQ ⟨sw l fr to9 [], (fr : Int), true, true, tk l f t true D, hwE true (tk l f t true D), true⟩ 0 w e w' := by
  show Calls Tryz.prog 69 #[.agg #[.slice ao n c, .int .i64 (k : Int), .int .i64 (f : Int), .int .i64 (t : Int), .bool true, .bool D, .int .i64 (a : Int), .int .i64 (b : Int), .int .i64 q]] w _
  obtain ⟨W1, hW1⟩ : ∃ x, (w.alloc (.cells #[.slice ao n c, .int .i64 (k : Int), .int .i64 (f : Int), .int .i64 (t : Int), .bool true, .bool D, .int .i64 (a : Int), .int .i64 (b : Int), .int .i64 q] 90)).alloc (.cells #[.slice none 0 0, .int .i64 0, .bool false, .bool false, .slice none 0 0, .int .i64 0, .bool false] 35) = x := ⟨_, rfl⟩
  have T1 : Hid (Two w W1 (.slice ao n c) (k : Int) (f : Int) (t : Int) true D (a : Int) (b : Int) q) := by unfold Hid; rw [← hW1]; exact Two.new w _ _ _ _ _ _ _ _ _
  have hln := HT.out.len
  have hnl := nl_le l
  have CK : Hid (∀ W, Below W1.heap.size W1 W → Calls Tryz.prog 98 #[tsk (.slice ao n c) (k : Int) (f : Int) (t : Int) true D (a : Int) (b : Int) q] W fun e w' => TkQ (tk l f t true D) true (hwE true (tk l f t true D)) W e w') := fun W hW => taken_any ao n c f t (k : Int) true D (a : Int) (b : Int) q l W ((HT.out.keep T1.out.bel).keep hW) hbig hg
  have CS : Hid (∀ W, Below W1.heap.size W1 W → Calls Tryz.prog 83 #[.slice ao n c, .int .i64 (fr : Int), .int .i64 (to9 : Int), .slice none 0 0] W fun e w' => EsP (sw l fr to9 []) W e w') := fun W hW => swap_any W ao n c fr to9 l none 0 0 [] W ((HT.out.keep T1.out.bel).keep hW) hfr hto (by omega) (Below.refl _ _) (Wb.nil _ _ _) (by simp)
  obtain ⟨h1, h2, h3, h4⟩ := hS
  have CA : Hid (∀ W, Below W1.heap.size W1 W → Calls Tryz.prog 82 #[.slice ao n c, .int .i64 (a : Int)] W fun e w' => e = .returned (.tuple #[.int .i64 (fr : Int), .int .i64 0]) ∧ w' = W) := fun W hW => by
    have h := start_any ao n c (a : Int) l W (by omega) ((HT.out.keep T1.out.bel).keep hW)
    rw [pr_start h1, h3] at h
    exact h
  have CE : Hid (∀ W, Below W1.heap.size W1 W → Calls Tryz.prog 99 #[.slice ao n c, .int .i64 (b : Int)] W fun e w' => e = .returned (.tuple #[.int .i64 (to9 : Int), .int .i64 0]) ∧ w' = W) := fun W hW => by
    have h := end_any ao n c (b : Int) l W (by omega) ((HT.out.keep T1.out.bel).keep hW)
    rw [pr_end h2, h4] at h
    exact h
  clear h1 h2 h3 h4
  generalize tk l f t true D = X at *
  generalize hwE true X = hw at *
  generalize sw l fr to9 [] = DD at *
  obtain ⟨B, hB⟩ : ∃ b, w.heap.size = b := ⟨_, rfl⟩
  have HB := Hid.mk' hB
  have K1 : Hid (Blk W1 B 90 (tskC (.slice ao n c) (k : Int) (f : Int) (t : Int) true D (a : Int) (b : Int) q)) := by unfold Hid; rw [← hB]; exact T1.out.tk
  have J1 : Hid (Blk W1 (B + 1) 35 (ef7 (.slice none 0 0) 0 false false (.slice none 0 0) 0 false)) := by unfold Hid; rw [← hB]; exact T1.out.ef
  have L1 := Hid.mk' T1.out.bel
  have J1s := Hid.mk' J1.out.lt
  have HW1 := Hid.mk' L1.out.size
  have K1d : Hid (Blk W1.drew B 90 (tskC (.slice ao n c) (k : Int) (f : Int) (t : Int) true D (a : Int) (b : Int) q)) := K1.out
  have J1d : Hid (Blk W1.drew (B + 1) 35 (ef7 (.slice none 0 0) 0 false false (.slice none 0 0) 0 false)) := J1.out
  have L1d : Hid (Below W1.heap.size W1 W1.drew) := (Below.refl _ _).drew
  obtain ⟨c0, c1, c2, c3, c4, c5, c6, c7, c8⟩ := tsk_cells K1d.out
  clear T1 hg HT hln hnl K1 J1
  go_enter Tryz.func69, Tryz.ntmps69
  go_upto_region 1 with fail
  clear hW1 hB
  go_region
  generalize W1.drew = V1 at *
  have D1 := Hid.mk' (CA.out V1 L1d.out)
  have D2 := Hid.mk' (CE.out V1 L1d.out)
  go_upto_region 7 with (first | (go_at_call 82; refine D1.out.mono ?_; rintro e w' ⟨rfl, hw⟩; have hq := hw.symm; subst hq; clear hw) | (go_at_call 99; refine D2.out.mono ?_; rintro e w' ⟨rfl, hw⟩; have hq := hw.symm; subst hq; clear hw) | fail)
  go_wp2_with fail
  refine (CK.out _ L1d.out).mono ?_
  rintro e w2 ⟨v, rfl, hO, hb2⟩
  have W2 := Hid.mk' hO
  have B2 := Hid.mk' (bT L1d.out hb2)
  have HD2 := Hid.mk' hb2.size
  have HW2 := Hid.mk' B2.out.size
  have K2 := Hid.mk' (K1d.out.keep hb2)
  have J2 := Hid.mk' (J1d.out.keep hb2)
  have HJ2 := Hid.mk' (Nat.lt_of_lt_of_le J1d.out.lt hb2.size)
  have HV1 : Hid (W1.heap.size ≤ V1.heap.size) := L1d.out.size
  have W2' : Hid (Wb w2 W1.heap.size w2.heap.size v X) := W2.out.wide HV1.out (Nat.le_refl _)
  clear hO hb2 CK K1d J1d W2 c0 c1 c2 c3 c4 c5 c6 c7 c8
  obtain ⟨p2, d2, rfl⟩ := W2'.out.shape
  dsimp only
  go_upto_region 8 with fail
  obtain ⟨W3, hW3⟩ : ∃ x, w2.alloc (.cells #[.slice none 0 0, .int .i64 0, .bool true, .bool true, .slice p2 X.length d2, .int .i64 hw, .bool false] 35) = x := ⟨_, rfl⟩
  obtain ⟨Q, hQ⟩ : ∃ q, w2.heap.size = q := ⟨_, rfl⟩
  have HQ := Hid.mk' hQ
  have hb3 : Below w2.heap.size w2 W3 := by rw [← hW3]; exact bAlloc (Below.refl _ _) _
  have R3 : Hid (Blk W3 Q 35 (ef7 (.slice none 0 0) 0 true true (.slice p2 X.length d2) hw false)) := by unfold Hid; rw [← hW3, ← hQ]; exact Blk.new w2 35 _
  have HS3 : Hid (W3.heap.size = Q + 1) := by unfold Hid; rw [← hW3, ← hQ]; exact World.size_alloc _ _
  have K3 := Hid.mk' (K2.out.keep hb3)
  have J3 := Hid.mk' (J2.out.keep hb3)
  have WX3 := Hid.mk' (W2'.out.keep hb3)
  have B3 := Hid.mk' (bT B2.out hb3)
  clear hb3 K2 J2 W2'
  rw [hW3, hQ]
  clear hW3 hQ
  have HQB : Hid (B + 1 < Q) := by unfold Hid; rw [← HQ.out]; exact HJ2.out
  obtain ⟨c0, c1, c2, c3, c4, c5, c6, c7, c8⟩ := tsk_cells K3.out
  go_wp2_with fail
  refine (CS.out W3 B3.out).mono ?_
  rintro e w5 ⟨v5, F, rfl, hFD, hE5, hb5⟩
  obtain ⟨eo, ec, rfl, -, -⟩ := hE5.edz
  obtain ⟨en, hen⟩ : ∃ en, F.length = en := ⟨_, rfl⟩
  rw [hen] at hE5 ⊢
  have HFD := Hid.mk' hFD
  have E5 := Hid.mk' hE5
  have R5 := Hid.mk' (R3.out.keep hb5)
  have J5 := Hid.mk' (J3.out.keep hb5)
  have WX5 := Hid.mk' (WX3.out.keep hb5)
  have B5 := Hid.mk' (bT B3.out hb5)
  have HS5 := Hid.mk' hb5.size
  clear hFD hE5 hb5 CS K3 R3 J3 WX3 B3 hen c0 c1 c2 c3 c4 c5 c6 c7 c8
  have q0 : w5.cell? ⟨Q, 0, none⟩ = some (.slice none 0 0) := R5.out.cell rfl
  have q1 : w5.cell? ⟨Q, 1, none⟩ = some (.int .i64 0) := R5.out.cell rfl
  have q6 : w5.cell? ⟨Q, 6, none⟩ = some (.bool false) := R5.out.cell rfl
  have qf0 : w5.frozen? ⟨Q, 0, none⟩ = false := R5.out.frozen _
  have qf1 : w5.frozen? ⟨Q, 1, none⟩ = false := R5.out.frozen _
  have qf6 : w5.frozen? ⟨Q, 6, none⟩ = false := R5.out.frozen _
  have hbk6 : Blk (((w5.setCell ⟨Q, 0, none⟩ (.slice eo en ec)).setCell ⟨Q, 1, none⟩ (.int .i64 (fr : Int))).setCell ⟨Q, 6, none⟩ (.bool true)) Q 35 (ef7 (.slice eo en ec) (fr : Int) true true (.slice p2 X.length d2) hw true) := by
    have := ((R5.out.set (j := 0) (.slice eo en ec)).set (j := 1) (.int .i64 (fr : Int))).set (j := 6) (.bool true)
    simpa [ef7] using this
  have hgr6 : w5.grownBy (((w5.setCell ⟨Q, 0, none⟩ (.slice eo en ec)).setCell ⟨Q, 1, none⟩ (.int .i64 (fr : Int))).setCell ⟨Q, 6, none⟩ (.bool true)) (some Q) := ((grown_set w5 Q 0 (.slice eo en ec)).trans (grown_set _ Q 1 (.int .i64 (fr : Int)))).trans (grown_set _ Q 6 (.bool true))
  have R6 := Hid.mk' hbk6
  have G6 := Hid.mk' hgr6
  clear hbk6 hgr6
  dsimp only
  go_upto_region 9 with fail
  clear q0 q1 q6 qf0 qf1 qf6 R5
  generalize (((w5.setCell ⟨Q, 0, none⟩ (.slice eo en ec)).setCell ⟨Q, 1, none⟩ (.int .i64 (fr : Int))).setCell ⟨Q, 6, none⟩ (.bool true)) = wc at *
  have KE : Hid (Eds wc (Q + 1) w5.heap.size (.slice eo en ec) F) := by
    have h2 := E5.out
    rw [HS3.out] at h2
    exact h2.grown G6.out (.inl (Nat.lt_succ_self Q))
  have KJ : Hid (Blk wc (B + 1) 35 (ef7 (.slice none 0 0) 0 false false (.slice none 0 0) 0 false)) := J5.out.grown G6.out (by intro h; injection h with h; exact Nat.ne_of_lt HQB.out h)
  have KX : Hid (Wb wc W1.heap.size Q (.slice p2 X.length d2) X) := by
    have h := WX5.out.grown G6.out (B := Q) (.inr (by rw [HQ.out]; exact Nat.le_refl _))
    rwa [HQ.out] at h
  have KB : Hid (Below W1.heap.size W1 wc) := B5.out.grown G6.out B5.out.size (fun g hg => by injection hg with hg; rw [← hg, ← HQ.out]; exact HW2.out)
  have KS : Hid (w5.heap.size ≤ wc.heap.size) := G6.out.size
  have HS6 : Hid (Q + 1 ≤ w5.heap.size) := by unfold Hid; rw [← HS3.out]; exact HS5.out
  clear G6 J5 WX5 B5 E5 HS3 HS5
  obtain ⟨e0, e1, e2, e3, e4, e5, e6⟩ := ef_cells R6.out
  obtain ⟨j0, j1, j2, j3, j4, j5, j6⟩ := ef_cells KJ.out
  obtain ⟨f0, f1, f2, f3, f4, f5, f6⟩ := ef_frozen KJ.out
  have hbk := ef_store KJ.out (.slice eo en ec) (.int .i64 (fr : Int)) (.bool true) (.bool true) (.slice p2 X.length d2) (.int .i64 hw) (.bool true)
  have hgr := ef_grown wc (B + 1) (.slice eo en ec) (.int .i64 (fr : Int)) (.bool true) (.bool true) (.slice p2 X.length d2) (.int .i64 hw) (.bool true)
  go_wp2_with fail
  have G9 := Hid.mk' hgr
  generalize (((((((wc.setCell ⟨B + 1, 0, none⟩ (.slice eo en ec)).setCell ⟨B + 1, 1, none⟩ (.int .i64 (fr : Int))).setCell ⟨B + 1, 2, none⟩ (.bool true)).setCell ⟨B + 1, 3, none⟩ (.bool true)).setCell ⟨B + 1, 4, none⟩ (.slice p2 X.length d2)).setCell ⟨B + 1, 5, none⟩ (.int .i64 hw)).setCell ⟨B + 1, 6, none⟩ (.bool true)) = w9 at *
  obtain ⟨g0, g1, g2, g3, g4, g5, g6⟩ := ef_cells hbk
  refine bodyPost_ret (v := .tuple #[.agg #[.slice eo en ec, .int .i64 (fr : Int), .bool true, .bool true, .slice p2 X.length d2, .int .i64 hw, .bool true], .int .i64 0]) (by simp [results, Tryz.results69, go_sem, g0, g1, g2, g3, g4, g5, g6]) rfl ⟨.slice eo en ec, F, .slice p2 X.length d2, rfl, HFD.out, ?_, ?_⟩
  · have h1 := KX.out.grown G9.out (.inl J1s.out)
    have h2 := KE.out.grown G9.out (.inl (Nat.lt_of_lt_of_le HQB.out (Nat.le_succ Q)))
    refine (Efm.two (h1.wide (Nat.le_refl _) (Nat.le_succ Q)) (Below.refl _ _) h2 ?_ HS6.out).wide HW1.out (Nat.le_trans KS.out G9.out.size)
    have := HW2.out
    rw [HQ.out] at this
    exact Nat.le_succ_of_le this
  · exact (bT L1.out KB.out).grown G9.out (bT L1.out KB.out).size (fun g hg => by injection hg with hg; rw [← hg, HB.out]; exact Nat.le_succ B)
set_option maxHeartbeats 8000000 in
set_option linter.unusedSimpArgs false in
theorem replace_B (ao : Option Addr) (n c k f t : Nat) (D : Bool) (a b : Nat) (q : Int) (l : List UInt8) (w : World) (HT : Hid (Tx w ao n c l)) (hbig : n ≤ 1048576) (hg : rgB l (f : Int) (t : Int) false D = true) (hfr : f ≤ t) (hto : t ≤ n)
    (hS : f ≠ t) :
    Calls Tryz.prog 69 #[tsk (.slice ao n c) (k : Int) (f : Int) (t : Int) false D (a : Int) (b : Int) q] w fun e w' => EfQ ⟨sw l f t [], (f : Int), true, false, tk l f t false D, hwE false (tk l f t false D), true⟩ 0 w e w' := by
  show Calls Tryz.prog 69 #[.agg #[.slice ao n c, .int .i64 (k : Int), .int .i64 (f : Int), .int .i64 (t : Int), .bool false, .bool D, .int .i64 (a : Int), .int .i64 (b : Int), .int .i64 q]] w _
  obtain ⟨W1, hW1⟩ : ∃ x, (w.alloc (.cells #[.slice ao n c, .int .i64 (k : Int), .int .i64 (f : Int), .int .i64 (t : Int), .bool false, .bool D, .int .i64 (a : Int), .int .i64 (b : Int), .int .i64 q] 90)).alloc (.cells #[.slice none 0 0, .int .i64 0, .bool false, .bool false, .slice none 0 0, .int .i64 0, .bool false] 35) = x := ⟨_, rfl⟩
  have T1 : Hid (Two w W1 (.slice ao n c) (k : Int) (f : Int) (t : Int) false D (a : Int) (b : Int) q) := by unfold Hid; rw [← hW1]; exact Two.new w _ _ _ _ _ _ _ _ _
  have hln := HT.out.len
  have hnl := nl_le l
  have CK : Hid (∀ W, Below W1.heap.size W1 W → Calls Tryz.prog 98 #[tsk (.slice ao n c) (k : Int) (f : Int) (t : Int) false D (a : Int) (b : Int) q] W fun e w' => TkQ (tk l f t false D) false (hwE false (tk l f t false D)) W e w') := fun W hW => taken_any ao n c f t (k : Int) false D (a : Int) (b : Int) q l W ((HT.out.keep T1.out.bel).keep hW) hbig hg
  have CS : Hid (∀ W, Below W1.heap.size W1 W → Calls Tryz.prog 83 #[.slice ao n c, .int .i64 (f : Int), .int .i64 (t : Int), .slice none 0 0] W fun e w' => EsP (sw l f t []) W e w') := fun W hW => swap_any W ao n c f t l none 0 0 [] W ((HT.out.keep T1.out.bel).keep hW) hfr hto (by omega) (Below.refl _ _) (Wb.nil _ _ _) (by simp)
  have hne1 : ((f : Int) == (t : Int)) = false := by simp; omega
  clear hS
  generalize tk l f t false D = X at *
  generalize hwE false X = hw at *
  generalize sw l f t [] = DD at *
  obtain ⟨B, hB⟩ : ∃ b, w.heap.size = b := ⟨_, rfl⟩
  have HB := Hid.mk' hB
  have K1 : Hid (Blk W1 B 90 (tskC (.slice ao n c) (k : Int) (f : Int) (t : Int) false D (a : Int) (b : Int) q)) := by unfold Hid; rw [← hB]; exact T1.out.tk
  have J1 : Hid (Blk W1 (B + 1) 35 (ef7 (.slice none 0 0) 0 false false (.slice none 0 0) 0 false)) := by unfold Hid; rw [← hB]; exact T1.out.ef
  have L1 := Hid.mk' T1.out.bel
  have J1s := Hid.mk' J1.out.lt
  have HW1 := Hid.mk' L1.out.size
  have K1d : Hid (Blk W1.drew B 90 (tskC (.slice ao n c) (k : Int) (f : Int) (t : Int) false D (a : Int) (b : Int) q)) := K1.out
  have J1d : Hid (Blk W1.drew (B + 1) 35 (ef7 (.slice none 0 0) 0 false false (.slice none 0 0) 0 false)) := J1.out
  have L1d : Hid (Below W1.heap.size W1 W1.drew) := (Below.refl _ _).drew
  obtain ⟨c0, c1, c2, c3, c4, c5, c6, c7, c8⟩ := tsk_cells K1d.out
  clear T1 hg HT hln hnl K1 J1
  go_enter Tryz.func69, Tryz.ntmps69
  go_upto_region 1 with fail
  clear hW1 hB
  go_region
  generalize W1.drew = V1 at *
  go_upto_region 7 with fail
  go_wp2_with fail
  refine (CK.out _ L1d.out).mono ?_
  rintro e w2 ⟨v, rfl, hO, hb2⟩
  have W2 := Hid.mk' hO
  have B2 := Hid.mk' (bT L1d.out hb2)
  have HD2 := Hid.mk' hb2.size
  have HW2 := Hid.mk' B2.out.size
  have K2 := Hid.mk' (K1d.out.keep hb2)
  have J2 := Hid.mk' (J1d.out.keep hb2)
  have HJ2 := Hid.mk' (Nat.lt_of_lt_of_le J1d.out.lt hb2.size)
  have HV1 : Hid (W1.heap.size ≤ V1.heap.size) := L1d.out.size
  have W2' : Hid (Wb w2 W1.heap.size w2.heap.size v X) := W2.out.wide HV1.out (Nat.le_refl _)
  clear hO hb2 CK K1d J1d W2 c0 c1 c2 c3 c4 c5 c6 c7 c8
  obtain ⟨p2, d2, rfl⟩ := W2'.out.shape
  dsimp only
  go_upto_region 8 with fail
  obtain ⟨W3, hW3⟩ : ∃ x, w2.alloc (.cells #[.slice none 0 0, .int .i64 0, .bool true, .bool false, .slice p2 X.length d2, .int .i64 hw, .bool false] 35) = x := ⟨_, rfl⟩
  obtain ⟨Q, hQ⟩ : ∃ q, w2.heap.size = q := ⟨_, rfl⟩
  have HQ := Hid.mk' hQ
  have hb3 : Below w2.heap.size w2 W3 := by rw [← hW3]; exact bAlloc (Below.refl _ _) _
  have R3 : Hid (Blk W3 Q 35 (ef7 (.slice none 0 0) 0 true false (.slice p2 X.length d2) hw false)) := by unfold Hid; rw [← hW3, ← hQ]; exact Blk.new w2 35 _
  have HS3 : Hid (W3.heap.size = Q + 1) := by unfold Hid; rw [← hW3, ← hQ]; exact World.size_alloc _ _
  have K3 := Hid.mk' (K2.out.keep hb3)
  have J3 := Hid.mk' (J2.out.keep hb3)
  have WX3 := Hid.mk' (W2'.out.keep hb3)
  have B3 := Hid.mk' (bT B2.out hb3)
  clear hb3 K2 J2 W2'
  rw [hW3, hQ]
  clear hW3 hQ
  have HQB : Hid (B + 1 < Q) := by unfold Hid; rw [← HQ.out]; exact HJ2.out
  obtain ⟨c0, c1, c2, c3, c4, c5, c6, c7, c8⟩ := tsk_cells K3.out
  go_wp2_with fail
  refine (CS.out W3 B3.out).mono ?_
  rintro e w5 ⟨v5, F, rfl, hFD, hE5, hb5⟩
  obtain ⟨eo, ec, rfl, -, -⟩ := hE5.edz
  obtain ⟨en, hen⟩ : ∃ en, F.length = en := ⟨_, rfl⟩
  rw [hen] at hE5 ⊢
  have HFD := Hid.mk' hFD
  have E5 := Hid.mk' hE5
  have R5 := Hid.mk' (R3.out.keep hb5)
  have J5 := Hid.mk' (J3.out.keep hb5)
  have WX5 := Hid.mk' (WX3.out.keep hb5)
  have B5 := Hid.mk' (bT B3.out hb5)
  have HS5 := Hid.mk' hb5.size
  clear hFD hE5 hb5 CS K3 R3 J3 WX3 B3 hen c0 c1 c2 c3 c4 c5 c6 c7 c8
  have q0 : w5.cell? ⟨Q, 0, none⟩ = some (.slice none 0 0) := R5.out.cell rfl
  have q1 : w5.cell? ⟨Q, 1, none⟩ = some (.int .i64 0) := R5.out.cell rfl
  have q6 : w5.cell? ⟨Q, 6, none⟩ = some (.bool false) := R5.out.cell rfl
  have qf0 : w5.frozen? ⟨Q, 0, none⟩ = false := R5.out.frozen _
  have qf1 : w5.frozen? ⟨Q, 1, none⟩ = false := R5.out.frozen _
  have qf6 : w5.frozen? ⟨Q, 6, none⟩ = false := R5.out.frozen _
  have hbk6 : Blk (((w5.setCell ⟨Q, 0, none⟩ (.slice eo en ec)).setCell ⟨Q, 1, none⟩ (.int .i64 (f : Int))).setCell ⟨Q, 6, none⟩ (.bool true)) Q 35 (ef7 (.slice eo en ec) (f : Int) true false (.slice p2 X.length d2) hw true) := by
    have := ((R5.out.set (j := 0) (.slice eo en ec)).set (j := 1) (.int .i64 (f : Int))).set (j := 6) (.bool true)
    simpa [ef7] using this
  have hgr6 : w5.grownBy (((w5.setCell ⟨Q, 0, none⟩ (.slice eo en ec)).setCell ⟨Q, 1, none⟩ (.int .i64 (f : Int))).setCell ⟨Q, 6, none⟩ (.bool true)) (some Q) := ((grown_set w5 Q 0 (.slice eo en ec)).trans (grown_set _ Q 1 (.int .i64 (f : Int)))).trans (grown_set _ Q 6 (.bool true))
  have R6 := Hid.mk' hbk6
  have G6 := Hid.mk' hgr6
  clear hbk6 hgr6
  dsimp only
  go_upto_region 9 with fail
  clear q0 q1 q6 qf0 qf1 qf6 R5
  generalize (((w5.setCell ⟨Q, 0, none⟩ (.slice eo en ec)).setCell ⟨Q, 1, none⟩ (.int .i64 (f : Int))).setCell ⟨Q, 6, none⟩ (.bool true)) = wc at *
  have KE : Hid (Eds wc (Q + 1) w5.heap.size (.slice eo en ec) F) := by
    have h2 := E5.out
    rw [HS3.out] at h2
    exact h2.grown G6.out (.inl (Nat.lt_succ_self Q))
  have KJ : Hid (Blk wc (B + 1) 35 (ef7 (.slice none 0 0) 0 false false (.slice none 0 0) 0 false)) := J5.out.grown G6.out (by intro h; injection h with h; exact Nat.ne_of_lt HQB.out h)
  have KX : Hid (Wb wc W1.heap.size Q (.slice p2 X.length d2) X) := by
    have h := WX5.out.grown G6.out (B := Q) (.inr (by rw [HQ.out]; exact Nat.le_refl _))
    rwa [HQ.out] at h
  have KB : Hid (Below W1.heap.size W1 wc) := B5.out.grown G6.out B5.out.size (fun g hg => by injection hg with hg; rw [← hg, ← HQ.out]; exact HW2.out)
  have KS : Hid (w5.heap.size ≤ wc.heap.size) := G6.out.size
  have HS6 : Hid (Q + 1 ≤ w5.heap.size) := by unfold Hid; rw [← HS3.out]; exact HS5.out
  clear G6 J5 WX5 B5 E5 HS3 HS5
  obtain ⟨e0, e1, e2, e3, e4, e5, e6⟩ := ef_cells R6.out
  obtain ⟨j0, j1, j2, j3, j4, j5, j6⟩ := ef_cells KJ.out
  obtain ⟨f0, f1, f2, f3, f4, f5, f6⟩ := ef_frozen KJ.out
  have hbk := ef_store KJ.out (.slice eo en ec) (.int .i64 (f : Int)) (.bool true) (.bool false) (.slice p2 X.length d2) (.int .i64 hw) (.bool true)
  have hgr := ef_grown wc (B + 1) (.slice eo en ec) (.int .i64 (f : Int)) (.bool true) (.bool false) (.slice p2 X.length d2) (.int .i64 hw) (.bool true)
  go_wp2_with fail
  have G9 := Hid.mk' hgr
  generalize (((((((wc.setCell ⟨B + 1, 0, none⟩ (.slice eo en ec)).setCell ⟨B + 1, 1, none⟩ (.int .i64 (f : Int))).setCell ⟨B + 1, 2, none⟩ (.bool true)).setCell ⟨B + 1, 3, none⟩ (.bool false)).setCell ⟨B + 1, 4, none⟩ (.slice p2 X.length d2)).setCell ⟨B + 1, 5, none⟩ (.int .i64 hw)).setCell ⟨B + 1, 6, none⟩ (.bool true)) = w9 at *
  obtain ⟨g0, g1, g2, g3, g4, g5, g6⟩ := ef_cells hbk
  refine bodyPost_ret (v := .tuple #[.agg #[.slice eo en ec, .int .i64 (f : Int), .bool true, .bool false, .slice p2 X.length d2, .int .i64 hw, .bool true], .int .i64 0]) (by simp [results, Tryz.results69, go_sem, g0, g1, g2, g3, g4, g5, g6]) rfl ⟨.slice eo en ec, F, .slice p2 X.length d2, rfl, HFD.out, ?_, ?_⟩
  · have h1 := KX.out.grown G9.out (.inl J1s.out)
    have h2 := KE.out.grown G9.out (.inl (Nat.lt_of_lt_of_le HQB.out (Nat.le_succ Q)))
    refine (Efm.two (h1.wide (Nat.le_refl _) (Nat.le_succ Q)) (Below.refl _ _) h2 ?_ HS6.out).wide HW1.out (Nat.le_trans KS.out G9.out.size)
    have := HW2.out
    rw [HQ.out] at this
    exact Nat.le_succ_of_le this
  · exact (bT L1.out KB.out).grown G9.out (bT L1.out KB.out).size (fun g hg => by injection hg with hg; rw [← hg, HB.out]; exact Nat.le_succ B)
end Go.Proofs.YtppefcnopkmhbaaGreatDoor
