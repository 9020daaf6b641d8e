/- OperSmalls, walked. -/
import Derived.Test.YtppefcnopkmhbaaGreatDoorPs32
import Derived.Test.YtppefcnopkmhbaaGreatDoorPs35
import Derived.Test.YtppefcnopkmhbaaGreatDoorPs31
import Derived.Deep.CutBlock
namespace Go.Proofs.YtppefcnopkmhbaaGreatDoor
open Go.RowKit

set_option maxRecDepth 8000
structure Sm where
  kind : Int
  at' : Int
  q : Int
  b : UInt8
  s : ByteArray
/-- a row of what the smaller calls are asked -/
def Smz (W : World) (so : Option Addr) (K : List Sm) : Prop := ∀ (k : Nat) (r : Sm), K[k]? = some r → ∃ g o, so = some ⟨g, o, none⟩ ∧ W.cell? ⟨g, o + k * 5, none⟩ = some (.int .i64 r.kind) ∧ W.cell? ⟨g, o + k * 5 + 1, none⟩ = some (.int .i64 r.at') ∧ W.cell? ⟨g, o + k * 5 + 2, none⟩ = some (.int .i64 r.q) ∧ W.cell? ⟨g, o + k * 5 + 3, none⟩ = some (.int .u8 (r.b.toNat : Int)) ∧ W.cell? ⟨g, o + k * 5 + 4, none⟩ = some (.string r.s)
theorem Smz.keep {W W' : World} {so : Option Addr} {K : List Sm} (h : Smz W so K) (hb : Below W.heap.size W W') : Smz W' so K := fun k r hk => by
  obtain ⟨g, o, h0, h1, h2, h3, h4, h5⟩ := h k r hk
  exact ⟨g, o, h0, by rw [hb.cell (lt_of_cell h1)]; exact h1, by rw [hb.cell (lt_of_cell h2)]; exact h2, by rw [hb.cell (lt_of_cell h3)]; exact h3, by rw [hb.cell (lt_of_cell h4)]; exact h4, by rw [hb.cell (lt_of_cell h5)]; exact h5⟩
theorem sm_cells {W : World} {B : Nat} {k a q : Int} {b : UInt8} {s : ByteArray} (h : Blk W B 54 #[.int .i64 k, .int .i64 a, .int .i64 q, .int .u8 (b.toNat : Int), .string s]) :
    W.cell? ⟨B, 0, none⟩ = some (.int .i64 k) ∧ W.cell? ⟨B, 1, none⟩ = some (.int .i64 a) ∧ W.cell? ⟨B, 2, none⟩ = some (.int .i64 q) ∧ W.cell? ⟨B, 3, none⟩ = some (.int .u8 (b.toNat : Int)) ∧ W.cell? ⟨B, 4, none⟩ = some (.string s) :=
  ⟨h.cell rfl, h.cell rfl, h.cell rfl, h.cell rfl, h.cell rfl⟩
/-- behind the switch: the box of what is wanted holds the effect -/
def Wnt (x : Ef) (z : Int) (Q : Nat) (w0 wx : World) (v9 : Value) : Prop := v9 = .int .i64 z ∧ ∃ v F tv, Blk wx Q 35 (ef7 v x.cur x.set x.lin tv x.how x.typ) ∧ Efr wx v tv F x ∧ Below w0.heap.size w0 wx
set_option maxHeartbeats 32000000 in
set_option linter.unusedSimpArgs false in
theorem operSmalls_walk (ao : Option Addr) (n c : Nat) (l : List UInt8) (so : Option Addr) (sn sc : Nat) (K : List Sm) (W : World) (HT : Tx W ao n c l) (HS : Smz W so K) (hK : K.length = sn) (hsn : sn ≤ 140737488355328) :
    Calls Tryz.prog 5 #[.slice ao n c, .slice so sn sc] W fun e w' => e = .returned (.bool true) ∧ Below W.heap.size W w' := by
  have HK := Hid.mk' hK
  have CA := Hid.mk' (awake_any W)
  have TT0 := Hid.mk' HT
  have SS0 := Hid.mk' HS
  clear HT HS hK
  go_enter Tryz.func5, Tryz.ntmps5
  go_upto_region 3 with (first | (go_at_call 7; refine CA.out.mono ?_; rintro e w1 ⟨rfl, hb⟩) | fail)
  clear CA
  have TT := Hid.mk' (TT0.out.keep hb)
  have SS := Hid.mk' (SS0.out.keep hb)
  have BB := Hid.mk' hb
  clear TT0 SS0 hb
  by_cases hbig : (1024 : Int) < (n : Int)
  · go_wp2
    go_ret
    exact ⟨rfl, BB.out⟩
  by_cases hbig2 : (64 : Int) < (sn : Int)
  · go_wp2
    go_ret
    exact ⟨rfl, BB.out⟩
  have hn : n ≤ 1024 := by omega
  have hs : sn ≤ 64 := by omega
  go_upto_region 5 with fail
  clear hbig hbig2
  have CL := Hid.mk' (llent_any ao n c l w1 (by omega) TT)
  go_wp2_with fail
  refine CL.out.mono ?_
  rintro e w2 ⟨g, cap, rfl, hO, hb⟩
  have OO := Hid.mk' (own_lower hO (Nat.le_refl _))
  have TT2 := Hid.mk' (TT.out.keep hb)
  have SS2 := Hid.mk' (SS.out.keep hb)
  have BB2 := Hid.mk' (bT BB.out hb)
  have HLO := Hid.mk' hb.size
  clear TT SS hO hb CL
  go_wp2_with fail
  go_loopg [28] sn (fun M x28 wx => ∃ i : Nat, x28 = .int .i64 (i : Int) ∧ i + M = sn ∧ Hid (Below w2.heap.size w2 wx))
  case atStart => exact ⟨0, rfl, by omega, Below.refl _ _⟩
  case round =>
    obtain ⟨i, rfl, him, LL⟩ := hrel
    cases gk with
    | zero =>
      have hi' : ¬ (i : Int) < (sn : Int) := by omega
      have OO2 := Hid.mk' (own_keep OO.out LL.out)
      have CW := Hid.mk' (lwhole_any g cap ao n c _ l wr (by omega) (TT2.out.keep LL.out) OO2)
      go_wp2_with fail
      refine CW.out.mono ?_
      rintro e w3 ⟨rfl, hw⟩
      go_wp2
      go_ret
      exact ⟨rfl, bT BB2.out LL.out⟩
    | succ go =>
      have hi' : (i : Int) < (sn : Int) := by omega
      have hi0 : (0 : Int) ≤ (i : Int) := by omega
      obtain ⟨r, hr⟩ : ∃ r, K[i]? = some r := ⟨_, List.getElem?_eq_getElem (by have := HK.out; omega)⟩
      obtain ⟨gs, o, rfl, y0, y1, y2, y3, y4⟩ := (SS2.out.keep LL.out) i r hr
      obtain ⟨kind, at', q, b, s⟩ := r
      dsimp only at y0 y1 y2 y3 y4
      clear hr
      go_upto_region 11 with fail
      clear y0 y1 y2 y3 y4
      obtain ⟨q7, hq7⟩ : ∃ k, wr.heap.size = k := ⟨_, rfl⟩
      obtain ⟨w3, hw3⟩ : ∃ x, (wr.alloc (.cells #[.int .i64 kind, .int .i64 at', .int .i64 q, .int .u8 (b.toNat : Int), .string s] 54)).alloc (.cells #[.slice none 0 0, .int .i64 0, .bool false, .bool false, .slice none 0 0, .int .i64 0, .bool false] 35) = x := ⟨_, rfl⟩
      have BL : Hid (Below wr.heap.size wr w3) := by unfold Hid; rw [← hw3]; exact bAlloc (bAlloc (Below.refl _ _) _) _
      have K7 : Hid (Blk w3 q7 54 #[.int .i64 kind, .int .i64 at', .int .i64 q, .int .u8 (b.toNat : Int), .string s]) := by unfold Hid; rw [← hw3, ← hq7]; exact (Blk.new wr 54 _).keep (bAlloc (Below.refl _ _) _)
      have K8 : Hid (Blk w3 (q7 + 1) 35 (ef7 (.slice none 0 0) 0 false false (.slice none 0 0) 0 false)) := by
        unfold Hid
        rw [← hw3, ← hq7]
        have := Blk.new (wr.alloc (.cells #[.int .i64 kind, .int .i64 at', .int .i64 q, .int .u8 (b.toNat : Int), .string s] 54)) 35 #[.slice none 0 0, .int .i64 0, .bool false, .bool false, .slice none 0 0, .int .i64 0, .bool false]
        rwa [World.size_alloc] at this
      have HQ7 := Hid.mk' hq7
      rw [hw3, hq7]
      clear hw3 hq7
      have TT3 := Hid.mk' (TT2.out.keep (bT LL.out BL.out))
      obtain ⟨s0, s1, s2, s3, s4⟩ := sm_cells K7.out
      go_upto_block 2 with fail
      go_cut [9] from 29 to 119 (fun x9 wx => Wnt (smX l kind at' q b s).1 (smX l kind at' q b s).2 (q7 + 1) wr wx x9 ∧ Blk wx q7 54 #[.int .i64 kind, .int .i64 at', .int .i64 q, .int .u8 (b.toNat : Int), .string s])
      case first =>
        by_cases k0 : kind = 0
        · have kb : (kind == 0) = true := by simpa using k0
          have hX : (smX l kind at' q b s) = ovX l at' q b := by unfold smX; rw [if_pos k0]
          have CW0 := rover_any ao n c l at' q b w3 TT3 (by omega)
          obtain ⟨⟨⟨xes, cur, set, lin, txt, how, typ⟩, z⟩, hx⟩ : ∃ x, ovX l at' q b = x := ⟨_, rfl⟩
          rw [hx] at CW0 hX
          have HX := Hid.mk' hX
          have CW := Hid.mk' CW0
          clear hX CW0 hx
          go_upto_region 14 with fail
          go_wp2_with fail
          refine CW.out.mono ?_
          rintro e w4 ⟨v, F, tv, rfl, hE, hb⟩
          have K84 := Hid.mk' (K8.out.keep hb)
          have K74 := Hid.mk' (K7.out.keep hb)
          obtain ⟨a1, c1, rfl, h2⟩ := hE.es
          obtain ⟨a2, c2, rfl, h4⟩ := hE.tx
          have EE := Hid.mk' hE.d
          have E2 := Hid.mk' h2
          have E4 := Hid.mk' h4
          obtain ⟨fn, hfn⟩ : ∃ fn, F.length = fn := ⟨_, rfl⟩
          have HFN := Hid.mk' hfn
          have BB4 := Hid.mk' (bT BL.out hb)
          clear hE hb CW h2 h4 s0 s1 s2 s3 s4
          unfold efV
          dsimp only
          obtain ⟨tn, htn⟩ : ∃ tn, txt.length = tn := ⟨_, rfl⟩
          have HTN := Hid.mk' htn
          dsimp only at E4
          rw [htn] at E4 ⊢
          rw [hfn]
          clear htn hfn
          obtain ⟨j0, j1, j2, j3, j4, j5, j6⟩ := ef_cells K84.out
          obtain ⟨f0, f1, f2, f3, f4, f5, f6⟩ := ef_frozen K84.out
          go_wp2_with fail
          have hbk := ef_store K84.out (.slice a1 fn c1) (.int .i64 cur) (.bool set) (.bool lin) (.slice a2 tn c2) (.int .i64 how) (.bool typ)
          have hgr := ef_grown w4 (q7 + 1) (.slice a1 fn c1) (.int .i64 cur) (.bool set) (.bool lin) (.slice a2 tn c2) (.int .i64 how) (.bool typ)
          generalize (((((((w4.setCell ⟨q7 + 1, 0, none⟩ (.slice a1 fn c1)).setCell ⟨q7 + 1, 1, none⟩ (.int .i64 cur)).setCell ⟨q7 + 1, 2, none⟩ (.bool set)).setCell ⟨q7 + 1, 3, none⟩ (.bool lin)).setCell ⟨q7 + 1, 4, none⟩ (.slice a2 tn c2)).setCell ⟨q7 + 1, 5, none⟩ (.int .i64 how)).setCell ⟨q7 + 1, 6, none⟩ (.bool typ)) = w5 at *
          clear j0 j1 j2 j3 j4 j5 j6 f0 f1 f2 f3 f4 f5 f6
          go_meet
          rw [HX.out]
          refine ⟨⟨rfl, _, F, _, hbk, ?_, BB4.out.grown hgr BB4.out.size (fun g hg => by injection hg with hg; have := HQ7.out; omega)⟩, K74.out.off2 hgr (fun e => by injection e with e; omega)⟩
          exact ⟨EE.out, ⟨a1, c1, by rw [HFN.out], edz_offe E2.out K84.out hgr⟩, ⟨a2, c2, by rw [HTN.out], by dsimp only; rw [HTN.out]; exact E4.out.offe K84.out (by intro z e; cases e) (by intro z e; cases e) hgr⟩⟩
        by_cases k1 : kind = 1
        · have kb0 : (kind == 0) = false := by simpa using k0
          have kb : (kind == 1) = true := by simpa using k1
          have hX : (smX l kind at' q b s) = tuX l at' q := by unfold smX; rw [if_neg k0, if_pos k1]
          have CW0 := rturn_any ao n c l at' q w3 TT3 (by omega)
          obtain ⟨⟨⟨xes, cur, set, lin, txt, how, typ⟩, z⟩, hx⟩ : ∃ x, tuX l at' q = x := ⟨_, rfl⟩
          rw [hx] at CW0 hX
          have HX := Hid.mk' hX
          have CW := Hid.mk' CW0
          clear hX CW0 hx
          go_upto_region 16 with fail
          go_wp2_with fail
          refine CW.out.mono ?_
          rintro e w4 ⟨v, F, tv, rfl, hE, hb⟩
          have K84 := Hid.mk' (K8.out.keep hb)
          have K74 := Hid.mk' (K7.out.keep hb)
          obtain ⟨a1, c1, rfl, h2⟩ := hE.es
          obtain ⟨a2, c2, rfl, h4⟩ := hE.tx
          have EE := Hid.mk' hE.d
          have E2 := Hid.mk' h2
          have E4 := Hid.mk' h4
          obtain ⟨fn, hfn⟩ : ∃ fn, F.length = fn := ⟨_, rfl⟩
          have HFN := Hid.mk' hfn
          have BB4 := Hid.mk' (bT BL.out hb)
          clear hE hb CW h2 h4 s0 s1 s2 s3 s4
          unfold efV
          dsimp only
          obtain ⟨tn, htn⟩ : ∃ tn, txt.length = tn := ⟨_, rfl⟩
          have HTN := Hid.mk' htn
          dsimp only at E4
          rw [htn] at E4 ⊢
          rw [hfn]
          clear htn hfn
          obtain ⟨j0, j1, j2, j3, j4, j5, j6⟩ := ef_cells K84.out
          obtain ⟨f0, f1, f2, f3, f4, f5, f6⟩ := ef_frozen K84.out
          go_wp2_with fail
          have hbk := ef_store K84.out (.slice a1 fn c1) (.int .i64 cur) (.bool set) (.bool lin) (.slice a2 tn c2) (.int .i64 how) (.bool typ)
          have hgr := ef_grown w4 (q7 + 1) (.slice a1 fn c1) (.int .i64 cur) (.bool set) (.bool lin) (.slice a2 tn c2) (.int .i64 how) (.bool typ)
          generalize (((((((w4.setCell ⟨q7 + 1, 0, none⟩ (.slice a1 fn c1)).setCell ⟨q7 + 1, 1, none⟩ (.int .i64 cur)).setCell ⟨q7 + 1, 2, none⟩ (.bool set)).setCell ⟨q7 + 1, 3, none⟩ (.bool lin)).setCell ⟨q7 + 1, 4, none⟩ (.slice a2 tn c2)).setCell ⟨q7 + 1, 5, none⟩ (.int .i64 how)).setCell ⟨q7 + 1, 6, none⟩ (.bool typ)) = w5 at *
          clear j0 j1 j2 j3 j4 j5 j6 f0 f1 f2 f3 f4 f5 f6
          go_meet
          rw [HX.out]
          refine ⟨⟨rfl, _, F, _, hbk, ?_, BB4.out.grown hgr BB4.out.size (fun g hg => by injection hg with hg; have := HQ7.out; omega)⟩, K74.out.off2 hgr (fun e => by injection e with e; omega)⟩
          exact ⟨EE.out, ⟨a1, c1, by rw [HFN.out], edz_offe E2.out K84.out hgr⟩, ⟨a2, c2, by rw [HTN.out], by dsimp only; rw [HTN.out]; exact E4.out.offe K84.out (by intro z e; cases e) (by intro z e; cases e) hgr⟩⟩
        by_cases k2 : kind = 2
        · have kb0 : (kind == 0) = false := by simpa using k0
          have kb1 : (kind == 1) = false := by simpa using k1
          have kb : (kind == 2) = true := by simpa using k2
          have hX : (smX l kind at' q b s) = joX l at' q := by unfold smX; rw [if_neg k0, if_neg k1, if_pos k2]
          have CW0 := rjoin_any ao n c l at' q w3 TT3 (by omega)
          obtain ⟨⟨⟨xes, cur, set, lin, txt, how, typ⟩, z⟩, hx⟩ : ∃ x, joX l at' q = x := ⟨_, rfl⟩
          rw [hx] at CW0 hX
          have HX := Hid.mk' hX
          have CW := Hid.mk' CW0
          clear hX CW0 hx
          go_upto_region 18 with fail
          go_wp2_with fail
          refine CW.out.mono ?_
          rintro e w4 ⟨v, F, tv, rfl, hE, hb⟩
          have K84 := Hid.mk' (K8.out.keep hb)
          have K74 := Hid.mk' (K7.out.keep hb)
          obtain ⟨a1, c1, rfl, h2⟩ := hE.es
          obtain ⟨a2, c2, rfl, h4⟩ := hE.tx
          have EE := Hid.mk' hE.d
          have E2 := Hid.mk' h2
          have E4 := Hid.mk' h4
          obtain ⟨fn, hfn⟩ : ∃ fn, F.length = fn := ⟨_, rfl⟩
          have HFN := Hid.mk' hfn
          have BB4 := Hid.mk' (bT BL.out hb)
          clear hE hb CW h2 h4 s0 s1 s2 s3 s4
          unfold efV
          dsimp only
          obtain ⟨tn, htn⟩ : ∃ tn, txt.length = tn := ⟨_, rfl⟩
          have HTN := Hid.mk' htn
          dsimp only at E4
          rw [htn] at E4 ⊢
          rw [hfn]
          clear htn hfn
          obtain ⟨j0, j1, j2, j3, j4, j5, j6⟩ := ef_cells K84.out
          obtain ⟨f0, f1, f2, f3, f4, f5, f6⟩ := ef_frozen K84.out
          go_wp2_with fail
          have hbk := ef_store K84.out (.slice a1 fn c1) (.int .i64 cur) (.bool set) (.bool lin) (.slice a2 tn c2) (.int .i64 how) (.bool typ)
          have hgr := ef_grown w4 (q7 + 1) (.slice a1 fn c1) (.int .i64 cur) (.bool set) (.bool lin) (.slice a2 tn c2) (.int .i64 how) (.bool typ)
          generalize (((((((w4.setCell ⟨q7 + 1, 0, none⟩ (.slice a1 fn c1)).setCell ⟨q7 + 1, 1, none⟩ (.int .i64 cur)).setCell ⟨q7 + 1, 2, none⟩ (.bool set)).setCell ⟨q7 + 1, 3, none⟩ (.bool lin)).setCell ⟨q7 + 1, 4, none⟩ (.slice a2 tn c2)).setCell ⟨q7 + 1, 5, none⟩ (.int .i64 how)).setCell ⟨q7 + 1, 6, none⟩ (.bool typ)) = w5 at *
          clear j0 j1 j2 j3 j4 j5 j6 f0 f1 f2 f3 f4 f5 f6
          go_meet
          rw [HX.out]
          refine ⟨⟨rfl, _, F, _, hbk, ?_, BB4.out.grown hgr BB4.out.size (fun g hg => by injection hg with hg; have := HQ7.out; omega)⟩, K74.out.off2 hgr (fun e => by injection e with e; omega)⟩
          exact ⟨EE.out, ⟨a1, c1, by rw [HFN.out], edz_offe E2.out K84.out hgr⟩, ⟨a2, c2, by rw [HTN.out], by dsimp only; rw [HTN.out]; exact E4.out.offe K84.out (by intro z e; cases e) (by intro z e; cases e) hgr⟩⟩
        · have kb0 : (kind == 0) = false := by simpa using k0
          have kb1 : (kind == 1) = false := by simpa using k1
          have kb2 : (kind == 2) = false := by simpa using k2
          have hX : (smX l kind at' q b s) = enX l at' s := by unfold smX; rw [if_neg k0, if_neg k1, if_neg k2]
          have CW0 := renter_any ao n c l at' s w3 TT3 (by omega)
          obtain ⟨⟨⟨xes, cur, set, lin, txt, how, typ⟩, z⟩, hx⟩ : ∃ x, enX l at' s = x := ⟨_, rfl⟩
          rw [hx] at CW0 hX
          have HX := Hid.mk' hX
          have CW := Hid.mk' CW0
          clear hX CW0 hx
          go_upto_region 12 with fail
          go_wp2_with fail
          refine CW.out.mono ?_
          rintro e w4 ⟨v, F, tv, rfl, hE, hb⟩
          have K84 := Hid.mk' (K8.out.keep hb)
          have K74 := Hid.mk' (K7.out.keep hb)
          obtain ⟨a1, c1, rfl, h2⟩ := hE.es
          obtain ⟨a2, c2, rfl, h4⟩ := hE.tx
          have EE := Hid.mk' hE.d
          have E2 := Hid.mk' h2
          have E4 := Hid.mk' h4
          obtain ⟨fn, hfn⟩ : ∃ fn, F.length = fn := ⟨_, rfl⟩
          have HFN := Hid.mk' hfn
          have BB4 := Hid.mk' (bT BL.out hb)
          clear hE hb CW h2 h4 s0 s1 s2 s3 s4
          unfold efV
          dsimp only
          obtain ⟨tn, htn⟩ : ∃ tn, txt.length = tn := ⟨_, rfl⟩
          have HTN := Hid.mk' htn
          dsimp only at E4
          rw [htn] at E4 ⊢
          rw [hfn]
          clear htn hfn
          obtain ⟨j0, j1, j2, j3, j4, j5, j6⟩ := ef_cells K84.out
          obtain ⟨f0, f1, f2, f3, f4, f5, f6⟩ := ef_frozen K84.out
          go_wp2_with fail
          have hbk := ef_store K84.out (.slice a1 fn c1) (.int .i64 cur) (.bool set) (.bool lin) (.slice a2 tn c2) (.int .i64 how) (.bool typ)
          have hgr := ef_grown w4 (q7 + 1) (.slice a1 fn c1) (.int .i64 cur) (.bool set) (.bool lin) (.slice a2 tn c2) (.int .i64 how) (.bool typ)
          generalize (((((((w4.setCell ⟨q7 + 1, 0, none⟩ (.slice a1 fn c1)).setCell ⟨q7 + 1, 1, none⟩ (.int .i64 cur)).setCell ⟨q7 + 1, 2, none⟩ (.bool set)).setCell ⟨q7 + 1, 3, none⟩ (.bool lin)).setCell ⟨q7 + 1, 4, none⟩ (.slice a2 tn c2)).setCell ⟨q7 + 1, 5, none⟩ (.int .i64 how)).setCell ⟨q7 + 1, 6, none⟩ (.bool typ)) = w5 at *
          clear j0 j1 j2 j3 j4 j5 j6 f0 f1 f2 f3 f4 f5 f6
          go_meet
          rw [HX.out]
          refine ⟨⟨rfl, _, F, _, hbk, ?_, BB4.out.grown hgr BB4.out.size (fun g hg => by injection hg with hg; have := HQ7.out; omega)⟩, K74.out.off2 hgr (fun e => by injection e with e; omega)⟩
          exact ⟨EE.out, ⟨a1, c1, by rw [HFN.out], edz_offe E2.out K84.out hgr⟩, ⟨a2, c2, by rw [HTN.out], by dsimp only; rw [HTN.out]; exact E4.out.offe K84.out (by intro z e; cases e) (by intro z e; cases e) hgr⟩⟩
      case rest =>
      obtain ⟨⟨rfl, vw, Fw, tw, hK8, hEw, hb5⟩, hK7⟩ := hcut
      have KK7 := Hid.mk' hK7
      have KK8 := Hid.mk' hK8
      have EW := Hid.mk' hEw
      have LL5 := Hid.mk' (bT LL.out hb5)
      have OO5 := Hid.mk' (own_keep OO.out LL5.out)
      have hln := (TT2.out).len
      have TL5 := Hid.mk' (lent_tx hln (by omega) OO5.out)
      have CSA : Hid (∀ V, Below wc.heap.size wc V → Calls Tryz.prog 21 #[.slice (some ⟨g, 0, none⟩) n cap, .agg #[.int .i64 kind, .int .i64 at', .int .i64 q, .int .u8 (b.toNat : Int), .string s]] V fun e w' => EfQ (smX l kind at' q b s).1 (smX l kind at' q b s).2 V e w') := fun V hV => small_any (some ⟨g, 0, none⟩) n cap l kind at' q b s V (TL5.out.keep hV) (by omega)
      have HFB := Hid.mk' (sm_fit (l := l) (by omega) kind at' q b s)
      obtain ⟨⟨⟨xes, cur, set, lin, txt, how, typ⟩, z⟩, hx⟩ : ∃ x, smX l kind at' q b s = x := ⟨_, rfl⟩
      have htx := sm_txt l kind at' q b s
      rw [hx] at htx HFB CSA EW KK8 ⊢
      dsimp only at htx CSA EW KK8
      subst htx
      have CS := Hid.mk' (CSA.out wc (Below.refl _ _))
      clear hx
      clear hK7 hK8 hEw hb5 K7 K8 BL TT3 s0 s1 s2 s3 s4
      obtain ⟨s0, s1, s2, s3, s4⟩ := sm_cells KK7.out
      go_upto_region 19 with fail
      go_wp2_with fail
      refine CS.out.mono ?_
      rintro e w6 ⟨v1, F1, t1, rfl, hF1, hM1, hb6⟩
      clear CS s0 s1 s2 s3 s4
      have hR1 := hM1.efr (x := ⟨xes, cur, set, lin, [], how, typ⟩) hF1 (Nat.zero_le _)
      have FS1 := Hid.mk' hM1.fs
      have HF1 := Hid.mk' hF1
      have R1 := Hid.mk' hR1
      obtain ⟨a1, c1, rfl, h2⟩ := hR1.es
      obtain ⟨a2, c2, rfl, h4⟩ := hR1.tx
      obtain ⟨f1, hf1⟩ : ∃ f, F1.length = f := ⟨_, rfl⟩
      have HFN1 := Hid.mk' hf1
      have B6 := Hid.mk' hb6
      unfold efV
      dsimp only
      rw [hf1]
      rw [show ([] : List UInt8).length = 0 from rfl]
      clear hR1 hM1 hF1 hb6 h2 h4 hf1
      have KK76 := Hid.mk' (KK7.out.keep B6.out)
      obtain ⟨qx, hqx⟩ : ∃ k, w6.heap.size = k := ⟨_, rfl⟩
      obtain ⟨w7, hw7⟩ : ∃ x, w6.alloc (.cells #[.slice a1 f1 c1, .int .i64 cur, .bool set, .bool lin, .slice a2 0 c2, .int .i64 how, .bool typ] 35) = x := ⟨_, rfl⟩
      have B7 : Hid (Below w6.heap.size w6 w7) := by unfold Hid; rw [← hw7]; exact bAlloc (Below.refl _ _) _
      have KX : Hid (Blk w7 qx 35 (ef7 (.slice a1 f1 c1) cur set lin (.slice a2 0 c2) how typ)) := by unfold Hid; rw [← hw7, ← hqx]; exact Blk.new w6 35 _
      have HQX := Hid.mk' hqx
      have KK77 := Hid.mk' (KK76.out.keep B7.out)
      obtain ⟨s0, s1, s2, s3, s4⟩ := sm_cells KK77.out
      have CS2 := Hid.mk' (CSA.out w7 (bT B6.out B7.out))
      go_upto_region 20 with fail
      skip
      clear hw7 hqx
      have BC7 := Hid.mk' (bT B6.out B7.out)
      go_wp2_with fail
      refine CS2.out.mono ?_
      rintro e w8 ⟨v3, F3, t3, rfl, hF3, hM3, hb8⟩
      clear CS2 CSA s0 s1 s2 s3 s4
      have hR3 := hM3.efr (x := ⟨xes, cur, set, lin, [], how, typ⟩) hF3 (Nat.zero_le _)
      have FS3 := Hid.mk' hM3.fs
      have HF3 := Hid.mk' hF3
      have R3 := Hid.mk' hR3
      obtain ⟨a3, c3, rfl, h2⟩ := hR3.es
      obtain ⟨a4, c4, rfl, h4⟩ := hR3.tx
      obtain ⟨f3, hf3⟩ : ∃ f, F3.length = f := ⟨_, rfl⟩
      have HFN3 := Hid.mk' hf3
      have B8 := Hid.mk' hb8
      unfold efV
      dsimp only
      rw [hf3]
      rw [show ([] : List UInt8).length = 0 from rfl]
      clear hR3 hM3 hF3 hb8 h2 h4 hf3
      obtain ⟨qy, hqy⟩ : ∃ k, w8.heap.size = k := ⟨_, rfl⟩
      obtain ⟨w9, hw9⟩ : ∃ x, w8.alloc (.cells #[.slice a3 f3 c3, .int .i64 cur, .bool set, .bool lin, .slice a4 0 c4, .int .i64 how, .bool typ] 35) = x := ⟨_, rfl⟩
      have B9 : Hid (Below w8.heap.size w8 w9) := by unfold Hid; rw [← hw9]; exact bAlloc (Below.refl _ _) _
      have KY : Hid (Blk w9 qy 35 (ef7 (.slice a3 f3 c3) cur set lin (.slice a4 0 c4) how typ)) := by unfold Hid; rw [← hw9, ← hqy]; exact Blk.new w8 35 _
      go_upto_region 21 with fail
      skip
      clear hw9 hqy
      have hWE := EW.out
      obtain ⟨a0, c0, rfl, h2⟩ := hWE.es
      obtain ⟨b0, d0, rfl, h4⟩ := hWE.tx
      clear h2 h4 hWE
      obtain ⟨f0, hf0⟩ : ∃ f, Fw.length = f := ⟨_, rfl⟩
      have HFN0 := Hid.mk' hf0
      have KK8' : Hid (Blk wc (q7 + 1) 35 (ef7 (.slice a0 f0 c0) cur set lin (.slice b0 0 d0) how typ)) := by
        have := KK8.out
        rw [hf0] at this
        exact this
      clear KK8 hf0
      have hdw : Below w9.heap.size w9 w9.drew := (Below.refl _ _).drew
      have BC9 := Hid.mk' (bT BC7.out (bT B8.out B9.out))
      have SZ : Hid (Bx3 qx (q7 + 1) qy (ef7 (.slice a1 f1 c1) cur set lin (.slice a2 0 c2) how typ) (ef7 (.slice a0 f0 c0) cur set lin (.slice b0 0 d0) how typ) (ef7 (.slice a3 f3 c3) cur set lin (.slice a4 0 c4) how typ) w9.drew) := by
        unfold Hid
        refine Bx3.keep (W := w9) ⟨KX.out.keep (bT B8.out B9.out), KK8'.out.keep BC9.out, KY.out⟩ hdw
      have FSA : Hid (Fars w9.drew wc.heap.size w9.drew.heap.size (lis (.slice a2 0 c2) [] F1 ++ lis (.slice a4 0 c4) [] F3)) := by
        unfold Hid
        have e1 := FS1.out.keep (bT B7.out (bT B8.out B9.out))
        have e3 := FS3.out.keep B9.out
        have e2 : Fars w9 wc.heap.size w7.heap.size (lis (.slice a2 0 c2) [] F1) := ⟨fun k x hx => (e1.wb k x hx).wide (Nat.le_refl _) B7.out.size, e1.far⟩
        have e4 := e2.app e3 BC7.out.size B8.out.size
        have e5 := e4.keep hdw
        exact ⟨fun k x hx => (e5.wb k x hx).wide (Nat.le_refl _) (Nat.le_trans B9.out.size hdw.size), e5.far⟩
      have RX := Hid.mk' (R1.out.keep (bT (bT B7.out (bT B8.out B9.out)) hdw))
      have RY := Hid.mk' (R3.out.keep (bT B9.out hdw))
      have RW := Hid.mk' (EW.out.keep (bT BC9.out hdw))
      have BCD := Hid.mk' (bT BC9.out hdw)
      have HES : Hid (xes.length ≤ 1048577) := HFB.out.num
      have HNS : Hid (nsum xes ≤ 4294967296) := by have := HFB.out.sum; unfold Hid; dsimp only at this; omega
      have HOS : Hid (osum xes ≤ 4294967296) := by have := fit_osum HFB.out (by omega); unfold Hid; dsimp only at this; omega
      have HF1L : Hid (f1 ≤ 1048577) := by unfold Hid; rw [← HFN1.out, ← List.length_map (f := Er.d), HF1.out]; exact HES.out
      have HF3L : Hid (f3 ≤ 1048577) := by unfold Hid; rw [← HFN3.out, ← List.length_map (f := Er.d), HF3.out]; exact HES.out
      have HSM : Hid (∀ p ∈ lis (.slice a2 0 c2) [] F1 ++ lis (.slice a4 0 c4) [] F3, p.2.length ≤ 4294967296) := fun p hp => by
        rcases List.mem_append.1 hp with hp | hp
        · exact lis_small HF1.out HNS.out HOS.out (Nat.zero_le _) p hp
        · exact lis_small HF3.out HNS.out HOS.out (Nat.zero_le _) p hp
      clear FS1 FS3 HFB HNS HOS R1 R3 EW KX KK8' KY KK77 KK76 B6 B7 B8 B9 HF1 HF3 hdw TL5 OO5 HQX HQ7
      refine wp_region_held (S := Bx3 qx (q7 + 1) qy (ef7 (.slice a1 f1 c1) cur set lin (.slice a2 0 c2) how typ) (ef7 (.slice a0 f0 c0) cur set lin (.slice b0 0 d0) how typ) (ef7 (.slice a3 f3 c3) cur set lin (.slice a4 0 c4) how typ)) (by kernel_rfl) ?_
      change wpAnyH _ _ _ _ _ _ _ _ (World.drew _)
      generalize w9.drew = V0 at *
      refine wpAnyH_take (i := 0) (v := .int .i64 z) rfl (by kernel_rfl) (by kernel_rfl) (by kernel_rfl) (fun _ _ _ h => h) (Yields.yieldsIf (Or.inl ⟨by rfl, fun w => by go_simp⟩)) SZ.out ?_
      try simp only [Act.put, List.getElem_toArray, List.getElem_cons_zero, List.getElem_cons_succ, List.setIfInBounds_toArray, List.set_cons_zero, List.set_cons_succ]
      refine wpAnyH_take (i := 1) (v := .int .i64 z) rfl (by kernel_rfl) (by kernel_rfl) (by kernel_rfl) (fun _ _ _ h => h) (Yields.yieldsIf (Or.inl ⟨by rfl, fun w => by go_simp⟩)) SZ.out ?_
      try simp only [Act.put, List.getElem_toArray, List.getElem_cons_zero, List.getElem_cons_succ, List.setIfInBounds_toArray, List.set_cons_zero, List.set_cons_succ]
      refine wpAnyH_take (i := 2) (v := .bool false) rfl (by kernel_rfl) (by kernel_rfl) (by kernel_rfl) (fun _ _ _ h => h) (Yields.yieldsIf (Or.inl ⟨by rfl, fun w => by go_simp⟩)) SZ.out ?_
      try simp only [Act.put, List.getElem_toArray, List.getElem_cons_zero, List.getElem_cons_succ, List.setIfInBounds_toArray, List.set_cons_zero, List.set_cons_succ]
      refine wpAnyH_take (i := 3) (v := .bool false) rfl (by kernel_rfl) (by kernel_rfl) (by kernel_rfl) (fun _ _ _ h => h) (Yields.yieldsIf (Or.inl ⟨by rfl, fun w => by go_simp⟩)) SZ.out ?_
      try simp only [Act.put, List.getElem_toArray, List.getElem_cons_zero, List.getElem_cons_succ, List.setIfInBounds_toArray, List.set_cons_zero, List.set_cons_succ]
      refine wpAnyH_take (i := 4) (v := .int .i64 z) rfl (by kernel_rfl) (by kernel_rfl) (by kernel_rfl) (fun _ _ _ h => h) (Yields.yieldsIf (Or.inl ⟨by rfl, fun w => by go_simp⟩)) SZ.out ?_
      try simp only [Act.put, List.getElem_toArray, List.getElem_cons_zero, List.getElem_cons_succ, List.setIfInBounds_toArray, List.set_cons_zero, List.set_cons_succ]
      refine wpAnyH_take (i := 5) (v := .int .i64 z) rfl (by kernel_rfl) (by kernel_rfl) (by kernel_rfl) (fun _ _ _ h => h) (Yields.yieldsIf (Or.inl ⟨by rfl, fun w => by go_simp⟩)) SZ.out ?_
      try simp only [Act.put, List.getElem_toArray, List.getElem_cons_zero, List.getElem_cons_succ, List.setIfInBounds_toArray, List.set_cons_zero, List.set_cons_succ]
      refine wpAnyH_take (i := 6) (v := .bool false) rfl (by kernel_rfl) (by kernel_rfl) (by kernel_rfl) (fun _ _ _ h => h) (Yields.yieldsIf (Or.inl ⟨by rfl, fun w => by go_simp⟩)) SZ.out ?_
      try simp only [Act.put, List.getElem_toArray, List.getElem_cons_zero, List.getElem_cons_succ, List.setIfInBounds_toArray, List.set_cons_zero, List.set_cons_succ]
      refine wpAnyH_take (i := 7) (v := .bool false) rfl (by kernel_rfl) (by kernel_rfl) (by kernel_rfl) (fun _ _ _ h => h) (Yields.yieldsIf (Or.inl ⟨by rfl, fun w => by go_simp⟩)) SZ.out ?_
      try simp only [Act.put, List.getElem_toArray, List.getElem_cons_zero, List.getElem_cons_succ, List.setIfInBounds_toArray, List.set_cons_zero, List.set_cons_succ]
      refine wpAnyH_take (i := 8) (v := .bool false) rfl (by kernel_rfl) (by kernel_rfl) (by kernel_rfl) (fun _ _ _ h => h) (Yields.yieldsIf (Or.inl ⟨by rfl, fun w => by go_simp⟩)) SZ.out ?_
      try simp only [Act.put, List.getElem_toArray, List.getElem_cons_zero, List.getElem_cons_succ, List.setIfInBounds_toArray, List.set_cons_zero, List.set_cons_succ]
      refine wpAnyH_take (i := 9) (v := .agg #[.slice a1 f1 c1, .int .i64 cur, .bool set, .bool lin, .slice a2 0 c2, .int .i64 how, .bool typ]) rfl (by kernel_rfl) (by kernel_rfl) (by kernel_rfl) (fun _ _ _ h => h) (Or.inl ⟨by rfl, fun w9 h9 => by obtain ⟨x0, x1, x2, x3, x4, x5, x6⟩ := ef_cells h9.a; obtain ⟨y0, y1, y2, y3, y4, y5, y6⟩ := ef_cells h9.b; obtain ⟨z0, z1, z2, z3, z4, z5, z6⟩ := ef_cells h9.c; go_simp⟩) SZ.out ?_
      try simp only [Act.put, List.getElem_toArray, List.getElem_cons_zero, List.getElem_cons_succ, List.setIfInBounds_toArray, List.set_cons_zero, List.set_cons_succ]
      refine wpAnyH_take (i := 10) (v := .agg #[.slice a0 f0 c0, .int .i64 cur, .bool set, .bool lin, .slice b0 0 d0, .int .i64 how, .bool typ]) rfl (by kernel_rfl) (by kernel_rfl) (by kernel_rfl) (fun _ _ _ h => h) (Or.inl ⟨by rfl, fun w9 h9 => by obtain ⟨x0, x1, x2, x3, x4, x5, x6⟩ := ef_cells h9.a; obtain ⟨y0, y1, y2, y3, y4, y5, y6⟩ := ef_cells h9.b; obtain ⟨z0, z1, z2, z3, z4, z5, z6⟩ := ef_cells h9.c; go_simp⟩) SZ.out ?_
      try simp only [Act.put, List.getElem_toArray, List.getElem_cons_zero, List.getElem_cons_succ, List.setIfInBounds_toArray, List.set_cons_zero, List.set_cons_succ]
      refine wpAnyH_all (rs := [11]) (by kernel_rfl) (by simp) (AllH.cons rfl (fun K hK => ?_) AllH.nil)
      have C0 := same_yes V0 _ _ _ _ F1 Fw ⟨xes, cur, set, lin, [], how, typ⟩ (Hid.mk' (RX.out.keep (Below.refl V0.heap.size V0))) (Hid.mk' (RW.out.keep (Below.refl V0.heap.size V0))) (Nat.le_trans HES.out (by decide))
      unfold efV at C0
      dsimp only at C0
      rw [HFN1.out, HFN0.out, show ([] : List UInt8).length = 0 from rfl] at C0
      have CD := Hid.mk' C0
      clear C0
      go_simp
      refine CD.out.mono ?_
      rintro e9 V1 ⟨rfl, hbx⟩
      clear CD
      have SV1 := Hid.mk' (SZ.out.keep hbx)
      have BV1 := Hid.mk' (bT (Below.refl V0.heap.size V0) hbx)
      clear hbx
      dsimp only
      refine hK _ _ ⟨SV1.out, ?_⟩
      clear hK K
      try simp only [Act.put, List.getElem_toArray, List.getElem_cons_zero, List.getElem_cons_succ, List.setIfInBounds_toArray, List.set_cons_zero, List.set_cons_succ]
      refine wpAnyH_take (i := 12) (v := .bool false) rfl (by kernel_rfl) (by kernel_rfl) (by kernel_rfl) (fun _ _ _ h => h) (Yields.yieldsIf (Or.inl ⟨by rfl, fun w => by go_simp⟩)) SV1.out ?_
      try simp only [Act.put, List.getElem_toArray, List.getElem_cons_zero, List.getElem_cons_succ, List.setIfInBounds_toArray, List.set_cons_zero, List.set_cons_succ]
      refine wpAnyH_take (i := 13) (v := .bool false) rfl (by kernel_rfl) (by kernel_rfl) (by kernel_rfl) (fun _ _ _ h => h) (Yields.yieldsIf (Or.inl ⟨by rfl, fun w => by go_simp⟩)) SV1.out ?_
      try simp only [Act.put, List.getElem_toArray, List.getElem_cons_zero, List.getElem_cons_succ, List.setIfInBounds_toArray, List.set_cons_zero, List.set_cons_succ]
      refine wpAnyH_take (i := 14) (v := .bool false) rfl (by kernel_rfl) (by kernel_rfl) (by kernel_rfl) (fun _ _ _ h => h) (Yields.yieldsIf (Or.inl ⟨by rfl, fun w => by go_simp⟩)) SV1.out ?_
      try simp only [Act.put, List.getElem_toArray, List.getElem_cons_zero, List.getElem_cons_succ, List.setIfInBounds_toArray, List.set_cons_zero, List.set_cons_succ]
      refine wpAnyH_take (i := 15) (v := .agg #[.slice a3 f3 c3, .int .i64 cur, .bool set, .bool lin, .slice a4 0 c4, .int .i64 how, .bool typ]) rfl (by kernel_rfl) (by kernel_rfl) (by kernel_rfl) (fun _ _ _ h => h) (Or.inl ⟨by rfl, fun w9 h9 => by obtain ⟨x0, x1, x2, x3, x4, x5, x6⟩ := ef_cells h9.a; obtain ⟨y0, y1, y2, y3, y4, y5, y6⟩ := ef_cells h9.b; obtain ⟨z0, z1, z2, z3, z4, z5, z6⟩ := ef_cells h9.c; go_simp⟩) SV1.out ?_
      try simp only [Act.put, List.getElem_toArray, List.getElem_cons_zero, List.getElem_cons_succ, List.setIfInBounds_toArray, List.set_cons_zero, List.set_cons_succ]
      refine wpAnyH_take (i := 16) (v := .agg #[.slice a0 f0 c0, .int .i64 cur, .bool set, .bool lin, .slice b0 0 d0, .int .i64 how, .bool typ]) rfl (by kernel_rfl) (by kernel_rfl) (by kernel_rfl) (fun _ _ _ h => h) (Or.inl ⟨by rfl, fun w9 h9 => by obtain ⟨x0, x1, x2, x3, x4, x5, x6⟩ := ef_cells h9.a; obtain ⟨y0, y1, y2, y3, y4, y5, y6⟩ := ef_cells h9.b; obtain ⟨z0, z1, z2, z3, z4, z5, z6⟩ := ef_cells h9.c; go_simp⟩) SV1.out ?_
      try simp only [Act.put, List.getElem_toArray, List.getElem_cons_zero, List.getElem_cons_succ, List.setIfInBounds_toArray, List.set_cons_zero, List.set_cons_succ]
      refine wpAnyH_all (rs := [17]) (by kernel_rfl) (by simp) (AllH.cons rfl (fun K hK => ?_) AllH.nil)
      have C0 := same_yes V1 _ _ _ _ F3 Fw ⟨xes, cur, set, lin, [], how, typ⟩ (Hid.mk' (RY.out.keep BV1.out)) (Hid.mk' (RW.out.keep BV1.out)) (Nat.le_trans HES.out (by decide))
      unfold efV at C0
      dsimp only at C0
      rw [HFN3.out, HFN0.out, show ([] : List UInt8).length = 0 from rfl] at C0
      have CD := Hid.mk' C0
      clear C0
      go_simp
      refine CD.out.mono ?_
      rintro e9 V2 ⟨rfl, hbx⟩
      clear CD
      have SV2 := Hid.mk' (SV1.out.keep hbx)
      have BV2 := Hid.mk' (bT BV1.out hbx)
      clear hbx
      dsimp only
      refine hK _ _ ⟨SV2.out, ?_⟩
      clear hK K
      try simp only [Act.put, List.getElem_toArray, List.getElem_cons_zero, List.getElem_cons_succ, List.setIfInBounds_toArray, List.set_cons_zero, List.set_cons_succ]
      refine wpAnyH_take (i := 18) (v := .bool false) rfl (by kernel_rfl) (by kernel_rfl) (by kernel_rfl) (fun _ _ _ h => h) (Yields.yieldsIf (Or.inl ⟨by rfl, fun w => by go_simp⟩)) SV2.out ?_
      try simp only [Act.put, List.getElem_toArray, List.getElem_cons_zero, List.getElem_cons_succ, List.setIfInBounds_toArray, List.set_cons_zero, List.set_cons_succ]
      refine wpAnyH_take (i := 19) (v := .bool false) rfl (by kernel_rfl) (by kernel_rfl) (by kernel_rfl) (fun _ _ _ h => h) (Yields.yieldsIf (Or.inl ⟨by rfl, fun w => by go_simp⟩)) SV2.out ?_
      try simp only [Act.put, List.getElem_toArray, List.getElem_cons_zero, List.getElem_cons_succ, List.setIfInBounds_toArray, List.set_cons_zero, List.set_cons_succ]
      refine wpAnyH_take (i := 20) (v := .bool false) rfl (by kernel_rfl) (by kernel_rfl) (by kernel_rfl) (fun _ _ _ h => h) (Yields.yieldsIf (Or.inl ⟨by rfl, fun w => by go_simp⟩)) SV2.out ?_
      try simp only [Act.put, List.getElem_toArray, List.getElem_cons_zero, List.getElem_cons_succ, List.setIfInBounds_toArray, List.set_cons_zero, List.set_cons_succ]
      refine wpAnyH_take (i := 21) (v := .agg #[.slice a1 f1 c1, .int .i64 cur, .bool set, .bool lin, .slice a2 0 c2, .int .i64 how, .bool typ]) rfl (by kernel_rfl) (by kernel_rfl) (by kernel_rfl) (fun _ _ _ h => h) (Or.inl ⟨by rfl, fun w9 h9 => by obtain ⟨x0, x1, x2, x3, x4, x5, x6⟩ := ef_cells h9.a; obtain ⟨y0, y1, y2, y3, y4, y5, y6⟩ := ef_cells h9.b; obtain ⟨z0, z1, z2, z3, z4, z5, z6⟩ := ef_cells h9.c; go_simp⟩) SV2.out ?_
      try simp only [Act.put, List.getElem_toArray, List.getElem_cons_zero, List.getElem_cons_succ, List.setIfInBounds_toArray, List.set_cons_zero, List.set_cons_succ]
      refine wpAnyH_take (i := 23) (v := .agg #[.slice a3 f3 c3, .int .i64 cur, .bool set, .bool lin, .slice a4 0 c4, .int .i64 how, .bool typ]) rfl (by kernel_rfl) (by kernel_rfl) (by kernel_rfl) (fun _ _ _ h => h) (Or.inl ⟨by rfl, fun w9 h9 => by obtain ⟨x0, x1, x2, x3, x4, x5, x6⟩ := ef_cells h9.a; obtain ⟨y0, y1, y2, y3, y4, y5, y6⟩ := ef_cells h9.b; obtain ⟨z0, z1, z2, z3, z4, z5, z6⟩ := ef_cells h9.c; go_simp⟩) SV2.out ?_
      try simp only [Act.put, List.getElem_toArray, List.getElem_cons_zero, List.getElem_cons_succ, List.setIfInBounds_toArray, List.set_cons_zero, List.set_cons_succ]
      refine wpAnyH_all (rs := [22]) (by kernel_rfl) (by simp) (AllH.cons rfl (fun K hK => ?_) AllH.nil)
      have C0 := lists_any _ _ F1 ⟨xes, cur, set, lin, [], how, typ⟩ V2 (Hid.mk' (RX.out.keep BV2.out)) (by rw [HFN1.out]; exact Nat.le_trans HF1L.out (by decide))
      unfold efV at C0
      dsimp only at C0
      rw [HFN1.out, show ([] : List UInt8).length = 0 from rfl] at C0
      have CD := Hid.mk' C0
      clear C0
      go_simp
      refine CD.out.mono ?_
      rintro e9 V3 ⟨lv, rfl, hO, hbx⟩
      clear CD
      obtain ⟨lo, lc, rfl⟩ := own_shape hO
      have Ol := Hid.mk' hO
      have SV3 := Hid.mk' (SV2.out.keep hbx)
      have BV3 := Hid.mk' (bT BV2.out hbx)
      have HBl := Hid.mk' hbx.size
      clear hbx hO
      dsimp only
      refine hK _ _ ⟨SV3.out, ?_⟩
      clear hK K
      try simp only [Act.put, List.getElem_toArray, List.getElem_cons_zero, List.getElem_cons_succ, List.setIfInBounds_toArray, List.set_cons_zero, List.set_cons_succ]
      refine wpAnyH_all (rs := [24]) (by kernel_rfl) (by simp) (AllH.cons rfl (fun K hK => ?_) AllH.nil)
      have C0 := lists_any _ _ F3 ⟨xes, cur, set, lin, [], how, typ⟩ V3 (Hid.mk' (RY.out.keep BV3.out)) (by rw [HFN3.out]; exact Nat.le_trans HF3L.out (by decide))
      unfold efV at C0
      dsimp only at C0
      rw [HFN3.out, show ([] : List UInt8).length = 0 from rfl] at C0
      have CD := Hid.mk' C0
      clear C0
      go_simp
      refine CD.out.mono ?_
      rintro e9 V4 ⟨lv, rfl, hO, hbx⟩
      clear CD
      obtain ⟨mo, mc, rfl⟩ := own_shape hO
      have Om := Hid.mk' hO
      have SV4 := Hid.mk' (SV3.out.keep hbx)
      have BV4 := Hid.mk' (bT BV3.out hbx)
      have HBm := Hid.mk' hbx.size
      have Ol' := Hid.mk' (own_keep Ol.out hbx)
      clear hbx hO
      dsimp only
      refine hK _ _ ⟨SV4.out, ?_⟩
      clear hK K
      try simp only [Act.put, List.getElem_toArray, List.getElem_cons_zero, List.getElem_cons_succ, List.setIfInBounds_toArray, List.set_cons_zero, List.set_cons_succ]
      refine wpAnyH_all (rs := [25]) (by kernel_rfl) (by simp) (AllH.cons rfl (fun K hK => ?_) AllH.nil)
      have hB1 : V2.heap.size ≤ V4.heap.size := Nat.le_trans HBl.out HBm.out
      obtain ⟨v9, V5, hr, hO, hg⟩ := app_ls V2.heap.size V3.heap.size _ _ _ Ol'.out _ _ _ Om.out (by omega) (by intro u hu; rcases List.mem_cons.1 hu with rfl | hu; exact rfl; exact tes_one F3 u hu) (by have := HF1L.out; have := HF3L.out; omega) hB1
      have hbx : Below V2.heap.size V4 V5 := (Below.refl _ _).grown hg hB1 (fun k hk => (Ol'.out.lt k hk).1)
      obtain ⟨m9, hm9⟩ : ∃ m, 1 + f1 * 2 + (1 + f3 * 2) = m := ⟨_, rfl⟩
      have HM9 := Hid.mk' hm9
      rw [hm9] at hO
      obtain ⟨o9, c9, rfl⟩ := own_shape hO
      have O9 := Hid.mk' hO
      have BV5 := Hid.mk' (BV4.out.grown hg BV4.out.size (fun k hk => Nat.le_trans BV2.out.size (Ol'.out.lt k hk).1))
      have SV5 : Hid (Bx3 qx (q7 + 1) qy (ef7 (.slice a1 f1 c1) cur set lin (.slice a2 0 c2) how typ) (ef7 (.slice a0 f0 c0) cur set lin (.slice b0 0 d0) how typ) (ef7 (.slice a3 f3 c3) cur set lin (.slice a4 0 c4) how typ) V5) := SZ.out.keep BV5.out
      clear hm9 hbx hB1
      refine ow_app2 26 _ _ rfl _ _ rfl rfl hr ?_
      clear hr hO hg
      refine hK _ _ ⟨SV5.out, ?_⟩
      clear hK K
      try simp only [Act.put, List.getElem_toArray, List.getElem_cons_zero, List.getElem_cons_succ, List.setIfInBounds_toArray, List.set_cons_zero, List.set_cons_succ]
      refine wpAnyH_all (rs := [26]) (by kernel_rfl) (by simp) (AllH.cons rfl (fun K hK => ?_) AllH.nil)
      have hFS : Fars V5 wc.heap.size V5.heap.size (lis (.slice a2 0 c2) [] F1 ++ lis (.slice a4 0 c4) [] F3) := by
        have e5 := FSA.out.keep BV5.out
        exact ⟨fun k x hx => (e5.wb k x hx).wide (Nat.le_refl _) BV5.out.size, e5.far⟩
      have CD := Hid.mk' (apart_any o9 c9 m9 wc.heap.size _ V5 (by rw [List.length_append, lis_len, lis_len, HFN1.out, HFN3.out]; exact HM9.out) (by have := HM9.out; have := HF1L.out; have := HF3L.out; omega) HSM.out (Nat.le_trans BCD.out.size BV5.out.size) hFS (own_lower (by rw [List.map_append, lis_fst, lis_fst]; exact O9.out) (Nat.le_trans BCD.out.size BV2.out.size)))
      clear hFS
      go_simp
      refine CD.out.mono ?_
      rintro e9 V6 ⟨rfl, hbx, hblk⟩
      clear CD
      have SV6 : Hid (Bx3 qx (q7 + 1) qy (ef7 (.slice a1 f1 c1) cur set lin (.slice a2 0 c2) how typ) (ef7 (.slice a0 f0 c0) cur set lin (.slice b0 0 d0) how typ) (ef7 (.slice a3 f3 c3) cur set lin (.slice a4 0 c4) how typ) V6) := ⟨hblk _ _ _ (by decide) SV5.out.a, hblk _ _ _ (by decide) SV5.out.b, hblk _ _ _ (by decide) SV5.out.c⟩
      have LZ := Hid.mk' hbx
      clear hbx hblk
      dsimp only
      refine hK _ _ ⟨SV6.out, ?_⟩
      clear hK K
      try simp only [Act.put, List.getElem_toArray, List.getElem_cons_zero, List.getElem_cons_succ, List.setIfInBounds_toArray, List.set_cons_zero, List.set_cons_succ]
      refine wpAnyH_take (i := 27) (v := .bool false) rfl (by kernel_rfl) (by kernel_rfl) (by kernel_rfl) (fun _ _ _ h => h) (Yields.yieldsIf (Or.inl ⟨by rfl, fun w => by go_simp⟩)) SV6.out ?_
      try simp only [Act.put, List.getElem_toArray, List.getElem_cons_zero, List.getElem_cons_succ, List.setIfInBounds_toArray, List.set_cons_zero, List.set_cons_succ]
      refine wpAnyH_take (i := 28) (v := .bool false) rfl (by kernel_rfl) (by kernel_rfl) (by kernel_rfl) (fun _ _ _ h => h) (Yields.yieldsIf (Or.inl ⟨by rfl, fun w => by go_simp⟩)) SV6.out ?_
      try simp only [Act.put, List.getElem_toArray, List.getElem_cons_zero, List.getElem_cons_succ, List.setIfInBounds_toArray, List.set_cons_zero, List.set_cons_succ]
      refine wpAnyH_done (by kernel_rfl) ?_ _
      go_wp2
      go_roundg go
      case measure => omega
      case rel =>
        refine ⟨i + 1, by go_num, by omega, ?_⟩
        have e1 : Below wc.heap.size wc V5 := bT BCD.out BV5.out
        exact bT LL5.out (e1.trans LZ.out)
end Go.Proofs.YtppefcnopkmhbaaGreatDoor
