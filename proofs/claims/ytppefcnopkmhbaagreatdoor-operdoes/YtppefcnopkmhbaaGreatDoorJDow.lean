/- OperDoes, walked. -/
import Derived.Test.YtppefcnopkmhbaaGreatDoorPt44
import Derived.Test.YtppefcnopkmhbaaGreatDoorPt47
import Derived.Test.YtppefcnopkmhbaaGreatDoorPt40
import Derived.Test.YtppefcnopkmhbaaGreatDoorPt39
import Derived.Deep.CutBlock
namespace Go.Proofs.YtppefcnopkmhbaaGreatDoor
open Go.RowKit

set_option maxRecDepth 8000
/-- rows of different types lie in different blocks -/
theorem own_ne {W : World} {base e s n base' e' s' m : Nat} {v u : Value} {xs ys : List Value} (h : W.ownsRow base e s v n xs) (k : W.ownsRow base' e' s' u m ys) (he : e ≠ e') : ∀ g, v.ownBlock = some g → some g ≠ u.ownBlock := fun g hg hu => by
  rcases h.2 with ⟨rfl, _⟩ | ⟨g1, c1, u1, rfl, _, hg1, _⟩
  · cases hg
  · simp [Value.ownBlock] at hg
    subst hg
    rcases k.2 with ⟨rfl, _⟩ | ⟨g2, c2, u2, rfl, _, hg2, _⟩
    · simp [Value.ownBlock] at hu
    · simp [Value.ownBlock] at hu
      subst hu
      rw [hg1] at hg2
      simp at hg2
      exact he hg2.2
theorem blk_ne9 {W : World} {base e s n q e' : Nat} {u : Value} {xs : List Value} {cs : Array Value} (hK : Blk W q e' cs) (k : W.ownsRow base e s u n xs) (he : e ≠ e') : some q ≠ u.ownBlock := fun hu => by
  rcases k.2 with ⟨rfl, _⟩ | ⟨g2, c2, u2, rfl, _, hg2, _⟩
  · simp [Value.ownBlock] at hu
  · simp [Value.ownBlock] at hu
    subst hu
    unfold Blk at hK
    rw [hK] at hg2
    simp at hg2
    exact he hg2.2.symm
theorem Efm.row {W W' : World} {lo hi base n : Nat} {v tv u : Value} {F : List Er} {T : List UInt8} {xs : List Value} (h : Efm W lo hi v F tv T) (k : W.ownsRow base 22 1 u n xs) (hg : W.grownBy W' u.ownBlock) : Efm W' lo hi v F tv T :=
  ⟨⟨own_same h.eds.row (fun g h1 h2 => hg.block g h2 (own_ne h.eds.row k (by decide) g h1)), h.eds.up, fun j x hj => (h.eds.tx j x hj).off hg ((h.eds.tx j x hj).row_far k (by decide)), h.eds.far, h.eds.big⟩, h.tx.off hg (h.tx.row_far k (by decide)), h.far⟩
theorem Fars.row {W W' : World} {lo hi base n : Nat} {L : List (Value × List UInt8)} {u : Value} {xs : List Value} (h : Fars W lo hi L) (k : W.ownsRow base 22 1 u n xs) (hg : W.grownBy W' u.ownBlock) : Fars W' lo hi L :=
  ⟨fun j x hj => (h.wb j x hj).off hg ((h.wb j x hj).row_far k (by decide)), h.far⟩
theorem Fars.wide {W : World} {lo hi lo' hi' : Nat} {L : List (Value × List UInt8)} (h : Fars W lo hi L) (h1 : lo' ≤ lo) (h2 : hi ≤ hi') : Fars W lo' hi' L := ⟨fun k x hx => (h.wb k x hx).wide h1 h2, h.far⟩
theorem Fars.nil (W : World) (lo hi : Nat) : Fars W lo hi [] := ⟨fun k x hx => by simp at hx, fun i j x y _ hx => by simp at hx⟩
theorem ak_cells {W : World} {B : Nat} {a q : Int} {s : ByteArray} {fF tT : Int} {L D : Bool} (h : Blk W B 30 #[.int .i64 a, .int .i64 q, .string s, .int .i64 fF, .int .i64 tT, .bool L, .bool D]) :
    W.cell? ⟨B, 0, none⟩ = some (.int .i64 a) ∧ W.cell? ⟨B, 1, none⟩ = some (.int .i64 q) ∧ W.cell? ⟨B, 2, none⟩ = some (.string s) ∧ W.cell? ⟨B, 3, none⟩ = some (.int .i64 fF) ∧ W.cell? ⟨B, 4, none⟩ = some (.int .i64 tT) ∧ W.cell? ⟨B, 5, none⟩ = some (.bool L) ∧ W.cell? ⟨B, 6, none⟩ = some (.bool D) :=
  ⟨h.cell rfl, h.cell rfl, h.cell rfl, h.cell rfl, h.cell rfl, h.cell rfl, h.cell rfl⟩
/-- the boxes of a round: what is asked, what is wanted, what is answered twice -/
structure Bx4 (q8 q9 q10 q11 : Nat) (c8 c9 c10 c11 : Array Value) (W : World) : Prop where
  a : Blk W q8 30 c8
  c : Blk W q9 35 c9
  d : Blk W q10 35 c10
  e : Blk W q11 35 c11
theorem Bx4.keep {q8 q9 q10 q11 : Nat} {c8 c9 c10 c11 : Array Value} {W W' : World} (h : Bx4 q8 q9 q10 q11 c8 c9 c10 c11 W) (hb : Below W.heap.size W W') : Bx4 q8 q9 q10 q11 c8 c9 c10 c11 W' := ⟨h.a.keep hb, h.c.keep hb, h.d.keep hb, h.e.keep hb⟩
/-- the two boxes that the lists are read from -/
structure Bx2 (q10 q11 : Nat) (c10 c11 : Array Value) (W : World) : Prop where
  d : Blk W q10 35 c10
  e : Blk W q11 35 c11
theorem Bx2.keep {q10 q11 : Nat} {c10 c11 : Array Value} {W W' : World} (h : Bx2 q10 q11 c10 c11 W) (hb : Below W.heap.size W W') : Bx2 q10 q11 c10 c11 W' := ⟨h.d.keep hb, h.e.keep hb⟩
theorem Bx2.row {q10 q11 : Nat} {c10 c11 : Array Value} {W W' : World} {base n : Nat} {u : Value} {xs : List Value} (h : Bx2 q10 q11 c10 c11 W) (k : W.ownsRow base 22 1 u n xs) (hg : W.grownBy W' u.ownBlock) : Bx2 q10 q11 c10 c11 W' := ⟨h.d.off2 hg (blk_ne9 h.d k (by decide)), h.e.off2 hg (blk_ne9 h.e k (by decide))⟩
set_option maxHeartbeats 32000000 in
set_option linter.unusedSimpArgs false in
theorem operDoes_walk (ao : Option Addr) (n c : Nat) (l : List UInt8) (so : Option Addr) (sn sc : Nat) (K : List Ak) (W : World) (HT : Tx W ao n c l) (HS : Akz W so K) (hK : K.length = sn) (hsn : sn ≤ 140737488351232) :
    Calls Tryz.prog 3 #[.slice ao n c, .slice so sn sc] W fun e w' => e = .returned (.bool true) ∧ Below W.heap.size W w' := by
  have HK := Hid.mk' hK
  have CA := Hid.mk' (awake_any W)
  have TT0 := Hid.mk' HT
  have SS0 := Hid.mk' HS
  clear HT HS hK
  go_enter Tryz.func3, Tryz.ntmps3
  go_upto_region 3 with (first | (go_at_call 7; refine CA.out.mono ?_; rintro e w1 ⟨rfl, hb⟩) | fail)
  clear CA
  have TT := Hid.mk' (TT0.out.keep hb)
  have SS := Hid.mk' (SS0.out.keep hb)
  have BB := Hid.mk' hb
  clear TT0 SS0 hb
  by_cases hbig : (4096 : Int) < (n : Int)
  · go_wp2
    go_ret
    exact ⟨rfl, BB.out⟩
  by_cases hbig2 : (256 : Int) < (sn : Int)
  · go_wp2
    go_ret
    exact ⟨rfl, BB.out⟩
  have hn : n ≤ 4096 := by omega
  have hs : sn ≤ 256 := by omega
  go_upto_region 5 with fail
  clear hbig hbig2
  have CL := Hid.mk' (llent_any ao n c l w1 (by omega) TT)
  go_wp2_with fail
  refine CL.out.mono ?_
  rintro e w2 ⟨g, cap, rfl, hO, hb⟩
  have OO := Hid.mk' (own_lower hO (Nat.le_refl _))
  have TT2 := Hid.mk' (TT.out.keep hb)
  have SS2 := Hid.mk' (SS.out.keep hb)
  have BB2 := Hid.mk' (bT BB.out hb)
  clear TT SS hO hb CL
  go_wp2_with fail
  go_loopg [6, 29] sn (fun M x6 x29 wx => ∃ (i : Nat) (va : Value) (AL : List (Value × List UInt8)), x6 = va ∧ x29 = .int .i64 (i : Int) ∧ i + M = sn ∧ Hid (wx.ownsRow w2.heap.size 22 1 va AL.length (AL.map (·.1))) ∧ Hid (Fars wx w2.heap.size wx.heap.size AL) ∧ Hid (∀ p ∈ AL, p.2.length ≤ 4294967296) ∧ AL.length ≤ 4200000 ∧ Hid (Below w2.heap.size w2 wx))
  case atStart => exact ⟨0, _, [], rfl, rfl, by omega, World.ownsRow_nil _ _ _ _, Fars.nil _ _ _, (fun p hp => by cases hp), Nat.zero_le _, Below.refl _ _⟩
  case round =>
    obtain ⟨i, va, AL, rfl, rfl, him, OA, FA, SA, hAL, LL⟩ := hrel
    obtain ⟨al, ac, rfl⟩ := own_shape OA.out
    obtain ⟨am, ham⟩ : ∃ m, AL.length = m := ⟨_, rfl⟩
    have HAM := Hid.mk' ham
    rw [ham] at OA hAL ⊢
    clear ham
    cases gk with
    | zero =>
      have hi' : ¬ (i : Int) < (sn : Int) := by omega
      have OO2 := Hid.mk' (own_keep OO.out LL.out)
      have CW := Hid.mk' (lwhole_any g cap ao n c _ l wr (by omega) (TT2.out.keep LL.out) OO2)
      have CP := Hid.mk' (apart_any al ac am w2.heap.size AL wr HAM.out (by omega) SA.out LL.out.size FA.out OA.out)
      go_wp2_with fail
      refine CW.out.mono ?_
      rintro e w3 ⟨rfl, hw⟩
      have hq9 := hw.symm
      subst hq9
      clear hw CW OO2
      go_wp2_with fail
      refine CP.out.mono ?_
      rintro e w4 ⟨rfl, hb4, -⟩
      have L4 := Hid.mk' (LL.out.trans hb4)
      clear hb4 CP
      have CW := Hid.mk' (lwhole_any g cap ao n c _ l w4 (by omega) (TT2.out.keep L4.out) (Hid.mk' (own_keep OO.out L4.out)))
      go_wp2_with fail
      refine CW.out.mono ?_
      rintro e w5 ⟨rfl, hw⟩
      go_wp2
      go_ret
      exact ⟨rfl, bT BB2.out L4.out⟩
    | succ go =>
      have hi' : (i : Int) < (sn : Int) := by omega
      have hi0 : (0 : Int) ≤ (i : Int) := by omega
      obtain ⟨r, hr⟩ : ∃ r, K[i]? = some r := ⟨_, List.getElem?_eq_getElem (by have := HK.out; omega)⟩
      obtain ⟨gs, o, rfl, y0, y1, y2, y3, y4, y5, y6⟩ := (SS2.out.keep LL.out) i r hr
      obtain ⟨at', q, s, fF, tT, lL, lD⟩ := r
      dsimp only at y0 y1 y2 y3 y4 y5 y6
      clear hr
      obtain ⟨q8, hq8⟩ : ∃ k, wr.heap.size = k := ⟨_, rfl⟩
      obtain ⟨w3, hw3⟩ : ∃ x, wr.alloc (.cells #[.int .i64 at', .int .i64 q, .string s, .int .i64 fF, .int .i64 tT, .bool lL, .bool lD] 30) = x := ⟨_, rfl⟩
      have B3 : Hid (Below wr.heap.size wr w3) := by unfold Hid; rw [← hw3]; exact bAlloc (Below.refl _ _) _
      have K8 : Hid (Blk w3 q8 30 #[.int .i64 at', .int .i64 q, .string s, .int .i64 fF, .int .i64 tT, .bool lL, .bool lD]) := by unfold Hid; rw [← hw3, ← hq8]; exact Blk.new wr 30 _
      go_upto_region 10 with fail
      clear y0 y1 y2 y3 y4 y5 y6 hw3 hq8
      obtain ⟨s0, s1, s2, s3, s4, s5, s6⟩ := ak_cells K8.out
      have L3 := Hid.mk' (bT LL.out B3.out)
      have CR := Hid.mk' (rdo_any ao n c l at' s fF tT lL lD q w3 (TT2.out.keep L3.out) (by omega))
      have hln := TT2.out.len
      have HFB := Hid.mk' (do_fit (l := l) (by omega) at' s fF tT lL lD q)
      have CSA : Hid (∀ V, Below w3.heap.size w3 V → Calls Tryz.prog 10 #[.slice (some ⟨g, 0, none⟩) n cap, .int .i64 at', .string s, .agg #[.int .i64 fF, .int .i64 tT, .bool lL, .bool lD], .int .i64 q] V fun e w' => EfQ (doX l at' s fF tT lL lD q).1 (doX l at' s fF tT lL lD q).2 V e w') := fun V hV =>
        do_any (some ⟨g, 0, none⟩) n cap l at' s fF tT lL lD q V (lent_tx hln (by omega) (own_keep OO.out (bT L3.out hV))) (by omega)
      have htx := do_txt l at' s fF tT lL lD q
      obtain ⟨⟨⟨xes, cur, xset, xlin, txt, how, typ⟩, z⟩, hx⟩ : ∃ x, doX l at' s fF tT lL lD q = x := ⟨_, rfl⟩
      rw [hx] at htx HFB CSA CR
      dsimp only at htx CSA CR
      have HTX : Hid (txt.length ≤ 4097) := by unfold Hid; omega
      obtain ⟨tn, htn⟩ : ∃ x, txt.length = x := ⟨_, rfl⟩
      have HTN := Hid.mk' htn
      clear hx hln htx htn
      go_wp2_with fail
      refine CR.out.mono ?_
      rintro e w7 ⟨v0, F0, t0, rfl, hR0, hb0⟩
      have R0 := Hid.mk' hR0
      obtain ⟨a0, c0, rfl, h2⟩ := hR0.es
      obtain ⟨b0, d0, rfl, h4⟩ := hR0.tx
      obtain ⟨f0, hf0⟩ : ∃ f, F0.length = f := ⟨_, rfl⟩
      have HFN0 := Hid.mk' hf0
      have BC0 := Hid.mk' hb0
      unfold efV
      dsimp only
      rw [hf0, HTN.out]
      clear hR0 hb0 h2 h4 hf0
      clear CR s0 s1 s2 s3 s4 s5 s6
      obtain ⟨q9, hq9⟩ : ∃ k, w7.heap.size = k := ⟨_, rfl⟩
      obtain ⟨w8, hw8⟩ : ∃ x, w7.alloc (.cells #[.slice a0 f0 c0, .int .i64 cur, .bool xset, .bool xlin, .slice b0 tn d0, .int .i64 how, .bool typ] 35) = x := ⟨_, rfl⟩
      have Bw8 : Hid (Below w7.heap.size w7 w8) := by unfold Hid; rw [← hw8]; exact bAlloc (Below.refl _ _) _
      go_upto_region 11 with fail
      (try rw [hw8]); (try rw [hq9])
      have Kq9 : Hid (Blk w8 q9 35 (ef7 (.slice a0 f0 c0) cur xset xlin (.slice b0 tn d0) how typ)) := by unfold Hid; rw [← hw8, ← hq9]; exact Blk.new w7 35 _
      clear hw8 hq9
      have B8 := Hid.mk' (bT BC0.out Bw8.out)
      have K88 := Hid.mk' (K8.out.keep B8.out)
      obtain ⟨s0, s1, s2, s3, s4, s5, s6⟩ := ak_cells K88.out
      have CS := Hid.mk' (CSA.out w8 B8.out)
      go_wp2_with fail
      refine CS.out.mono ?_
      rintro e w9 ⟨v1, F1, t1, rfl, hF1, hM1, hb1⟩
      have hR1 := hM1.efr (x := ⟨xes, cur, xset, xlin, txt, how, typ⟩) hF1 (by have := HTX.out; dsimp only; omega)
      have EM1 := Hid.mk' hM1
      have HF1 := Hid.mk' hF1
      have R1 := Hid.mk' hR1
      obtain ⟨a1, c1, rfl, h2⟩ := hR1.es
      obtain ⟨b1, d1, rfl, h4⟩ := hR1.tx
      obtain ⟨f1, hf1⟩ : ∃ f, F1.length = f := ⟨_, rfl⟩
      have HFN1 := Hid.mk' hf1
      have BC1 := Hid.mk' hb1
      unfold efV
      dsimp only
      rw [hf1, HTN.out]
      clear hR1 hb1 h2 h4 hf1 hM1 hF1
      clear CS s0 s1 s2 s3 s4 s5 s6
      obtain ⟨q10, hq10⟩ : ∃ k, w9.heap.size = k := ⟨_, rfl⟩
      obtain ⟨w10, hw10⟩ : ∃ x, w9.alloc (.cells #[.slice a1 f1 c1, .int .i64 cur, .bool xset, .bool xlin, .slice b1 tn d1, .int .i64 how, .bool typ] 35) = x := ⟨_, rfl⟩
      have Bw10 : Hid (Below w9.heap.size w9 w10) := by unfold Hid; rw [← hw10]; exact bAlloc (Below.refl _ _) _
      go_upto_region 12 with fail
      (try rw [hw10]); (try rw [hq10])
      have Kq10 : Hid (Blk w10 q10 35 (ef7 (.slice a1 f1 c1) cur xset xlin (.slice b1 tn d1) how typ)) := by unfold Hid; rw [← hw10, ← hq10]; exact Blk.new w9 35 _
      clear hw10 hq10
      have B10 := Hid.mk' (bT B8.out (bT BC1.out Bw10.out))
      have K810 := Hid.mk' (K8.out.keep B10.out)
      obtain ⟨s0, s1, s2, s3, s4, s5, s6⟩ := ak_cells K810.out
      have CS := Hid.mk' (CSA.out w10 B10.out)
      go_wp2_with fail
      refine CS.out.mono ?_
      rintro e w11 ⟨v2, F2, t2, rfl, hF2, hM2, hb2⟩
      have hR2 := hM2.efr (x := ⟨xes, cur, xset, xlin, txt, how, typ⟩) hF2 (by have := HTX.out; dsimp only; omega)
      have EM2 := Hid.mk' hM2
      have HF2 := Hid.mk' hF2
      have R2 := Hid.mk' hR2
      obtain ⟨a2, c2, rfl, h2⟩ := hR2.es
      obtain ⟨b2, d2, rfl, h4⟩ := hR2.tx
      obtain ⟨f2, hf2⟩ : ∃ f, F2.length = f := ⟨_, rfl⟩
      have HFN2 := Hid.mk' hf2
      have BC2 := Hid.mk' hb2
      unfold efV
      dsimp only
      rw [hf2, HTN.out]
      clear hR2 hb2 h2 h4 hf2 hM2 hF2
      clear CS CSA s0 s1 s2 s3 s4 s5 s6
      obtain ⟨q11, hq11⟩ : ∃ k, w11.heap.size = k := ⟨_, rfl⟩
      obtain ⟨w12, hw12⟩ : ∃ x, w11.alloc (.cells #[.slice a2 f2 c2, .int .i64 cur, .bool xset, .bool xlin, .slice b2 tn d2, .int .i64 how, .bool typ] 35) = x := ⟨_, rfl⟩
      have Bw12 : Hid (Below w11.heap.size w11 w12) := by unfold Hid; rw [← hw12]; exact bAlloc (Below.refl _ _) _
      go_upto_region 13 with fail
      (try rw [hw12]); (try rw [hq11])
      have Kq11 : Hid (Blk w12 q11 35 (ef7 (.slice a2 f2 c2) cur xset xlin (.slice b2 tn d2) how typ)) := by unfold Hid; rw [← hw12, ← hq11]; exact Blk.new w11 35 _
      clear hw12 hq11
      have B12 := Hid.mk' (bT B10.out (bT BC2.out Bw12.out))
      have SZ : Hid (Bx4 q8 q9 q10 q11 #[.int .i64 at', .int .i64 q, .string s, .int .i64 fF, .int .i64 tT, .bool lL, .bool lD] (ef7 (.slice a0 f0 c0) cur xset xlin (.slice b0 tn d0) how typ) (ef7 (.slice a1 f1 c1) cur xset xlin (.slice b1 tn d1) how typ) (ef7 (.slice a2 f2 c2) cur xset xlin (.slice b2 tn d2) how typ) w12) := by
        unfold Hid
        exact ⟨K8.out.keep B12.out, Kq9.out.keep (bT (bT BC1.out Bw10.out) (bT BC2.out Bw12.out)), Kq10.out.keep (bT BC2.out Bw12.out), Kq11.out⟩
      have FSA : Hid (Fars w12 w8.heap.size w12.heap.size (lis (.slice b1 txt.length d1) txt F1 ++ lis (.slice b2 txt.length d2) txt F2)) := by
        unfold Hid
        have e1 := EM1.out.fs.keep (bT Bw10.out (bT BC2.out Bw12.out))
        have e3 := EM2.out.fs.keep Bw12.out
        exact ((e1.wide (Nat.le_refl _) Bw10.out.size).app e3 (bT BC1.out Bw10.out).size BC2.out.size).wide (Nat.le_refl _) Bw12.out.size
      have EMY := Hid.mk' (EM2.out.keep Bw12.out)
      have RX := Hid.mk' (R1.out.keep (bT Bw10.out (bT BC2.out Bw12.out)))
      have RY := Hid.mk' (R2.out.keep Bw12.out)
      have RW := Hid.mk' (R0.out.keep (bT Bw8.out (bT (bT BC1.out Bw10.out) (bT BC2.out Bw12.out))))
      have L12 : Hid (Below wr.heap.size wr w12) := bT B3.out B12.out
      have HW8 : Hid (wr.heap.size ≤ w8.heap.size) := (bT B3.out B8.out).size
      have HES : Hid (xes.length ≤ 1048577) := HFB.out.num
      have HNS : Hid (nsum xes ≤ 4294967296) := by have := HFB.out.sum; unfold Hid; dsimp only at this; omega
      have HOS : Hid (osum xes ≤ 4294967296) := by have := fit_osum HFB.out (by have := TT2.out.len; omega); unfold Hid; dsimp only at this; omega
      have HF1L : Hid (f1 ≤ 1048577) := by unfold Hid; rw [← HFN1.out, ← List.length_map (f := Er.d), HF1.out]; exact HES.out
      have HF2L : Hid (f2 ≤ 1048577) := by unfold Hid; rw [← HFN2.out, ← List.length_map (f := Er.d), HF2.out]; exact HES.out
      have HSM : Hid (∀ p ∈ lis (.slice b1 txt.length d1) txt F1 ++ lis (.slice b2 txt.length d2) txt F2, p.2.length ≤ 4294967296) := fun p hp => by
        rcases List.mem_append.1 hp with hp | hp
        · exact lis_small HF1.out HNS.out HOS.out (by have := HTX.out; omega) p hp
        · exact lis_small HF2.out HNS.out HOS.out (by have := HTX.out; omega) p hp
      clear HFB HNS HOS R0 R1 R2 EM1 EM2 K8 K88 K810 Kq9 Kq10 Kq11 BC0 BC1 BC2 Bw8 Bw10 Bw12 B8 B10 B12 L3 B3 HF1
      obtain ⟨x0, x1, x2, x3, x4, x5, x6⟩ := ef_cells SZ.out.d
      obtain ⟨z0, z1, z2, z3, z4, z5, z6⟩ := ef_cells SZ.out.c
      have C0 := same_yes w12 _ _ _ _ F1 F0 ⟨xes, cur, xset, xlin, txt, how, typ⟩ RX RW (Nat.le_trans HES.out (by decide))
      unfold efV at C0
      dsimp only at C0
      rw [HFN1.out, HFN0.out, HTN.out] at C0
      have CD := Hid.mk' C0
      clear C0
      go_wp2_with fail
      refine CD.out.mono ?_
      rintro e w13 ⟨rfl, hbx⟩
      clear CD x0 x1 x2 x3 x4 x5 x6 z0 z1 z2 z3 z4 z5 z6
      have SZ2 := Hid.mk' (SZ.out.keep hbx)
      have RX2 := Hid.mk' (RX.out.keep hbx)
      have RY2 := Hid.mk' (RY.out.keep hbx)
      have RW2 := Hid.mk' (RW.out.keep hbx)
      have M13 := Hid.mk' hbx
      clear SZ RX RY RW hbx
      obtain ⟨x0, x1, x2, x3, x4, x5, x6⟩ := ef_cells SZ2.out.e
      obtain ⟨z0, z1, z2, z3, z4, z5, z6⟩ := ef_cells SZ2.out.c
      dsimp only
      have C0 := same_yes w13 _ _ _ _ F2 F0 ⟨xes, cur, xset, xlin, txt, how, typ⟩ RY2 RW2 (Nat.le_trans HES.out (by decide))
      unfold efV at C0
      dsimp only at C0
      rw [HFN2.out, HFN0.out, HTN.out] at C0
      have CD := Hid.mk' C0
      clear C0
      go_wp2_with fail
      refine CD.out.mono ?_
      rintro e w14 ⟨rfl, hbx⟩
      clear CD x0 x1 x2 x3 x4 x5 x6 z0 z1 z2 z3 z4 z5 z6
      have M14 := Hid.mk' (bT M13.out hbx)
      have SY : Hid (Bx2 q10 q11 (ef7 (.slice a1 f1 c1) cur xset xlin (.slice b1 tn d1) how typ) (ef7 (.slice a2 f2 c2) cur xset xlin (.slice b2 tn d2) how typ) w14) := ⟨SZ2.out.d.keep hbx, SZ2.out.e.keep hbx⟩
      have RX3 := Hid.mk' (RX2.out.keep hbx)
      have EY3 := Hid.mk' (EMY.out.keep M14.out)
      have N14 := Hid.mk' (bT L12.out M14.out)
      have OA4 := Hid.mk' (own_keep OA.out N14.out)
      have FA4 : Hid (Fars w14 w2.heap.size w14.heap.size (AL ++ (lis (.slice b1 txt.length d1) txt F1 ++ lis (.slice b2 txt.length d2) txt F2))) := by
        unfold Hid
        have e1 := FA.out.keep N14.out
        have e2 := FSA.out.keep M14.out
        exact (e1.app (e2.wide HW8.out (Nat.le_refl _)) LL.out.size L12.out.size).wide (Nat.le_refl _) M14.out.size
      have LN := Hid.mk' (bT LL.out N14.out)
      clear SZ2 RX2 RY2 RW2 hbx M13 FSA EMY
      dsimp only
      go_upto_region 15 with fail
      by_cases h300 : (am : Int) < 300
      · go_upto_region 16 with fail
        have hdw : Below w14.heap.size w14 w14.drew := (Below.refl _ _).drew
        have SV : Hid (Bx2 q10 q11 (ef7 (.slice a1 f1 c1) cur xset xlin (.slice b1 tn d1) how typ) (ef7 (.slice a2 f2 c2) cur xset xlin (.slice b2 tn d2) how typ) w14.drew) := SY.out.keep hdw
        have RXV := Hid.mk' (RX3.out.keep hdw)
        have EYV := Hid.mk' (EY3.out.keep hdw)
        have OAV := Hid.mk' (own_keep OA4.out hdw)
        have FAV := Hid.mk' ((FA4.out.keep hdw).wide (Nat.le_refl _) hdw.size)
        have LV := Hid.mk' (bT LN.out hdw)
        clear SY RX3 EY3 OA4 FA4 LN hdw N14 M14 L12 HW8 OA FA
        refine wp_region_held (S := Bx2 q10 q11 (ef7 (.slice a1 f1 c1) cur xset xlin (.slice b1 tn d1) how typ) (ef7 (.slice a2 f2 c2) cur xset xlin (.slice b2 tn d2) how typ)) (by kernel_rfl) ?_
        change wpAnyH _ _ _ _ _ _ _ _ (World.drew _)
        generalize w14.drew = V0 at *
        refine wpAnyH_take (i := 0) (v := .slice al am ac) rfl (by kernel_rfl) (by kernel_rfl) (by kernel_rfl) (fun _ _ _ h => h) (Yields.yieldsIf (Or.inl ⟨by rfl, fun w => by go_simp⟩)) SV.out ?_
        try simp only [Act.put, List.getElem_toArray, List.getElem_cons_zero, List.getElem_cons_succ, List.setIfInBounds_toArray, List.set_cons_zero, List.set_cons_succ]
        refine wpAnyH_take (i := 1) (v := .agg #[.slice a1 f1 c1, .int .i64 cur, .bool xset, .bool xlin, .slice b1 tn d1, .int .i64 how, .bool typ]) rfl (by kernel_rfl) (by kernel_rfl) (by kernel_rfl) (fun _ _ _ h => h) (Or.inl ⟨by rfl, fun w9 h9 => by obtain ⟨x0, x1, x2, x3, x4, x5, x6⟩ := ef_cells h9.d; obtain ⟨z0, z1, z2, z3, z4, z5, z6⟩ := ef_cells h9.e; go_simp⟩) SV.out ?_
        try simp only [Act.put, List.getElem_toArray, List.getElem_cons_zero, List.getElem_cons_succ, List.setIfInBounds_toArray, List.set_cons_zero, List.set_cons_succ]
        refine wpAnyH_take (i := 4) (v := .agg #[.slice a2 f2 c2, .int .i64 cur, .bool xset, .bool xlin, .slice b2 tn d2, .int .i64 how, .bool typ]) rfl (by kernel_rfl) (by kernel_rfl) (by kernel_rfl) (fun _ _ _ h => h) (Or.inl ⟨by rfl, fun w9 h9 => by obtain ⟨x0, x1, x2, x3, x4, x5, x6⟩ := ef_cells h9.d; obtain ⟨z0, z1, z2, z3, z4, z5, z6⟩ := ef_cells h9.e; go_simp⟩) SV.out ?_
        try simp only [Act.put, List.getElem_toArray, List.getElem_cons_zero, List.getElem_cons_succ, List.setIfInBounds_toArray, List.set_cons_zero, List.set_cons_succ]
        refine wpAnyH_all (rs := [2]) (by kernel_rfl) (by simp) (AllH.cons rfl (fun K hK => ?_) AllH.nil)
        have C0 := lists_any _ _ F1 ⟨xes, cur, xset, xlin, txt, how, typ⟩ V0 RXV (by rw [HFN1.out]; exact Nat.le_trans HF1L.out (by decide))
        unfold efV at C0
        dsimp only at C0
        rw [HFN1.out, HTN.out] at C0
        have CD := Hid.mk' C0
        clear C0
        go_simp
        refine CD.out.mono ?_
        rintro e9 V1 ⟨lv, rfl, hO, hbx⟩
        clear CD
        obtain ⟨lo, lc, rfl⟩ := own_shape hO
        have Ol := Hid.mk' hO
        have SV1 := Hid.mk' (SV.out.keep hbx)
        have OAV1 := Hid.mk' (own_keep OAV.out hbx)
        have FAV1 := Hid.mk' ((FAV.out.keep hbx).wide (Nat.le_refl _) hbx.size)
        have LVV1 := Hid.mk' (bT LV.out hbx)
        have EYV1 := Hid.mk' (EYV.out.keep hbx)
        clear hbx hO
        dsimp only
        refine hK _ _ ⟨SV1.out, ?_⟩
        clear hK K
        try simp only [Act.put, List.getElem_toArray, List.getElem_cons_zero, List.getElem_cons_succ, List.setIfInBounds_toArray, List.set_cons_zero, List.set_cons_succ]
        refine wpAnyH_all (rs := [3]) (by kernel_rfl) (by simp) (AllH.cons rfl (fun K hK => ?_) AllH.nil)
        obtain ⟨v9, V2, hr, hO, hg⟩ := app_ls w2.heap.size _ _ _ _ OAV1.out _ _ _ Ol.out (by omega) (by intro u hu; rcases List.mem_cons.1 hu with rfl | hu; exact rfl; exact tes_one F1 u hu) (by have := HF1L.out; have := HF2L.out; omega) LVV1.out.size
        obtain ⟨m9, hm9⟩ : ∃ m, am + (1 + f1 * 2) = m := ⟨_, rfl⟩
        have Hm9 := Hid.mk' hm9
        rw [hm9] at hO
        obtain ⟨om9, cm9, rfl⟩ := own_shape hO
        have SV2 := Hid.mk' (SV1.out.row OAV1.out hg)
        have FAV2 := Hid.mk' ((FAV1.out.row OAV1.out hg).wide (Nat.le_refl _) hg.size)
        have LVV2 := Hid.mk' (LVV1.out.grown hg LVV1.out.size (fun g hg' => (OAV1.out.lt g hg').1))
        have EYV2 := Hid.mk' (EYV1.out.row OAV1.out hg)
        have hm9b : m9 ≤ 2098000 := by have := HF1L.out; omega
        have OAV2 := Hid.mk' hO
        clear hm9 hO
        refine ow_app2 26 _ _ rfl _ _ rfl rfl hr ?_
        clear hr hg
        refine hK _ _ ⟨SV2.out, ?_⟩
        clear hK K
        try simp only [Act.put, List.getElem_toArray, List.getElem_cons_zero, List.getElem_cons_succ, List.setIfInBounds_toArray, List.set_cons_zero, List.set_cons_succ]
        refine wpAnyH_all (rs := [5]) (by kernel_rfl) (by simp) (AllH.cons rfl (fun K hK => ?_) AllH.nil)
        have RYV := Hid.mk' ((EYV2.out).efr (x := ⟨xes, cur, xset, xlin, txt, how, typ⟩) HF2.out (by have := HTX.out; dsimp only; omega))
        have C0 := lists_any _ _ F2 ⟨xes, cur, xset, xlin, txt, how, typ⟩ V2 RYV (by rw [HFN2.out]; exact Nat.le_trans HF2L.out (by decide))
        unfold efV at C0
        dsimp only at C0
        rw [HFN2.out, HTN.out] at C0
        have CD := Hid.mk' C0
        clear C0
        go_simp
        refine CD.out.mono ?_
        rintro e9 V3 ⟨lv, rfl, hO, hbx⟩
        clear CD
        obtain ⟨mo, mc, rfl⟩ := own_shape hO
        have Om := Hid.mk' hO
        have SV3 := Hid.mk' (SV2.out.keep hbx)
        have OAV3 := Hid.mk' (own_keep OAV2.out hbx)
        have FAV3 := Hid.mk' ((FAV2.out.keep hbx).wide (Nat.le_refl _) hbx.size)
        have LVV3 := Hid.mk' (bT LVV2.out hbx)
        clear hbx hO
        dsimp only
        refine hK _ _ ⟨SV3.out, ?_⟩
        clear hK K
        try simp only [Act.put, List.getElem_toArray, List.getElem_cons_zero, List.getElem_cons_succ, List.setIfInBounds_toArray, List.set_cons_zero, List.set_cons_succ]
        refine wpAnyH_all (rs := [6]) (by kernel_rfl) (by simp) (AllH.cons rfl (fun K hK => ?_) AllH.nil)
        obtain ⟨v9, V4, hr, hO, hg⟩ := app_ls w2.heap.size _ _ _ _ OAV3.out _ _ _ Om.out (by omega) (by intro u hu; rcases List.mem_cons.1 hu with rfl | hu; exact rfl; exact tes_one F2 u hu) (by have := HF1L.out; have := HF2L.out; omega) LVV3.out.size
        obtain ⟨m8, hm9⟩ : ∃ m, m9 + (1 + f2 * 2) = m := ⟨_, rfl⟩
        have Hm8 := Hid.mk' hm9
        rw [hm9] at hO
        obtain ⟨om8, cm8, rfl⟩ := own_shape hO
        have SV4 := Hid.mk' (SV3.out.row OAV3.out hg)
        have FAV4 := Hid.mk' ((FAV3.out.row OAV3.out hg).wide (Nat.le_refl _) hg.size)
        have LVV4 := Hid.mk' (LVV3.out.grown hg LVV3.out.size (fun g hg' => (OAV3.out.lt g hg').1))
        have OAV4 := Hid.mk' hO
        clear hm9 hO
        refine ow_app2 26 _ _ rfl _ _ rfl rfl hr ?_
        clear hr hg
        refine hK _ _ ⟨SV4.out, ?_⟩
        clear hK K
        try simp only [Act.put, List.getElem_toArray, List.getElem_cons_zero, List.getElem_cons_succ, List.setIfInBounds_toArray, List.set_cons_zero, List.set_cons_succ]
        refine wpAnyH_take (i := 7) (v := .slice om8 m8 cm8) rfl (by kernel_rfl) (by kernel_rfl) (by kernel_rfl) (fun _ _ _ h => h) (Yields.yieldsIf (Or.inl ⟨by rfl, fun w => by go_simp⟩)) SV4.out ?_
        try simp only [Act.put, List.getElem_toArray, List.getElem_cons_zero, List.getElem_cons_succ, List.setIfInBounds_toArray, List.set_cons_zero, List.set_cons_succ]
        refine wpAnyH_done (by kernel_rfl) ?_ _
        have HNL : Hid ((AL ++ (lis (.slice b1 txt.length d1) txt F1 ++ lis (.slice b2 txt.length d2) txt F2)).length = m8) := by unfold Hid; rw [List.length_append, List.length_append, lis_len, lis_len, HAM.out, HFN1.out, HFN2.out, ← Hm8.out, ← Hm9.out]; omega
        have HOW : Hid (V4.ownsRow w2.heap.size 22 1 (.slice om8 m8 cm8) (AL ++ (lis (.slice b1 txt.length d1) txt F1 ++ lis (.slice b2 txt.length d2) txt F2)).length ((AL ++ (lis (.slice b1 txt.length d1) txt F1 ++ lis (.slice b2 txt.length d2) txt F2)).map (·.1))) := by
          have := OAV4.out
          unfold Hid
          rw [HNL.out, List.map_append, List.map_append, lis_fst, lis_fst, HTN.out, ← List.append_assoc]
          exact this
        have HSL : Hid (∀ p ∈ AL ++ (lis (.slice b1 txt.length d1) txt F1 ++ lis (.slice b2 txt.length d2) txt F2), p.2.length ≤ 4294967296) := fun p hp => by
          rcases List.mem_append.1 hp with hp | hp
          · exact SA.out p hp
          · exact HSM.out p hp
        go_wp2
        go_roundg go
        case measure => omega
        case rel =>
          exact ⟨i + 1, _, AL ++ (lis (.slice b1 txt.length d1) txt F1 ++ lis (.slice b2 txt.length d2) txt F2), rfl, by go_num, by omega, HOW.out, FAV4.out, HSL.out, by rw [HNL.out, ← Hm8.out]; have := HF2L.out; omega, LVV4.out⟩
      · have FA5 : Hid (Fars w14 w2.heap.size w14.heap.size AL) := (FA.out.keep N14.out).wide (Nat.le_refl _) N14.out.size
        go_wp2
        go_roundg go
        case measure => omega
        case rel =>
          refine ⟨i + 1, _, AL, rfl, by go_num, by omega, ?_, FA5.out, SA.out, by rw [HAM.out]; exact hAL, LN.out⟩
          unfold Hid
          rw [HAM.out]
          exact OA4.out
end Go.Proofs.YtppefcnopkmhbaaGreatDoor
