/- OperPuts, walked. -/
import Derived.Test.YtppefcnopkmhbaaGreatDoorPq38
import Derived.Test.YtppefcnopkmhbaaGreatDoorPq41
import Derived.Test.YtppefcnopkmhbaaGreatDoorPq35
import Derived.Deep.CutBlock
namespace Go.Proofs.YtppefcnopkmhbaaGreatDoor
open Go.RowKit

set_option maxRecDepth 8000
theorem ld_cells {W : World} {B : Nat} {a q : Int} {set lin ah : Bool} {v : Value} (h : Blk W B 48 #[.int .i64 a, .int .i64 q, .bool set, .bool lin, v, .bool ah]) :
    W.cell? ⟨B, 0, none⟩ = some (.int .i64 a) ∧ W.cell? ⟨B, 1, none⟩ = some (.int .i64 q) ∧ W.cell? ⟨B, 2, none⟩ = some (.bool set) ∧ W.cell? ⟨B, 3, none⟩ = some (.bool lin) ∧ W.cell? ⟨B, 4, none⟩ = some v ∧ W.cell? ⟨B, 5, none⟩ = some (.bool ah) :=
  ⟨h.cell rfl, h.cell rfl, h.cell rfl, h.cell rfl, h.cell rfl, h.cell rfl⟩
/-- the boxes of a round: what is asked, the register lent, what is wanted, what is answered twice -/
structure Bx5 (q7 q8 q9 q10 q11 : Nat) (c7 c8 c9 c10 c11 : Array Value) (W : World) : Prop where
  a : Blk W q7 48 c7
  b : Blk W q8 33 c8
  c : Blk W q9 35 c9
  d : Blk W q10 35 c10
  e : Blk W q11 35 c11
theorem Bx5.keep {q7 q8 q9 q10 q11 : Nat} {c7 c8 c9 c10 c11 : Array Value} {W W' : World} (h : Bx5 q7 q8 q9 q10 q11 c7 c8 c9 c10 c11 W) (hb : Below W.heap.size W W') : Bx5 q7 q8 q9 q10 q11 c7 c8 c9 c10 c11 W' := ⟨h.a.keep hb, h.b.keep hb, h.c.keep hb, h.d.keep hb, h.e.keep hb⟩
set_option maxHeartbeats 32000000 in
set_option linter.unusedSimpArgs false in
theorem operPuts_walk (ao : Option Addr) (n c : Nat) (l : List UInt8) (so : Option Addr) (sn sc : Nat) (K : List Ld) (W : World) (HT : Tx W ao n c l) (HS : Ldz W so K) (hK : K.length = sn) (hsn : sn ≤ 140737488351232) :
    Calls Tryz.prog 4 #[.slice ao n c, .slice so sn sc] W fun e w' => e = .returned (.bool true) ∧ Below W.heap.size W w' := by
  have HK := Hid.mk' hK
  have CA := Hid.mk' (awake_any W)
  have TT0 := Hid.mk' HT
  have SS0 := Hid.mk' HS
  clear HT HS hK
  go_enter Tryz.func4, Tryz.ntmps4
  go_upto_region 3 with (first | (go_at_call 7; refine CA.out.mono ?_; rintro e w1 ⟨rfl, hb⟩) | fail)
  clear CA
  have TT := Hid.mk' (TT0.out.keep hb)
  have SS := Hid.mk' (SS0.out.keep hb)
  have BB := Hid.mk' hb
  clear TT0 SS0 hb
  by_cases hbig : (16384 : Int) < (n : Int)
  · go_wp2
    go_ret
    exact ⟨rfl, BB.out⟩
  by_cases hbig2 : (64 : Int) < (sn : Int)
  · go_wp2
    go_ret
    exact ⟨rfl, BB.out⟩
  have hn : n ≤ 16384 := by omega
  have hs : sn ≤ 64 := by omega
  go_upto_region 5 with fail
  clear hbig hbig2
  have CL := Hid.mk' (llent_any ao n c l w1 (by omega) TT)
  go_wp2_with fail
  refine CL.out.mono ?_
  rintro e w2 ⟨g, cap, rfl, hO, hb⟩
  have OO := Hid.mk' (own_lower hO (Nat.le_refl _))
  have TT2 := Hid.mk' (TT.out.keep hb)
  have SS2 := Hid.mk' (SS.out.keep hb)
  have BB2 := Hid.mk' (bT BB.out hb)
  clear TT SS hO hb CL
  go_wp2_with fail
  go_loopg [29] sn (fun M x29 wx => ∃ i : Nat, x29 = .int .i64 (i : Int) ∧ i + M = sn ∧ Hid (Below w2.heap.size w2 wx))
  case atStart => exact ⟨0, rfl, by omega, Below.refl _ _⟩
  case round =>
    obtain ⟨i, rfl, him, LL⟩ := hrel
    cases gk with
    | zero =>
      have hi' : ¬ (i : Int) < (sn : Int) := by omega
      have OO2 := Hid.mk' (own_keep OO.out LL.out)
      have CW := Hid.mk' (lwhole_any g cap ao n c _ l wr (by omega) (TT2.out.keep LL.out) OO2)
      go_wp2_with fail
      refine CW.out.mono ?_
      rintro e w3 ⟨rfl, hw⟩
      go_wp2
      go_ret
      exact ⟨rfl, bT BB2.out LL.out⟩
    | succ go =>
      have hi' : (i : Int) < (sn : Int) := by omega
      have hi0 : (0 : Int) ≤ (i : Int) := by omega
      obtain ⟨r, hr⟩ : ∃ r, K[i]? = some r := ⟨_, List.getElem?_eq_getElem (by have := HK.out; omega)⟩
      obtain ⟨⟨gs, o, rfl, y0, y1, y2, y3, y4, y5⟩, hTX, hxb⟩ := (SS2.out.keep LL.out) i r hr
      obtain ⟨at', q, set, lin, xp, xn, xc, X, ah⟩ := r
      dsimp only at y0 y1 y2 y3 y4 y5 hTX hxb
      have TX := Hid.mk' hTX
      clear hr hTX
      go_upto_region 9 with fail
      clear y0 y1 y2 y3 y4 y5
      obtain ⟨q7, hq7⟩ : ∃ k, wr.heap.size = k := ⟨_, rfl⟩
      obtain ⟨w3, hw3⟩ : ∃ x, wr.alloc (.cells #[.int .i64 at', .int .i64 q, .bool set, .bool lin, .slice xp xn xc, .bool ah] 48) = x := ⟨_, rfl⟩
      have B3 : Hid (Below wr.heap.size wr w3) := by unfold Hid; rw [← hw3]; exact bAlloc (Below.refl _ _) _
      have K7 : Hid (Blk w3 q7 48 #[.int .i64 at', .int .i64 q, .bool set, .bool lin, .slice xp xn xc, .bool ah]) := by unfold Hid; rw [← hw3, ← hq7]; exact Blk.new wr 48 _
      have HQ7 := Hid.mk' hq7
      rw [hw3, hq7]
      clear hw3 hq7
      obtain ⟨s0, s1, s2, s3, s4, s5⟩ := ld_cells K7.out
      by_cases hxl : (131072 : Int) < (xn : Int)
      · go_wp2
        go_ret
        exact ⟨rfl, bT BB2.out (bT LL.out B3.out)⟩
      have hxn : xn ≤ 131072 := by omega
      go_upto_region 12 with fail
      clear hxl
      obtain ⟨q8, hq8⟩ : ∃ k, w3.heap.size = k := ⟨_, rfl⟩
      obtain ⟨w4, hw4⟩ : ∃ x, w3.alloc (.cells #[.bool set, .bool lin, .slice xp xn xc] 33) = x := ⟨_, rfl⟩
      have B4 : Hid (Below w3.heap.size w3 w4) := by unfold Hid; rw [← hw4]; exact bAlloc (Below.refl _ _) _
      have K8 : Hid (Blk w4 q8 33 (rrC set lin (.slice xp xn xc))) := by unfold Hid; rw [← hw4, ← hq8]; exact Blk.new w3 33 _
      have HQ8 := Hid.mk' hq8
      have HQ78 : Hid (q7 < q8) := by unfold Hid; rw [← hq8]; exact K7.out.lt
      rw [hw4, hq8]
      clear hw4 hq8 s0 s1 s2 s3 s4 s5
      have K74 := Hid.mk' (K7.out.keep B4.out)
      obtain ⟨s0, s1, s2, s3, s4, s5⟩ := ld_cells K74.out
      have TX4 := Hid.mk' (TX.out.keep (bT B3.out B4.out))
      have CX := Hid.mk' (llent_any xp xn xc X w4 hxb TX4)
      go_wp2_with fail
      refine CX.out.mono ?_
      rintro e w5 ⟨gx, cx, rfl, hOx, hb5⟩
      have OX := Hid.mk' hOx
      have B5 := Hid.mk' hb5
      have K75 := Hid.mk' (K74.out.keep hb5)
      have K85 := Hid.mk' (K8.out.keep hb5)
      clear CX hOx hb5 s0 s1 s2 s3 s4 s5 K74 K8 K7
      dsimp only
      have fz8 := K85.out.frozen 2
      have fc8 : w5.cell? ⟨q8, 2, none⟩ = some (.slice xp xn xc) := K85.out.cell rfl
      go_upto_region 13 with fail
      have hg8 := grown_set w5 q8 2 (.slice (some ⟨gx, 0, none⟩) xn cx)
      have K86 : Hid (Blk (w5.setCell ⟨q8, 2, none⟩ (.slice (some ⟨gx, 0, none⟩) xn cx)) q8 33 (rrC set lin (.slice (some ⟨gx, 0, none⟩) xn cx))) := by
        have := K85.out.set (j := 2) (.slice (some ⟨gx, 0, none⟩) xn cx)
        unfold Hid
        simpa [rrC] using this
      have OX6 := Hid.mk' (own_offt OX.out K85.out (by decide) hg8)
      have K76 := Hid.mk' (K75.out.off2 hg8 (fun e => by injection e with e; have := HQ78.out; omega))
      have B6 : Hid (Below wr.heap.size wr (w5.setCell ⟨q8, 2, none⟩ (.slice (some ⟨gx, 0, none⟩) xn cx))) := (bT B3.out (bT B4.out B5.out)).grown hg8 (bT B3.out (bT B4.out B5.out)).size (fun g hg => by injection hg with hg; rw [← hg, ← HQ8.out]; exact B3.out.size)
      generalize w5.setCell ⟨q8, 2, none⟩ (.slice (some ⟨gx, 0, none⟩) xn cx) = w6 at *
      clear hg8 fz8 fc8 K75 K85 OX TX4
      obtain ⟨s0, s1, s2, s3, s4, s5⟩ := ld_cells K76.out
      have TX6 := Hid.mk' (TX.out.keep B6.out)
      have L6 := Hid.mk' (bT LL.out B6.out)
      have CR := Hid.mk' (rput_any ao n c l at' q set lin xp xn xc X ah w6 (TT2.out.keep L6.out) TX6 (by omega) (by omega))
      have HFB := Hid.mk' (put_fit (l := l) at' q set lin X ah)
      have hxl := TX.out.len
      have hln := TT2.out.len
      have CSA : Hid (∀ V, Below w6.heap.size w6 V → Calls Tryz.prog 16 #[.slice (some ⟨g, 0, none⟩) n cap, .int .i64 at', .int .i64 q, .agg #[.bool set, .bool lin, .slice (some ⟨gx, 0, none⟩) xn cx], .bool ah] V fun e w' => EfQ (ptX l at' q set lin X ah).1 (ptX l at' q set lin X ah).2 V e w') := fun V hV =>
        put_any (some ⟨g, 0, none⟩) n cap l at' q set lin (some ⟨gx, 0, none⟩) xn cx X ah V (lent_tx hln (by omega) (own_keep OO.out (bT L6.out hV))) (lent_tx hxl (by omega) (own_keep OX6.out hV)) (by omega) (by omega)
      have htx := put_txt l at' q set lin X ah
      obtain ⟨⟨⟨xes, cur, xset, xlin, txt, how, typ⟩, z⟩, hx⟩ : ∃ x, ptX l at' q set lin X ah = x := ⟨_, rfl⟩
      rw [hx] at htx HFB CSA CR
      dsimp only at htx CSA CR
      subst htx
      clear hx hxl hln
      go_wp2_with fail
      refine CR.out.mono ?_
      rintro e w7 ⟨v0, F0, t0, rfl, hR0, hb0⟩
      have R0 := Hid.mk' hR0
      obtain ⟨a0, c0, rfl, h2⟩ := hR0.es
      obtain ⟨b0, d0, rfl, h4⟩ := hR0.tx
      obtain ⟨f0, hf0⟩ : ∃ f, F0.length = f := ⟨_, rfl⟩
      have HFN0 := Hid.mk' hf0
      have BC0 := Hid.mk' hb0
      unfold efV
      dsimp only
      rw [hf0]
      rw [show ([] : List UInt8).length = 0 from rfl]
      clear hR0 hb0 h2 h4 hf0
      clear CR s0 s1 s2 s3 s4 s5
      obtain ⟨q9, hq9⟩ : ∃ k, w7.heap.size = k := ⟨_, rfl⟩
      obtain ⟨w8, hw8⟩ : ∃ x, w7.alloc (.cells #[.slice a0 f0 c0, .int .i64 cur, .bool xset, .bool xlin, .slice b0 0 d0, .int .i64 how, .bool typ] 35) = x := ⟨_, rfl⟩
      have Bw8 : Hid (Below w7.heap.size w7 w8) := by unfold Hid; rw [← hw8]; exact bAlloc (Below.refl _ _) _
      go_upto_region 14 with fail
      (try rw [hw8]); (try rw [hq9])
      have Kq9 : Hid (Blk w8 q9 35 (ef7 (.slice a0 f0 c0) cur xset xlin (.slice b0 0 d0) how typ)) := by unfold Hid; rw [← hw8, ← hq9]; exact Blk.new w7 35 _
      clear hw8 hq9
      have B8 := Hid.mk' (bT BC0.out Bw8.out)
      have K78 := Hid.mk' (K76.out.keep B8.out)
      have K88 := Hid.mk' (K86.out.keep B8.out)
      obtain ⟨s0, s1, s2, s3, s4, s5⟩ := ld_cells K78.out
      obtain ⟨r0, r1, r2⟩ := rrC_cells K88.out
      have CS := Hid.mk' (CSA.out w8 B8.out)
      go_wp2_with fail
      refine CS.out.mono ?_
      rintro e w9 ⟨v1, F1, t1, rfl, hF1, hM1, hb1⟩
      have hR1 := hM1.efr (x := ⟨xes, cur, xset, xlin, [], how, typ⟩) hF1 (Nat.zero_le _)
      have FS1 := Hid.mk' hM1.fs
      have HF1 := Hid.mk' hF1
      have R1 := Hid.mk' hR1
      obtain ⟨a1, c1, rfl, h2⟩ := hR1.es
      obtain ⟨b1, d1, rfl, h4⟩ := hR1.tx
      obtain ⟨f1, hf1⟩ : ∃ f, F1.length = f := ⟨_, rfl⟩
      have HFN1 := Hid.mk' hf1
      have BC1 := Hid.mk' hb1
      unfold efV
      dsimp only
      rw [hf1]
      rw [show ([] : List UInt8).length = 0 from rfl]
      clear hR1 hb1 h2 h4 hf1 hM1 hF1
      clear CS s0 s1 s2 s3 s4 s5 r0 r1 r2
      obtain ⟨q10, hq10⟩ : ∃ k, w9.heap.size = k := ⟨_, rfl⟩
      obtain ⟨w10, hw10⟩ : ∃ x, w9.alloc (.cells #[.slice a1 f1 c1, .int .i64 cur, .bool xset, .bool xlin, .slice b1 0 d1, .int .i64 how, .bool typ] 35) = x := ⟨_, rfl⟩
      have Bw10 : Hid (Below w9.heap.size w9 w10) := by unfold Hid; rw [← hw10]; exact bAlloc (Below.refl _ _) _
      go_upto_region 15 with fail
      (try rw [hw10]); (try rw [hq10])
      have Kq10 : Hid (Blk w10 q10 35 (ef7 (.slice a1 f1 c1) cur xset xlin (.slice b1 0 d1) how typ)) := by unfold Hid; rw [← hw10, ← hq10]; exact Blk.new w9 35 _
      clear hw10 hq10
      have B10 := Hid.mk' (bT B8.out (bT BC1.out Bw10.out))
      have K710 := Hid.mk' (K76.out.keep B10.out)
      have K810 := Hid.mk' (K86.out.keep B10.out)
      obtain ⟨s0, s1, s2, s3, s4, s5⟩ := ld_cells K710.out
      obtain ⟨r0, r1, r2⟩ := rrC_cells K810.out
      have CS := Hid.mk' (CSA.out w10 B10.out)
      go_wp2_with fail
      refine CS.out.mono ?_
      rintro e w11 ⟨v2, F2, t2, rfl, hF2, hM2, hb2⟩
      have hR2 := hM2.efr (x := ⟨xes, cur, xset, xlin, [], how, typ⟩) hF2 (Nat.zero_le _)
      have FS2 := Hid.mk' hM2.fs
      have HF2 := Hid.mk' hF2
      have R2 := Hid.mk' hR2
      obtain ⟨a2, c2, rfl, h2⟩ := hR2.es
      obtain ⟨b2, d2, rfl, h4⟩ := hR2.tx
      obtain ⟨f2, hf2⟩ : ∃ f, F2.length = f := ⟨_, rfl⟩
      have HFN2 := Hid.mk' hf2
      have BC2 := Hid.mk' hb2
      unfold efV
      dsimp only
      rw [hf2]
      rw [show ([] : List UInt8).length = 0 from rfl]
      clear hR2 hb2 h2 h4 hf2 hM2 hF2
      clear CS CSA s0 s1 s2 s3 s4 s5 r0 r1 r2
      obtain ⟨q11, hq11⟩ : ∃ k, w11.heap.size = k := ⟨_, rfl⟩
      obtain ⟨w12, hw12⟩ : ∃ x, w11.alloc (.cells #[.slice a2 f2 c2, .int .i64 cur, .bool xset, .bool xlin, .slice b2 0 d2, .int .i64 how, .bool typ] 35) = x := ⟨_, rfl⟩
      have Bw12 : Hid (Below w11.heap.size w11 w12) := by unfold Hid; rw [← hw12]; exact bAlloc (Below.refl _ _) _
      go_upto_region 16 with fail
      (try rw [hw12]); (try rw [hq11])
      have Kq11 : Hid (Blk w12 q11 35 (ef7 (.slice a2 f2 c2) cur xset xlin (.slice b2 0 d2) how typ)) := by unfold Hid; rw [← hw12, ← hq11]; exact Blk.new w11 35 _
      clear hw12 hq11
      have B12 := Hid.mk' (bT B10.out (bT BC2.out Bw12.out))
      have SZ : Hid (Bx5 q7 q8 q9 q10 q11 #[.int .i64 at', .int .i64 q, .bool set, .bool lin, .slice xp xn xc, .bool ah] (rrC set lin (.slice (some ⟨gx, 0, none⟩) xn cx)) (ef7 (.slice a0 f0 c0) cur xset xlin (.slice b0 0 d0) how typ) (ef7 (.slice a1 f1 c1) cur xset xlin (.slice b1 0 d1) how typ) (ef7 (.slice a2 f2 c2) cur xset xlin (.slice b2 0 d2) how typ) w12) := by
        unfold Hid
        exact ⟨K76.out.keep B12.out, K86.out.keep B12.out, Kq9.out.keep (bT (bT BC1.out Bw10.out) (bT BC2.out Bw12.out)), Kq10.out.keep (bT BC2.out Bw12.out), Kq11.out⟩
      have FSA : Hid (Fars w12 w8.heap.size w12.heap.size (lis (.slice b1 0 d1) [] F1 ++ lis (.slice b2 0 d2) [] F2)) := by
        unfold Hid
        have e1 := FS1.out.keep (bT Bw10.out (bT BC2.out Bw12.out))
        have e3 := FS2.out.keep Bw12.out
        have e2 : Fars w12 w8.heap.size w10.heap.size (lis (.slice b1 0 d1) [] F1) := ⟨fun k x hx => (e1.wb k x hx).wide (Nat.le_refl _) Bw10.out.size, e1.far⟩
        have e4 := e2.app e3 (bT BC1.out Bw10.out).size BC2.out.size
        exact ⟨fun k x hx => (e4.wb k x hx).wide (Nat.le_refl _) Bw12.out.size, e4.far⟩
      have RX := Hid.mk' (R1.out.keep (bT Bw10.out (bT BC2.out Bw12.out)))
      have RY := Hid.mk' (R2.out.keep Bw12.out)
      have RW := Hid.mk' (R0.out.keep (bT Bw8.out (bT (bT BC1.out Bw10.out) (bT BC2.out Bw12.out))))
      have L12 : Hid (Below w8.heap.size w8 w12) := bT (bT BC1.out Bw10.out) (bT BC2.out Bw12.out)
      have HES : Hid (xes.length ≤ 1048577) := HFB.out.num
      have HNS : Hid (nsum xes ≤ 4294967296) := by have := HFB.out.sum; unfold Hid; dsimp only at this; omega
      have HOS : Hid (osum xes ≤ 4294967296) := by have := fit_osum HFB.out (by have := TT2.out.len; omega); unfold Hid; dsimp only at this; omega
      have HF1L : Hid (f1 ≤ 1048577) := by unfold Hid; rw [← HFN1.out, ← List.length_map (f := Er.d), HF1.out]; exact HES.out
      have HF2L : Hid (f2 ≤ 1048577) := by unfold Hid; rw [← HFN2.out, ← List.length_map (f := Er.d), HF2.out]; exact HES.out
      have HSM : Hid (∀ p ∈ lis (.slice b1 0 d1) [] F1 ++ lis (.slice b2 0 d2) [] F2, p.2.length ≤ 4294967296) := fun p hp => by
        rcases List.mem_append.1 hp with hp | hp
        · exact lis_small HF1.out HNS.out HOS.out (Nat.zero_le _) p hp
        · exact lis_small HF2.out HNS.out HOS.out (Nat.zero_le _) p hp
      have OX8 := Hid.mk' (own_keep OX6.out B8.out)
      have TX8 := Hid.mk' (TX6.out.keep B8.out)
      have L8 := Hid.mk' (bT L6.out B8.out)
      clear FS1 FS2 HFB HNS HOS R0 R1 R2 K76 K86 K78 K88 K710 K810 Kq9 Kq10 Kq11 BC0 BC1 BC2 Bw8 Bw10 Bw12 B3 B4 B5 B6 B8 B10 B12 HQ7 HQ8 HF1 HF2 OX6 TX6 TX L6
      obtain ⟨x0, x1, x2, x3, x4, x5, x6⟩ := ef_cells SZ.out.d
      obtain ⟨y0, y1, y2, y3, y4, y5, y6⟩ := ef_cells SZ.out.c
      have C0 := same_yes w12 _ _ _ _ F1 F0 ⟨xes, cur, xset, xlin, [], how, typ⟩ RX RW (Nat.le_trans HES.out (by decide))
      unfold efV at C0
      dsimp only at C0
      rw [HFN1.out, HFN0.out, show ([] : List UInt8).length = 0 from rfl] at C0
      have CD := Hid.mk' C0
      clear C0
      go_wp2_with fail
      refine CD.out.mono ?_
      rintro e w13 ⟨rfl, hbx⟩
      clear CD x0 x1 x2 x3 x4 x5 x6 y0 y1 y2 y3 y4 y5 y6
      have SZ2 := Hid.mk' (SZ.out.keep hbx)
      have RX2 := Hid.mk' (RX.out.keep hbx)
      have RY2 := Hid.mk' (RY.out.keep hbx)
      have RW2 := Hid.mk' (RW.out.keep hbx)
      have FSB := Hid.mk' (FSA.out.keep hbx)
      have M13 := Hid.mk' hbx
      clear SZ RX RY RW hbx
      obtain ⟨x0, x1, x2, x3, x4, x5, x6⟩ := ef_cells SZ2.out.e
      obtain ⟨y0, y1, y2, y3, y4, y5, y6⟩ := ef_cells SZ2.out.c
      dsimp only
      have C0 := same_yes w13 _ _ _ _ F2 F0 ⟨xes, cur, xset, xlin, [], how, typ⟩ RY2 RW2 (Nat.le_trans HES.out (by decide))
      unfold efV at C0
      dsimp only at C0
      rw [HFN2.out, HFN0.out, show ([] : List UInt8).length = 0 from rfl] at C0
      have CD := Hid.mk' C0
      clear C0
      go_wp2_with fail
      refine CD.out.mono ?_
      rintro e w14 ⟨rfl, hbx⟩
      clear CD x0 x1 x2 x3 x4 x5 x6 y0 y1 y2 y3 y4 y5 y6
      have SZ3 := Hid.mk' (SZ2.out.keep hbx)
      have RX3 := Hid.mk' (RX2.out.keep hbx)
      have RY3 := Hid.mk' (RY2.out.keep hbx)
      have M14 := Hid.mk' (bT M13.out hbx)
      clear SZ2 RX2 RY2 RW2 hbx FSB M13
      obtain ⟨r0, r1, r2⟩ := rrC_cells SZ3.out.b
      obtain ⟨s0, s1, s2, s3, s4, s5⟩ := ld_cells SZ3.out.a
      have CW := Hid.mk' (lwhole_any gx cx xp xn xc _ X w14 (by omega) (TX8.out.keep (bT L12.out M14.out)) (Hid.mk' (own_keep OX8.out (bT L12.out M14.out))))
      dsimp only
      go_wp2_with fail
      refine CW.out.mono ?_
      rintro e w15 ⟨rfl, hw⟩
      clear CW r0 r1 r2 s0 s1 s2 s3 s4 s5
      have hq9 := hw.symm
      subst hq9
      clear hw
      dsimp only
      go_upto_region 18 with fail
      have hdw : Below w14.heap.size w14 w14.drew := (Below.refl _ _).drew
      have SZ : Hid (Bx5 q7 q8 q9 q10 q11 #[.int .i64 at', .int .i64 q, .bool set, .bool lin, .slice xp xn xc, .bool ah] (rrC set lin (.slice (some ⟨gx, 0, none⟩) xn cx)) (ef7 (.slice a0 f0 c0) cur xset xlin (.slice b0 0 d0) how typ) (ef7 (.slice a1 f1 c1) cur xset xlin (.slice b1 0 d1) how typ) (ef7 (.slice a2 f2 c2) cur xset xlin (.slice b2 0 d2) how typ) w14.drew) := SZ3.out.keep hdw
      have FSV : Hid (Fars w14.drew w8.heap.size w14.drew.heap.size (lis (.slice b1 0 d1) [] F1 ++ lis (.slice b2 0 d2) [] F2)) := by
        unfold Hid
        have e5 := FSA.out.keep (bT M14.out hdw)
        exact ⟨fun k x hx => (e5.wb k x hx).wide (Nat.le_refl _) (Nat.le_trans M14.out.size hdw.size), e5.far⟩
      have RXV := Hid.mk' (RX3.out.keep hdw)
      have RYV := Hid.mk' (RY3.out.keep hdw)
      have BCD := Hid.mk' (bT L12.out (bT M14.out hdw))
      clear SZ3 RX3 RY3 FSA hdw M14 L12
      refine wp_region_held (S := Bx5 q7 q8 q9 q10 q11 #[.int .i64 at', .int .i64 q, .bool set, .bool lin, .slice xp xn xc, .bool ah] (rrC set lin (.slice (some ⟨gx, 0, none⟩) xn cx)) (ef7 (.slice a0 f0 c0) cur xset xlin (.slice b0 0 d0) how typ) (ef7 (.slice a1 f1 c1) cur xset xlin (.slice b1 0 d1) how typ) (ef7 (.slice a2 f2 c2) cur xset xlin (.slice b2 0 d2) how typ)) (by kernel_rfl) ?_
      change wpAnyH _ _ _ _ _ _ _ _ (World.drew _)
      generalize w14.drew = V0 at *
      refine wpAnyH_take (i := 0) (v := .agg #[.slice a1 f1 c1, .int .i64 cur, .bool xset, .bool xlin, .slice b1 0 d1, .int .i64 how, .bool typ]) rfl (by kernel_rfl) (by kernel_rfl) (by kernel_rfl) (fun _ _ _ h => h) (Or.inl ⟨by rfl, fun w9 h9 => by obtain ⟨x0, x1, x2, x3, x4, x5, x6⟩ := ef_cells h9.d; obtain ⟨z0, z1, z2, z3, z4, z5, z6⟩ := ef_cells h9.e; obtain ⟨r0, r1, r2⟩ := rrC_cells h9.b; obtain ⟨s0, s1, s2, s3, s4, s5⟩ := ld_cells h9.a; go_simp⟩) SZ.out ?_
      try simp only [Act.put, List.getElem_toArray, List.getElem_cons_zero, List.getElem_cons_succ, List.setIfInBounds_toArray, List.set_cons_zero, List.set_cons_succ]
      refine wpAnyH_take (i := 2) (v := .agg #[.slice a2 f2 c2, .int .i64 cur, .bool xset, .bool xlin, .slice b2 0 d2, .int .i64 how, .bool typ]) rfl (by kernel_rfl) (by kernel_rfl) (by kernel_rfl) (fun _ _ _ h => h) (Or.inl ⟨by rfl, fun w9 h9 => by obtain ⟨x0, x1, x2, x3, x4, x5, x6⟩ := ef_cells h9.d; obtain ⟨z0, z1, z2, z3, z4, z5, z6⟩ := ef_cells h9.e; obtain ⟨r0, r1, r2⟩ := rrC_cells h9.b; obtain ⟨s0, s1, s2, s3, s4, s5⟩ := ld_cells h9.a; go_simp⟩) SZ.out ?_
      try simp only [Act.put, List.getElem_toArray, List.getElem_cons_zero, List.getElem_cons_succ, List.setIfInBounds_toArray, List.set_cons_zero, List.set_cons_succ]
      refine wpAnyH_all (rs := [1]) (by kernel_rfl) (by simp) (AllH.cons rfl (fun K hK => ?_) AllH.nil)
      have C0 := lists_any _ _ F1 ⟨xes, cur, xset, xlin, [], how, typ⟩ V0 (Hid.mk' (RXV.out.keep (Below.refl V0.heap.size V0))) (by rw [HFN1.out]; exact Nat.le_trans HF1L.out (by decide))
      unfold efV at C0
      dsimp only at C0
      rw [HFN1.out, show ([] : List UInt8).length = 0 from rfl] at C0
      have CD := Hid.mk' C0
      clear C0
      go_simp
      refine CD.out.mono ?_
      rintro e9 V1 ⟨lv, rfl, hO, hbx⟩
      clear CD
      obtain ⟨lo, lc, rfl⟩ := own_shape hO
      have Ol := Hid.mk' hO
      have SV1 := Hid.mk' (SZ.out.keep hbx)
      have BV1 := Hid.mk' (bT (Below.refl V0.heap.size V0) hbx)
      have HBl := Hid.mk' hbx.size
      clear hbx hO
      dsimp only
      refine hK _ _ ⟨SV1.out, ?_⟩
      clear hK K
      try simp only [Act.put, List.getElem_toArray, List.getElem_cons_zero, List.getElem_cons_succ, List.setIfInBounds_toArray, List.set_cons_zero, List.set_cons_succ]
      refine wpAnyH_all (rs := [3]) (by kernel_rfl) (by simp) (AllH.cons rfl (fun K hK => ?_) AllH.nil)
      have C0 := lists_any _ _ F2 ⟨xes, cur, xset, xlin, [], how, typ⟩ V1 (Hid.mk' (RYV.out.keep BV1.out)) (by rw [HFN2.out]; exact Nat.le_trans HF2L.out (by decide))
      unfold efV at C0
      dsimp only at C0
      rw [HFN2.out, show ([] : List UInt8).length = 0 from rfl] at C0
      have CD := Hid.mk' C0
      clear C0
      go_simp
      refine CD.out.mono ?_
      rintro e9 V2 ⟨lv, rfl, hO, hbx⟩
      clear CD
      obtain ⟨mo, mc, rfl⟩ := own_shape hO
      have Om := Hid.mk' hO
      have SV2 := Hid.mk' (SV1.out.keep hbx)
      have BV2 := Hid.mk' (bT BV1.out hbx)
      have HBm := Hid.mk' hbx.size
      have Ol' := Hid.mk' (own_keep Ol.out hbx)
      clear hbx hO
      dsimp only
      refine hK _ _ ⟨SV2.out, ?_⟩
      clear hK K
      try simp only [Act.put, List.getElem_toArray, List.getElem_cons_zero, List.getElem_cons_succ, List.setIfInBounds_toArray, List.set_cons_zero, List.set_cons_succ]
      refine wpAnyH_all (rs := [4]) (by kernel_rfl) (by simp) (AllH.cons rfl (fun K hK => ?_) AllH.nil)
      have hB1 : V0.heap.size ≤ V2.heap.size := Nat.le_trans HBl.out HBm.out
      obtain ⟨v9, V3, hr, hO, hg⟩ := app_ls V0.heap.size V1.heap.size _ _ _ Ol'.out _ _ _ Om.out (by omega) (by intro u hu; rcases List.mem_cons.1 hu with rfl | hu; exact rfl; exact tes_one F2 u hu) (by have := HF1L.out; have := HF2L.out; omega) hB1
      have hbx : Below V0.heap.size V2 V3 := (Below.refl _ _).grown hg hB1 (fun k hk => (Ol'.out.lt k hk).1)
      obtain ⟨m9, hm9⟩ : ∃ m, 1 + f1 * 2 + (1 + f2 * 2) = m := ⟨_, rfl⟩
      have HM9 := Hid.mk' hm9
      rw [hm9] at hO
      obtain ⟨o9, c9, rfl⟩ := own_shape hO
      have O9 := Hid.mk' hO
      have BV3 := Hid.mk' (BV2.out.grown hg BV2.out.size (fun k hk => (Ol'.out.lt k hk).1))
      have SV3 : Hid (Bx5 q7 q8 q9 q10 q11 #[.int .i64 at', .int .i64 q, .bool set, .bool lin, .slice xp xn xc, .bool ah] (rrC set lin (.slice (some ⟨gx, 0, none⟩) xn cx)) (ef7 (.slice a0 f0 c0) cur xset xlin (.slice b0 0 d0) how typ) (ef7 (.slice a1 f1 c1) cur xset xlin (.slice b1 0 d1) how typ) (ef7 (.slice a2 f2 c2) cur xset xlin (.slice b2 0 d2) how typ) V3) := SZ.out.keep BV3.out
      clear hm9 hbx hB1
      refine ow_app2 26 _ _ rfl _ _ rfl rfl hr ?_
      clear hr hO hg
      refine hK _ _ ⟨SV3.out, ?_⟩
      clear hK K
      try simp only [Act.put, List.getElem_toArray, List.getElem_cons_zero, List.getElem_cons_succ, List.setIfInBounds_toArray, List.set_cons_zero, List.set_cons_succ]
      refine wpAnyH_all (rs := [5]) (by kernel_rfl) (by simp) (AllH.cons rfl (fun K hK => ?_) AllH.nil)
      have hFS : Fars V3 w8.heap.size V3.heap.size (lis (.slice b1 0 d1) [] F1 ++ lis (.slice b2 0 d2) [] F2) := by
        have e5 := FSV.out.keep BV3.out
        exact ⟨fun k x hx => (e5.wb k x hx).wide (Nat.le_refl _) BV3.out.size, e5.far⟩
      have CD := Hid.mk' (apart_any o9 c9 m9 w8.heap.size _ V3 (by rw [List.length_append, lis_len, lis_len, HFN1.out, HFN2.out]; exact HM9.out) (by have := HM9.out; have := HF1L.out; have := HF2L.out; omega) HSM.out (Nat.le_trans BCD.out.size BV3.out.size) hFS (own_lower (by rw [List.map_append, lis_fst, lis_fst]; exact O9.out) (Nat.le_trans BCD.out.size (Nat.le_refl _))))
      clear hFS
      go_simp
      refine CD.out.mono ?_
      rintro e9 V4 ⟨rfl, hbx, hblk⟩
      clear CD
      have SV4 : Hid (Bx5 q7 q8 q9 q10 q11 #[.int .i64 at', .int .i64 q, .bool set, .bool lin, .slice xp xn xc, .bool ah] (rrC set lin (.slice (some ⟨gx, 0, none⟩) xn cx)) (ef7 (.slice a0 f0 c0) cur xset xlin (.slice b0 0 d0) how typ) (ef7 (.slice a1 f1 c1) cur xset xlin (.slice b1 0 d1) how typ) (ef7 (.slice a2 f2 c2) cur xset xlin (.slice b2 0 d2) how typ) V4) := ⟨hblk _ _ _ (by decide) SV3.out.a, hblk _ _ _ (by decide) SV3.out.b, hblk _ _ _ (by decide) SV3.out.c, hblk _ _ _ (by decide) SV3.out.d, hblk _ _ _ (by decide) SV3.out.e⟩
      have LZ : Hid (Below w8.heap.size w8 V4) := (bT BCD.out BV3.out).trans hbx
      clear hbx hblk
      dsimp only
      refine hK _ _ ⟨SV4.out, ?_⟩
      clear hK K
      try simp only [Act.put, List.getElem_toArray, List.getElem_cons_zero, List.getElem_cons_succ, List.setIfInBounds_toArray, List.set_cons_zero, List.set_cons_succ]
      refine wpAnyH_take (i := 6) (v := .bool false) rfl (by kernel_rfl) (by kernel_rfl) (by kernel_rfl) (fun _ _ _ h => h) (Yields.yieldsIf (Or.inl ⟨by rfl, fun w => by go_simp⟩)) SV4.out ?_
      try simp only [Act.put, List.getElem_toArray, List.getElem_cons_zero, List.getElem_cons_succ, List.setIfInBounds_toArray, List.set_cons_zero, List.set_cons_succ]
      refine wpAnyH_take (i := 7) (v := .bool false) rfl (by kernel_rfl) (by kernel_rfl) (by kernel_rfl) (fun _ _ _ h => h) (Yields.yieldsIf (Or.inl ⟨by rfl, fun w => by go_simp⟩)) SV4.out ?_
      try simp only [Act.put, List.getElem_toArray, List.getElem_cons_zero, List.getElem_cons_succ, List.setIfInBounds_toArray, List.set_cons_zero, List.set_cons_succ]
      refine wpAnyH_take (i := 8) (v := .pointer (some ⟨q8, 2, none⟩)) rfl (by kernel_rfl) (by kernel_rfl) (by kernel_rfl) (fun _ _ _ h => h) (Yields.yieldsIf (Or.inl ⟨by rfl, fun w => by go_simp⟩)) SV4.out ?_
      try simp only [Act.put, List.getElem_toArray, List.getElem_cons_zero, List.getElem_cons_succ, List.setIfInBounds_toArray, List.set_cons_zero, List.set_cons_succ]
      refine wpAnyH_take (i := 9) (v := .slice (some ⟨gx, 0, none⟩) xn cx) rfl (by kernel_rfl) (by kernel_rfl) (by kernel_rfl) (fun _ _ _ h => h) (Or.inl ⟨by rfl, fun w9 h9 => by obtain ⟨x0, x1, x2, x3, x4, x5, x6⟩ := ef_cells h9.d; obtain ⟨z0, z1, z2, z3, z4, z5, z6⟩ := ef_cells h9.e; obtain ⟨r0, r1, r2⟩ := rrC_cells h9.b; obtain ⟨s0, s1, s2, s3, s4, s5⟩ := ld_cells h9.a; go_simp⟩) SV4.out ?_
      try simp only [Act.put, List.getElem_toArray, List.getElem_cons_zero, List.getElem_cons_succ, List.setIfInBounds_toArray, List.set_cons_zero, List.set_cons_succ]
      refine wpAnyH_take (i := 10) (v := .pointer (some ⟨q7, 2, none⟩)) rfl (by kernel_rfl) (by kernel_rfl) (by kernel_rfl) (fun _ _ _ h => h) (Yields.yieldsIf (Or.inl ⟨by rfl, fun w => by go_simp⟩)) SV4.out ?_
      try simp only [Act.put, List.getElem_toArray, List.getElem_cons_zero, List.getElem_cons_succ, List.setIfInBounds_toArray, List.set_cons_zero, List.set_cons_succ]
      refine wpAnyH_take (i := 11) (v := .pointer (some ⟨q7, 4, none⟩)) rfl (by kernel_rfl) (by kernel_rfl) (by kernel_rfl) (fun _ _ _ h => h) (Yields.yieldsIf (Or.inl ⟨by rfl, fun w => by go_simp⟩)) SV4.out ?_
      try simp only [Act.put, List.getElem_toArray, List.getElem_cons_zero, List.getElem_cons_succ, List.setIfInBounds_toArray, List.set_cons_zero, List.set_cons_succ]
      refine wpAnyH_take (i := 12) (v := .slice xp xn xc) rfl (by kernel_rfl) (by kernel_rfl) (by kernel_rfl) (fun _ _ _ h => h) (Or.inl ⟨by rfl, fun w9 h9 => by obtain ⟨x0, x1, x2, x3, x4, x5, x6⟩ := ef_cells h9.d; obtain ⟨z0, z1, z2, z3, z4, z5, z6⟩ := ef_cells h9.e; obtain ⟨r0, r1, r2⟩ := rrC_cells h9.b; obtain ⟨s0, s1, s2, s3, s4, s5⟩ := ld_cells h9.a; go_simp⟩) SV4.out ?_
      try simp only [Act.put, List.getElem_toArray, List.getElem_cons_zero, List.getElem_cons_succ, List.setIfInBounds_toArray, List.set_cons_zero, List.set_cons_succ]
      refine wpAnyH_all (rs := [13]) (by kernel_rfl) (by simp) (AllH.cons rfl (fun K hK => ?_) AllH.nil)
      have CD := Hid.mk' (lwhole_any gx cx xp xn xc _ X V4 (by omega) (TX8.out.keep LZ.out) (Hid.mk' (own_keep OX8.out LZ.out)))
      go_simp
      refine CD.out.mono ?_
      rintro e9 V5 ⟨rfl, hw⟩
      have hq9 := hw.symm
      subst hq9
      clear CD hw
      dsimp only
      refine hK _ _ ⟨SV4.out, ?_⟩
      clear hK K
      try simp only [Act.put, List.getElem_toArray, List.getElem_cons_zero, List.getElem_cons_succ, List.setIfInBounds_toArray, List.set_cons_zero, List.set_cons_succ]
      refine wpAnyH_take (i := 14) (v := .bool false) rfl (by kernel_rfl) (by kernel_rfl) (by kernel_rfl) (fun _ _ _ h => h) (Yields.yieldsIf (Or.inl ⟨by rfl, fun w => by go_simp⟩)) SV4.out ?_
      try simp only [Act.put, List.getElem_toArray, List.getElem_cons_zero, List.getElem_cons_succ, List.setIfInBounds_toArray, List.set_cons_zero, List.set_cons_succ]
      refine wpAnyH_take (i := 15) (v := .bool false) rfl (by kernel_rfl) (by kernel_rfl) (by kernel_rfl) (fun _ _ _ h => h) (Yields.yieldsIf (Or.inl ⟨by rfl, fun w => by go_simp⟩)) SV4.out ?_
      try simp only [Act.put, List.getElem_toArray, List.getElem_cons_zero, List.getElem_cons_succ, List.setIfInBounds_toArray, List.set_cons_zero, List.set_cons_succ]
      refine wpAnyH_done (by kernel_rfl) ?_ _
      go_wp2
      go_roundg go
      case measure => omega
      case rel =>
        exact ⟨i + 1, by go_num, by omega, bT L8.out LZ.out⟩
end Go.Proofs.YtppefcnopkmhbaaGreatDoor
