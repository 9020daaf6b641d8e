/- ChangeKeeps, walked. -/
import Derived.Test.YthklmdnamkjgmaaKpk
namespace Go.Proofs.Ythklmdnamkjgmaa
open Go.RowKit

set_option maxRecDepth 8000
theorem Kept.on {w A B : World} {lo hi : Nat} (h : Below w.heap.size w A) (hk : Kept lo hi A B) (hl : w.heap.size ≤ lo) : Below w.heap.size w B :=
  ⟨hk.os.trans h.os, hk.tape.trans h.tape, hk.output.trans h.output, Nat.le_trans h.size hk.size, fun k hk' => (hk.block k (by have := h.size; omega) (.inl (by omega))).trans (h.block k hk')⟩
theorem apply_z (ao : Option Addr) (n c : Nat) (T : List UInt8) (eo : Option Addr) (en ec : Nat) (E : List Er) (w : World) (hT : Hid (Tx w ao n c T)) (hb : n ≤ 140737488355328) (HE : Hid (Edz w eo E)) (hn : E.length = en) (heb : en ≤ 140737488355328) {D : List Ed} (hD : E.map Er.d = D) (HM : Mod T D) {U : List UInt8} {z : Int} (hU : apU T D = U) (hz : apE T D = z) : Calls Try.prog 13 #[.slice ao n c, .slice eo en ec] w fun e w' => TxQ U z w e w' := by
  subst hU hz
  exact apply_q ao n c T eo en ec E w hT hb HE hn heb hD HM
theorem rapply_z (ao : Option Addr) (n c : Nat) (T : List UInt8) (eo : Option Addr) (en ec : Nat) (E : List Er) (w : World) (hT : Hid (Tx w ao n c T)) (hb : n ≤ 140737488355328) (HE : Hid (Edz w eo E)) (hn : E.length = en) (heb : en ≤ 140737488355328) {D : List Ed} (hD : E.map Er.d = D) (HM : Mod T D) {U : List UInt8} {z : Int} (hU : apU T D = U) (hz : apE T D = z) : Calls Try.prog 12 #[.slice ao n c, .slice eo en ec] w fun e w' => TxQ U z w e w' := by
  subst hU hz
  exact rapply_q ao n c T eo en ec E w hT hb HE hn heb hD HM
theorem eq9_yes (x : List UInt8) (W : World) : (binOp .eql 9 (.string ⟨x.toArray⟩) (.string ⟨x.toArray⟩)).run Try.prog W = .ok (.bool true) W := by
  simp [binOp, Op.stringOp]
theorem len_of {F : List Er} {D : List Ed} (h : F.map Er.d = D) : F.length = D.length := by rw [← h, List.length_map]
set_option maxHeartbeats 64000000 in
theorem changeKeeps_walk (ao : Option Addr) (n c : Nat) (T : List UInt8) (eo : Option Addr) (en ec : Nat) (E : List Er) (w : World) (hT : Hid (Tx w ao n c T)) (hb : n ≤ 140737488355328) (HE : Hid (Edz w eo E)) (hn : E.length = en) (heb : en * 56 ≤ 140737488355328) :
    Calls Try.prog 9 #[.slice ao n c, .slice eo en ec] w fun e w' => e = .returned (.bool true) ∧ Below w.heap.size w w' := by
  have HN := Hid.mk' hn
  obtain ⟨D, hD⟩ : ∃ D, E.map Er.d = D := ⟨_, rfl⟩
  have HD := Hid.mk' hD
  have HDn : Hid (D.length = en) := by unfold Hid; rw [← hD, List.length_map]; exact hn
  have HTl := Hid.mk' hT.out.len
  have HIl : Hid ((inv D).length = en) := by unfold Hid; rw [inv_length]; exact HDn.out
  have HTr : Hid ((trim D).length ≤ en) := by unfold Hid; have := trim_len D; have := HDn.out; omega
  clear hn hD
  go_enter Try.func9, Try.ntmps9
  go_wp2_with fail
  refine (alive_any w).mono ?_
  rintro e w1 ⟨rfl, hb1⟩
  have L1 : Hid (Below w.heap.size w w1) := hb1
  clear hb1
  dsimp only
  go_wp2_with fail
  refine (great_any ao n c eo en ec E w1 (HE.out.keep L1.out) HN.out (by omega) hb).mono ?_
  rintro e w2 ⟨gb, rfl, hb2, hgr⟩
  have L2 : Hid (Below w.heap.size w w2) := bT L1.out hb2
  have HG := Hid.mk' hgr
  clear hb2 hgr L1
  dsimp only
  cases gb with
  | true =>
    go_wp2
    go_ret
    exact ⟨rfl, L2.out⟩
  | false =>
  by_cases hen : 2000 < en
  · have hd1 : (2000 : Int) < (en : Int) := by omega
    go_wp2
    go_ret
    exact ⟨rfl, L2.out⟩
  have hd1 : ¬ (2000 : Int) < (en : Int) := by omega
  have HEN : Hid (en ≤ 2000) := by unfold Hid; omega
  have HMd : Hid (Mod T D) := mod_small HTl.out HDn.out hb (by have := HG.out rfl HEN.out; rw [HD.out] at this; exact this)
  obtain ⟨U, hU⟩ : ∃ U, apU T D = U := ⟨_, rfl⟩
  obtain ⟨z, hz⟩ : ∃ z, apE T D = z := ⟨_, rfl⟩
  obtain ⟨un, hun⟩ : ∃ un, U.length = un := ⟨_, rfl⟩
  have hunb : un ≤ 140737488355328 := by rw [← hun, ← hU]; exact apU_le HMd.out
  have HU := Hid.mk' hU
  have HZ := Hid.mk' hz
  have HUN := Hid.mk' hun
  obtain ⟨nr, hnr⟩ : ∃ nr, nr = n + 2 := ⟨_, rfl⟩
  have HNR := Hid.mk' hnr
  clear hU hz hun hen HG hnr
  go_wp2_with fail
  refine (copied_any eo en ec E w2 (HE.out.keep L2.out) HN.out HEN.out).mono ?_
  rintro e w3 ⟨g, cc, F, rfl, hFn, hcc, hFd, hM⟩
  have S3 : Hid (Below w2.heap.size w2 w3) := hM.bel
  have B3 : Hid (Below w.heap.size w w3) := bT L2.out S3.out
  have M3 := Hid.mk' (Ms.of hM)
  have HFn := Hid.mk' hFn
  have HCC := Hid.mk' hcc
  have HFd : Hid (F.map Er.d = D) := by unfold Hid; rw [hFd]; exact HD.out
  have E3 : Hid (Edz w3 (some ⟨g, 0, none⟩) F) := M3.out.ez B3.out L2.out.size
  clear hFn hcc hFd hM hd1
  dsimp only
  have T3 : Hid (Tx w3 ao n c T) := hT.out.keep B3.out
  go_wp2_with (at_builtin; refine append_big rfl (.tmp 35) (.tmp 36) rfl w3.heap.size (.slice (some ⟨w3.heap.size, 0, none⟩) 0 0) 0 [] rfl (World.ownsRow_made w3 #[] 0 (Nat.le_refl _) (Nat.zero_le _) rfl) (.slice ao n c) n (bv T) rfl ((T3.out.keep (bAlloc (Below.refl _ _) _)).srv) (by rw [bv_length]; exact HTl.out) (bv_one _) (by omega) (by omega) (by simp) ?_)
  intro v1 wa hown hgrow _
  have OA : Hid (wa.ownsRow w3.heap.size 5 1 v1 n (bv T)) := by unfold Hid; simpa using hown
  have BA : Hid (Below w3.heap.size w3 wa) := ((Below.refl _ w3).alloc (Nat.le_refl _) _).grown hgrow (by simp) (by intro k hk; simp [Value.ownBlock] at hk; omega)
  clear hown hgrow
  have O5 : Hid ((wa.alloc (.cells (bv [165, 166]).toArray 5)).ownsRow w3.heap.size 5 1 v1 n (bv T)) := own_keep OA.out (bAlloc (Below.refl _ _) _)
  have C5 : Hid (Srv (wa.alloc (.cells (bv [165, 166]).toArray 5)) (.slice (some ⟨wa.heap.size, 0, none⟩) 2 2) 2 (bv [165, 166])) := .inr ⟨_, 2, rfl, fun j u hj => lit_cells wa _ 5 j u hj⟩
  have Z5 : Hid (w3.heap.size ≤ (wa.alloc (.cells (bv [165, 166]).toArray 5)).heap.size) := by have := BA.out.size; unfold Hid; simp; omega
  go_wp2_with (at_builtin; refine append_big rfl (.tmp 37) (.tmp 38) rfl w3.heap.size v1 n (bv T) rfl O5.out (.slice (some ⟨wa.heap.size, 0, none⟩) 2 2) 2 (bv [165, 166]) rfl C5.out rfl (bv_one _) (by omega) (by omega) Z5.out ?_)
  intro v2 w4 hown hgrow _
  have O4 : Hid (w4.ownsRow w3.heap.size 5 1 v2 nr (bv (T ++ [165, 166]))) := by unfold Hid; rw [bv_append, HNR.out]; exact hown
  have S4 : Hid (Below w3.heap.size w3 w4) := (bAlloc BA.out _).grown hgrow (by have := BA.out.size; simp; omega) (fun k hk => (OA.out.lt k hk).1)
  clear hown hgrow OA BA O5 C5 Z5 T3
  obtain ⟨gr, cr, e4, hcr, -⟩ := own_some O4.out (by have := HNR.out; omega)
  subst e4
  have R4 : Hid (Bs w3.heap.size w4.heap.size w4 (.slice (some ⟨gr, 0, none⟩) nr cr) nr (T ++ [165, 166])) := Bs.of O4.out
  have I4 : Hid (Bs w3.heap.size w4.heap.size w4 (.slice (some ⟨gr, 0, none⟩) n cr) n T) := Bs.of (pre_of (m := [165, 166]) (by rw [← HNR.out]; exact O4.out) rfl)
  have s7 := so_h gr nr cr n (z := (n : Int)) (by have := HNR.out; omega) rfl
  have B4 : Hid (Below w.heap.size w w4) := bT B3.out S4.out
  clear O4 hcr
  go_wp2_with fail
  refine (rapply_z ao n c T eo en ec E w4 (hT.out.keep B4.out) hb (HE.out.keep B4.out) HN.out (by omega) HD.out HMd.out HU.out HZ.out).mono ?_
  rintro e w5 ⟨v5, rfl, hO5, hb5⟩
  have S5 := Hid.mk' hb5
  rw [HUN.out] at hO5
  obtain ⟨p5, c5, rfl⟩ := own_shape hO5
  have K5 := Hid.mk' (Bs.of hO5)
  have B5 : Hid (Below w.heap.size w w5) := bT B4.out S5.out
  clear hb5 hO5 s7 B4
  dsimp only
  go_wp2_with fail
  refine (invert_any (some ⟨g, 0, none⟩) en cc F w5 (E3.out.keep (bT S4.out S5.out)) HFn.out (by omega)).mono ?_
  rintro e w6 ⟨v6, F6, rfl, hF6, hL6⟩
  have S6 : Hid (Below w5.heap.size w5 w6) := hL6.bel
  obtain ⟨p6, c6, rfl⟩ := own_shape hL6.own
  have A6 := Hid.mk' (Ls.of hL6)
  have HF6 : Hid (F6.map Er.d = inv D) := by unfold Hid; rw [hF6, HFd.out]
  clear hL6 hF6
  dsimp only
  go_wp2_with fail
  refine (trim_any (some ⟨g, 0, none⟩) en cc F w6 (E3.out.keep (bT (bT S4.out S5.out) S6.out)) HFn.out (by omega)).mono ?_
  rintro e w7 ⟨v7, F7, rfl, hF7, hL7⟩
  have S7 : Hid (Below w6.heap.size w6 w7) := hL7.bel
  obtain ⟨p7, c7, rfl⟩ := own_shape hL7.own
  have A7 := Hid.mk' (Ls.of hL7)
  have HF7 : Hid (F7.map Er.d = trim D) := by unfold Hid; rw [hF7, HFd.out]
  clear hL7 hF7
  dsimp only
  go_wp2_with fail
  refine (invert_any (some ⟨g, 0, none⟩) en cc F w7 (E3.out.keep (bT (bT (bT S4.out S5.out) S6.out) S7.out)) HFn.out (by omega)).mono ?_
  rintro e w8 ⟨v8, F8, rfl, hF8, hL8⟩
  have S8 : Hid (Below w7.heap.size w7 w8) := hL8.bel
  obtain ⟨p8, c8, rfl⟩ := own_shape hL8.own
  have A8 := Hid.mk' (Ls.of hL8)
  have HF8 : Hid (F8.map Er.d = inv D) := by unfold Hid; rw [hF8, HFd.out]
  clear hL8 hF8
  dsimp only
  go_wp2_with fail
  refine (trim_any (some ⟨g, 0, none⟩) en cc F w8 (E3.out.keep (bT (bT (bT (bT S4.out S5.out) S6.out) S7.out) S8.out)) HFn.out (by omega)).mono ?_
  rintro e w9 ⟨v9, F9, rfl, hF9, hL9⟩
  have S9 : Hid (Below w8.heap.size w8 w9) := hL9.bel
  obtain ⟨p9, c9, rfl⟩ := own_shape hL9.own
  have A9 := Hid.mk' (Ls.of hL9)
  have HF9 : Hid (F9.map Er.d = trim D) := by unfold Hid; rw [hF9, HFd.out]
  clear hL9 hF9
  dsimp only
  go_wp2_with fail
  refine (apply_z (some ⟨gr, 0, none⟩) n cr T (some ⟨g, 0, none⟩) en cc F w9 ((I4.out.tx hb).keep (bT (bT (bT (bT S5.out S6.out) S7.out) S8.out) S9.out)) hb (E3.out.keep (bT (bT (bT (bT (bT S4.out S5.out) S6.out) S7.out) S8.out) S9.out)) HFn.out (by omega) HFd.out HMd.out HU.out HZ.out).mono ?_
  rintro e w10 ⟨v10, rfl, hO10, hb10⟩
  have S10 := Hid.mk' hb10
  rw [HUN.out] at hO10
  obtain ⟨p10, c10, rfl⟩ := own_shape hO10
  have K10 := Hid.mk' (Bs.of hO10)
  clear hb10 hO10
  dsimp only
  go_wp2_with fail
  refine (apply_z (some ⟨gr, 0, none⟩) n cr T (some ⟨g, 0, none⟩) en cc F w10 ((I4.out.tx hb).keep (bT (bT (bT (bT (bT S5.out S6.out) S7.out) S8.out) S9.out) S10.out)) hb (E3.out.keep (bT (bT (bT (bT (bT (bT S4.out S5.out) S6.out) S7.out) S8.out) S9.out) S10.out)) HFn.out (by omega) HFd.out HMd.out HU.out HZ.out).mono ?_
  rintro e w11 ⟨v11, rfl, hO11, hb11⟩
  have S11 := Hid.mk' hb11
  rw [HUN.out] at hO11
  obtain ⟨p11, c11, rfl⟩ := own_shape hO11
  have K11 := Hid.mk' (Bs.of hO11)
  clear hb11 hO11
  dsimp only
  go_wp2_with fail
  refine (between_any (some ⟨gr, 0, none⟩) n cr T p10 un c10 U w11 ((I4.out.tx hb).keep (bT (bT (bT (bT (bT (bT S5.out S6.out) S7.out) S8.out) S9.out) S10.out) S11.out)) ((K10.out.tx hunb).keep S11.out) hb hunb).mono ?_
  rintro e w12 ⟨v12, F12, rfl, hF12, hL12⟩
  have S12 : Hid (Below w11.heap.size w11 w12) := hL12.bel
  obtain ⟨p12, c12, rfl⟩ := own_shape hL12.own
  have A12 := Hid.mk' (Ls.of hL12)
  have HF12 := Hid.mk' hF12
  clear hL12 hF12
  dsimp only
  have x1 := conv_tx ((K10.out.tx hunb).keep (bT S11.out S12.out))
  have x2 := conv_tx ((K5.out.tx hunb).keep (bT (bT (bT (bT (bT (bT S6.out S7.out) S8.out) S9.out) S10.out) S11.out) S12.out))
  have x3 := conv_tx ((K11.out.tx hunb).keep S12.out)
  have q1 := fun W => ne9_no U W
  have B12 : Hid (Below w.heap.size w w12) := bT B5.out (bT (bT (bT (bT (bT (bT S6.out S7.out) S8.out) S9.out) S10.out) S11.out) S12.out)
  go_upto_if 94 with fail
  go_wp2_with fail
  refine (rbetween_any ao n c T p5 un c5 U w12 (hT.out.keep B12.out) ((K5.out.tx hunb).keep (bT (bT (bT (bT (bT (bT S6.out S7.out) S8.out) S9.out) S10.out) S11.out) S12.out)) hb hunb).mono ?_
  rintro e w13 ⟨v13, F13, rfl, hF13, hL13⟩
  have S13 : Hid (Below w12.heap.size w12 w13) := hL13.bel
  obtain ⟨p13, c13, rfl⟩ := own_shape hL13.own
  have A13 := Hid.mk' (Ls.of hL13)
  have HF13 := Hid.mk' hF13
  have SZ : Hid (w.heap.size ≤ w2.heap.size ∧ w2.heap.size ≤ w3.heap.size ∧ w3.heap.size ≤ w4.heap.size ∧ w4.heap.size ≤ w5.heap.size ∧ w5.heap.size ≤ w6.heap.size ∧ w6.heap.size ≤ w7.heap.size ∧ w7.heap.size ≤ w8.heap.size ∧ w8.heap.size ≤ w9.heap.size ∧ w9.heap.size ≤ w10.heap.size ∧ w10.heap.size ≤ w11.heap.size ∧ w11.heap.size ≤ w12.heap.size ∧ w12.heap.size ≤ w13.heap.size) := ⟨L2.out.size, S3.out.size, S4.out.size, S5.out.size, S6.out.size, S7.out.size, S8.out.size, S9.out.size, S10.out.size, S11.out.size, S12.out.size, S13.out.size⟩
  clear hL13 hF13 x1 x2 x3
  dsimp only
  have Q5 : Hid (Below w5.heap.size w5 w13) := (bT (bT (bT (bT (bT (bT (bT S6.out S7.out) S8.out) S9.out) S10.out) S11.out) S12.out) S13.out)
  have M13 := Hid.mk' (M3.out.keep (bT (bT (bT (bT (bT (bT (bT (bT (bT S4.out S5.out) S6.out) S7.out) S8.out) S9.out) S10.out) S11.out) S12.out) S13.out))
  have R13 := Hid.mk' (R4.out.keep (bT (bT (bT (bT (bT (bT (bT (bT S5.out S6.out) S7.out) S8.out) S9.out) S10.out) S11.out) S12.out) S13.out))
  have I13 := Hid.mk' (I4.out.keep (bT (bT (bT (bT (bT (bT (bT (bT S5.out S6.out) S7.out) S8.out) S9.out) S10.out) S11.out) S12.out) S13.out))
  have K13 := Hid.mk' (K5.out.keep (bT (bT (bT (bT (bT (bT (bT S6.out S7.out) S8.out) S9.out) S10.out) S11.out) S12.out) S13.out))
  have X13 := Hid.mk' (A8.out.keep (bT (bT (bT (bT S9.out S10.out) S11.out) S12.out) S13.out))
  have Y13 := Hid.mk' (A9.out.keep (bT (bT (bT S10.out S11.out) S12.out) S13.out))
  have U13 := Hid.mk' (K10.out.keep (bT (bT S11.out S12.out) S13.out))
  have V13 := Hid.mk' (K11.out.keep (bT S12.out S13.out))
  have D13 := Hid.mk' (A12.out.keep S13.out)
  have SA := Hid.mk' ((A6.out.keep (bT (bT (bT (bT (bT (bT S7.out S8.out) S9.out) S10.out) S11.out) S12.out) S13.out)).sp Q5.out (Nat.le_refl _) (Nat.le_refl w6.heap.size))
  have G13 := Hid.mk' (A7.out.keep (bT (bT (bT (bT (bT S8.out S9.out) S10.out) S11.out) S12.out) S13.out))
  have B13 : Hid (Below w.heap.size w w13) := bT B12.out S13.out
  clear S3 S4 S5 S6 S7 S8 S9 S10 S11 S12 S13 M3 R4 I4 K5 A6 A7 A8 A9 K10 K11 A12 B12 B5 E3 L2 B3
  go_wp2_with fail
  refine (spoil_any (.slice p6 F6.length c6) F6 w5 w13 w6.heap.size SA.out.1 SA.out.2 (by have := len_of HF6.out; have := HIl.out; have := HEN.out; omega)).mono ?_
  rintro e w14 ⟨⟨z14, rfl⟩, hk⟩
  have KA := Hid.mk' hk
  clear hk SA
  dsimp only
  have SB := Hid.mk' ((G13.out.kept KA.out (.inl (Nat.le_refl _))).sp (Kept.on Q5.out KA.out (Nat.le_refl _)) (by have := SZ.out; omega) (Nat.le_refl w7.heap.size))
  go_wp2_with fail
  refine (spoil_any (.slice p7 F7.length c7) F7 w5 w14 w7.heap.size SB.out.1 SB.out.2 (by have := len_of HF7.out; have := HTr.out; have := HEN.out; omega)).mono ?_
  rintro e w15 ⟨⟨z15, rfl⟩, hk⟩
  have KB : Hid (Kept w5.heap.size w7.heap.size w13 w15) := (KA.out.wide (Nat.le_refl _) (by have := SZ.out; omega)).trans hk
  clear hk SB KA G13 Q5
  dsimp only
  have M15 := Hid.mk' (M13.out.kept KB.out (by have := SZ.out; omega))
  have R15 := Hid.mk' (R13.out.kept KB.out (by have := SZ.out; omega))
  have I15 := Hid.mk' (I13.out.kept KB.out (by have := SZ.out; omega))
  have K15 := Hid.mk' (K13.out.kept KB.out (by have := SZ.out; omega))
  have X15 := Hid.mk' (X13.out.kept KB.out (by have := SZ.out; omega))
  have Y15 := Hid.mk' (Y13.out.kept KB.out (by have := SZ.out; omega))
  have U15 := Hid.mk' (U13.out.kept KB.out (by have := SZ.out; omega))
  have V15 := Hid.mk' (V13.out.kept KB.out (by have := SZ.out; omega))
  have D15 := Hid.mk' (D13.out.kept KB.out (by have := SZ.out; omega))
  have B15 : Hid (Below w.heap.size w w15) := Kept.on B13.out KB.out (by have := SZ.out; omega)
  have Z15 : Hid (w13.heap.size ≤ w15.heap.size) := KB.out.size
  have N15 := Hid.mk' (A13.out.kept KB.out (by have := SZ.out; omega))
  clear M13 R13 I13 K13 X13 Y13 U13 V13 D13 A13 B13 KB
  go_wp2_with fail
  go_loopg [20] un (fun m x20 wx => ∃ (j : Nat) (Y : List UInt8), x20 = .int .i64 (j : Int) ∧ j + m = un ∧ Hid (Bs w9.heap.size w10.heap.size wx (.slice p10 un c10) un Y) ∧ Hid (Kept w9.heap.size w10.heap.size w15 wx))
  case atStart => exact ⟨0, U, rfl, by omega, U15.out, Kept.refl _ _ _⟩
  case round =>
    obtain ⟨j, Y, rfl, hjm, UB, KK⟩ := hrel
    obtain ⟨go, hgo⟩ : ∃ g, g = gk - 1 := ⟨_, rfl⟩
    by_cases hj : j < un
    · have hj0 : (0 : Int) ≤ (j : Int) := by omega
      have hj1 : (j : Int) < (un : Int) := by omega
      have hw4 : IntKind.i64.wrap ((j : Int) + 1) = ((j + 1 : Nat) : Int) := by rw [IntKind.wrap_i64]; omega
      obtain ⟨g1, e1, t3, f3⟩ := byte_at UB.out.own hj
      subst e1
      have hx := xr (at8 Y j)
      have NN := Hid.mk' (UB.out.set (j := j) (at8 Y j ^^^ 85) KK.out (Nat.le_refl _) (Nat.le_refl _))
      clear hj
      go_wp2
      go_roundg go
      case measure => omega
      case rel => exact ⟨j + 1, _, by go_num, by omega, NN.out.1, NN.out.2⟩
    · have hj1 : ¬ (j : Int) < (un : Int) := by omega
      clear hgo hjm hj U15
      go_wp2_with fail
      clear hj1
      go_loopg [14, 21] 8 (fun m x14 x21 wx => ∃ (t : Nat) (p : Option Addr) (c : Nat) (Y : List UInt8), x14 = .slice p (un + t) c ∧ x21 = .int .i64 (t : Int) ∧ t + m = 8 ∧ Hid (wx.ownsRow w9.heap.size 5 1 (.slice p (un + t) c) (un + t) (bv Y)) ∧ Hid (Kept w9.heap.size w10.heap.size w15 wx) ∧ Hid (∀ g, (Value.slice p (un + t) c).ownBlock = some g → g < w10.heap.size ∨ w15.heap.size ≤ g) ∧ Hid (w9.heap.size ≤ wx.heap.size))
      case atStart => exact ⟨0, p10, c10, Y, rfl, rfl, by omega, UB.out.own, KK.out, fun g hg => .inl (UB.out.up g hg), by have := SZ.out; have := B15.out.size; have := KK.out.size; unfold Hid; have := Z15.out; omega⟩
      case round =>
        clear UB KK
        obtain ⟨t, p, cp, Y, rfl, rfl, htm, OW, KP, KB, KZ⟩ := hrel
        obtain ⟨go3, hgo3⟩ : ∃ g, g = gk - 1 := ⟨_, rfl⟩
        by_cases hj : t < 8
        · have hj1 : (t : Int) < 8 := by omega
          have hw4 : IntKind.i64.wrap ((t : Int) + 1) = ((t + 1 : Nat) : Int) := by rw [IntKind.wrap_i64]; omega
          have KW : Hid (Below wr.heap.size wr (wr.alloc (.cells (bv [119]).toArray 5))) := bAlloc (Below.refl _ _) _
          have O5 : Hid ((wr.alloc (.cells (bv [119]).toArray 5)).ownsRow w9.heap.size 5 1 (.slice p (un + t) cp) (un + t) (bv Y)) := own_keep OW.out KW.out
          have C5 : Hid (Srv (wr.alloc (.cells (bv [119]).toArray 5)) (.slice (some ⟨wr.heap.size, 0, none⟩) 1 1) 1 (bv [119])) := .inr ⟨_, 1, rfl, fun j u hj => lit_cells wr _ 5 j u hj⟩
          have Z5 : Hid (w9.heap.size ≤ (wr.alloc (.cells (bv [119]).toArray 5)).heap.size) := Nat.le_trans KZ.out KW.out.size
          go_wp2_with (at_builtin; refine append_big rfl (.tmp 118) (.tmp 119) rfl w9.heap.size (.slice p (un + t) cp) (un + t) (bv Y) rfl O5.out (.slice (some ⟨wr.heap.size, 0, none⟩) 1 1) 1 (bv [119]) rfl C5.out rfl (bv_one _) (by omega) (by omega) Z5.out ?_)
          intro v1 wz hown hgrow hfr
          obtain ⟨p7', c7', rfl⟩ := own_shape hown
          have OW7 : Hid (wz.ownsRow w9.heap.size 5 1 (.slice p7' (un + (t + 1)) c7') (un + (t + 1)) (bv (Y ++ [119]))) := by unfold Hid; rw [bv_append]; exact hown
          have KP7 : Hid (Kept w9.heap.size w10.heap.size w15 wz) := (KP.out.new KW.out).grown hgrow (fun g hg => ⟨(OW.out.lt g hg).1, KB.out g hg⟩)
          have KB7 : Hid (∀ g, (Value.slice p7' (un + (t + 1)) c7').ownBlock = some g → g < w10.heap.size ∨ w15.heap.size ≤ g) := fun g hg => by
            rcases hfr with e | ⟨q, e, hq⟩
            · exact KB.out g (by rw [← e]; exact hg)
            · have hg' : (Value.slice p7' (un + t + 1) c7').ownBlock = some g := hg
              rw [e] at hg'
              injection hg' with hg'
              have := KP.out.size
              have := KW.out.size
              omega
          have KZ7 : Hid (w9.heap.size ≤ wz.heap.size) := by exact Nat.le_trans Z5.out hgrow.size
          clear hown hgrow hfr O5 C5 Z5 OW KP KB KZ hj KW
          go_wp2
          go_roundg go3
          case measure => omega
          case rel => exact ⟨t + 1, p7', c7', _, rfl, by go_num, by omega, OW7.out, KP7.out, KB7.out, KZ7.out⟩
        · have hj1 : ¬ (t : Int) < 8 := by omega
          obtain ⟨ue, hue⟩ : ∃ ue, un + t = ue := ⟨_, rfl⟩
          have hwu : IntKind.i64.wrap ((un : Int) + 8) = (ue : Int) := by rw [IntKind.wrap_i64]; omega
          rw [hue]
          have KU := Hid.mk' KP.out
          clear hgo3 htm hj OW KP KB KZ hue
          have M17 := Hid.mk' (M15.out.kept KU.out (by have := SZ.out; omega))
          have R17 := Hid.mk' (R15.out.kept KU.out (by have := SZ.out; omega))
          have I17 := Hid.mk' (I15.out.kept KU.out (by have := SZ.out; omega))
          have K17 := Hid.mk' (K15.out.kept KU.out (by have := SZ.out; omega))
          have X17 := Hid.mk' (X15.out.kept KU.out (by have := SZ.out; omega))
          have Y17 := Hid.mk' (Y15.out.kept KU.out (by have := SZ.out; omega))
          have V17 := Hid.mk' (V15.out.kept KU.out (by have := SZ.out; omega))
          have D17 := Hid.mk' (D15.out.kept KU.out (by have := SZ.out; omega))
          have N17 := Hid.mk' (N15.out.kept KU.out (by have := SZ.out; omega))
          have B17 : Hid (Below w.heap.size w wr) := Kept.on B15.out KU.out (by have := SZ.out; omega)
          clear M15 R15 I15 K15 X15 Y15 V15 D15 N15 B15 KU Z15
          go_wp2_with fail
          refine (rinvert_any eo en ec E wr (HE.out.keep B17.out) HN.out (by omega)).mono ?_
          rintro e w18 ⟨v18, F18, rfl, hF18, hL18⟩
          have S18 : Hid (Below wr.heap.size wr w18) := hL18.bel
          have B18 : Hid (Below w.heap.size w w18) := bT B17.out S18.out
          obtain ⟨p18, c18, rfl⟩ := own_shape hL18.own
          have A18 := Hid.mk' (Ls.of hL18).ez
          have HF18 : Hid (F18.map Er.d = inv D) := by unfold Hid; rw [hF18, HD.out]
          clear hL18 hF18
          dsimp only
          go_wp2_with fail
          refine (same_yes p8 F8.length c8 F8 p18 F18.length c18 F18 w18 ((X17.out.keep S18.out).ez) (A18.out) rfl rfl (HF8.out.trans HF18.out.symm) (by have := len_of HF8.out; have := HIl.out; omega)).mono ?_
          rintro e w19 ⟨rfl, hb19⟩
          have S19 := Hid.mk' hb19
          have B19 : Hid (Below w.heap.size w w19) := bT B18.out S19.out
          clear hb19
          dsimp only
          go_wp2_with fail
          refine (rtrim_any eo en ec E w19 (HE.out.keep B19.out) HN.out (by omega)).mono ?_
          rintro e w20 ⟨v20, F20, rfl, hF20, hL20⟩
          have S20 : Hid (Below w19.heap.size w19 w20) := hL20.bel
          have B20 : Hid (Below w.heap.size w w20) := bT B19.out S20.out
          obtain ⟨p20, c20, rfl⟩ := own_shape hL20.own
          have A20 := Hid.mk' (Ls.of hL20).ez
          have HF20 : Hid (F20.map Er.d = trim D) := by unfold Hid; rw [hF20, HD.out]
          clear hL20 hF20
          dsimp only
          go_wp2_with fail
          refine (same_yes p9 F9.length c9 F9 p20 F20.length c20 F20 w20 ((Y17.out.keep (bT (bT S18.out S19.out) S20.out)).ez) (A20.out) rfl rfl (HF9.out.trans HF20.out.symm) (by have := len_of HF9.out; have := HTr.out; omega)).mono ?_
          rintro e w21 ⟨rfl, hb21⟩
          have S21 := Hid.mk' hb21
          have B21 : Hid (Below w.heap.size w w21) := bT B20.out S21.out
          clear hb21
          dsimp only
          go_wp2_with fail
          refine (same_yes p12 F12.length c12 F12 p13 F13.length c13 F13 w21 ((D17.out.keep (bT (bT (bT S18.out S19.out) S20.out) S21.out)).ez) ((N17.out.keep (bT (bT (bT S18.out S19.out) S20.out) S21.out)).ez) rfl rfl (HF12.out.trans HF13.out.symm) (by have := len_of HF12.out; have := trim_len [(⟨0, T, U⟩ : Ed)]; simp at this; omega)).mono ?_
          rintro e w22 ⟨rfl, hb22⟩
          have S22 := Hid.mk' hb22
          have B22 : Hid (Below w.heap.size w w22) := bT B21.out S22.out
          clear hb22
          dsimp only
          have x1 := conv_tx ((V17.out.tx hunb).keep (bT (bT (bT (bT S18.out S19.out) S20.out) S21.out) S22.out))
          have x2 := conv_tx ((K17.out.tx hunb).keep (bT (bT (bT (bT S18.out S19.out) S20.out) S21.out) S22.out))
          have MW := Hid.mk' ((M17.out.keep (bT (bT (bT (bT S18.out S19.out) S20.out) S21.out) S22.out)).mst B22.out (by have := SZ.out; omega))
          go_wp2_with fail
          refine (whole_any g en cc F eo ec E w w22 MW.out (HE.out.keep B22.out) HFn.out HN.out (HFd.out.trans HD.out.symm) HCC.out HEN.out).mono ?_
          rintro e w23 ⟨rfl, hb23⟩
          have S23 := Hid.mk' hb23
          have B23 : Hid (Below w.heap.size w w23) := bT B22.out S23.out
          clear hb23 MW x1 x2
          dsimp only
          have x1 := conv_tx ((I17.out.tx hb).keep (bT (bT (bT (bT (bT S18.out S19.out) S20.out) S21.out) S22.out) S23.out))
          have x2 := conv_tx (hT.out.keep B23.out)
          have q2 := fun W => ne9_no T W
          have hR := (R17.out.keep (bT (bT (bT (bT (bT S18.out S19.out) S20.out) S21.out) S22.out) S23.out)).own
          rw [HNR.out] at hR
          obtain ⟨r1, r2⟩ := mark_at hR
          obtain ⟨n1, hn1⟩ : ∃ n1, n1 = n + 1 := ⟨_, rfl⟩
          rw [← hn1] at r2
          have r1' : w23.cell? ⟨gr, n, none⟩ = some (.int .u8 165) := r1
          have r2' : w23.cell? ⟨gr, n1, none⟩ = some (.int .u8 166) := r2
          have hw5 : IntKind.i64.wrap ((n : Int) + 1) = (n1 : Int) := by rw [IntKind.wrap_i64]; omega
          have i1 : (0 : Int) ≤ (n : Int) := by omega
          have i2 : (n : Int) < (nr : Int) := by have := HNR.out; omega
          have i3 : (0 : Int) ≤ (n1 : Int) := by omega
          have i4 : (n1 : Int) < (nr : Int) := by have := HNR.out; omega
          clear hR r1 r2 hn1
          go_upto_if 183 with fail
          clear x1 x2 q2 r1' r2' hw5 i1 i2 i3 i4 hwu
          have M23 := Hid.mk' (M17.out.keep (bT (bT (bT (bT (bT S18.out S19.out) S20.out) S21.out) S22.out) S23.out))
          have I23 := Hid.mk' (I17.out.keep (bT (bT (bT (bT (bT S18.out S19.out) S20.out) S21.out) S22.out) S23.out))
          have K23 := Hid.mk' (K17.out.keep (bT (bT (bT (bT (bT S18.out S19.out) S20.out) S21.out) S22.out) S23.out))
          have X23 := Hid.mk' (X17.out.keep (bT (bT (bT (bT (bT S18.out S19.out) S20.out) S21.out) S22.out) S23.out))
          have Y23 := Hid.mk' (Y17.out.keep (bT (bT (bT (bT (bT S18.out S19.out) S20.out) S21.out) S22.out) S23.out))
          have V23 := Hid.mk' (V17.out.keep (bT (bT (bT (bT (bT S18.out S19.out) S20.out) S21.out) S22.out) S23.out))
          have D23 := Hid.mk' (D17.out.keep (bT (bT (bT (bT (bT S18.out S19.out) S20.out) S21.out) S22.out) S23.out))
          have N23 := Hid.mk' (N17.out.keep (bT (bT (bT (bT (bT S18.out S19.out) S20.out) S21.out) S22.out) S23.out))
          clear S18 S19 S20 S21 S22 S23 B17 B18 B19 B20 B21 B22 M17 R17 I17 K17 X17 Y17 V17 D17 N17 A18 HF18 A20 HF20
          have hSC := M23.out.sp B23.out (by have := SZ.out; omega)
          rw [HFn.out] at hSC
          have SC := Hid.mk' hSC
          clear hSC M23
          go_wp2_with fail
          refine (spoil_any (.slice (some ⟨g, 0, none⟩) en cc) F w w23 w3.heap.size SC.out.1 SC.out.2 (by have := HFn.out; have := HEN.out; omega)).mono ?_
          rintro e w24 ⟨⟨z24, rfl⟩, hk⟩
          have KC := Hid.mk' hk
          clear hk SC
          dsimp only
          have I24 := Hid.mk' (I23.out.kept KC.out (by have := SZ.out; omega))
          have K24 := Hid.mk' (K23.out.kept KC.out (by have := SZ.out; omega))
          have X24 := Hid.mk' (X23.out.kept KC.out (by have := SZ.out; omega))
          have Y24 := Hid.mk' (Y23.out.kept KC.out (by have := SZ.out; omega))
          have V24 := Hid.mk' (V23.out.kept KC.out (by have := SZ.out; omega))
          have D24 := Hid.mk' (D23.out.kept KC.out (by have := SZ.out; omega))
          have N24 := Hid.mk' (N23.out.kept KC.out (by have := SZ.out; omega))
          have B24 : Hid (Below w.heap.size w w24) := Kept.on B23.out KC.out (Nat.le_refl _)
          clear I23 K23 X23 Y23 V23 D23 N23 B23 KC
          go_wp2_with fail
          go_loopg [22] n (fun m x22 wx => ∃ (j : Nat) (Y : List UInt8), x22 = .int .i64 (j : Int) ∧ j + m = n ∧ Hid (Bs w3.heap.size w4.heap.size wx (.slice (some ⟨gr, 0, none⟩) n cr) n Y) ∧ Hid (Kept w3.heap.size w4.heap.size w24 wx))
          case atStart => exact ⟨0, T, rfl, by omega, I24.out, Kept.refl _ _ _⟩
          case round =>
            obtain ⟨j, Y, rfl, hjm, UB, KK⟩ := hrel
            obtain ⟨go, hgo⟩ : ∃ g, g = gk - 1 := ⟨_, rfl⟩
            by_cases hj : j < n
            · have hj0 : (0 : Int) ≤ (j : Int) := by omega
              have hj1 : (j : Int) < (n : Int) := by omega
              have hw4 : IntKind.i64.wrap ((j : Int) + 1) = ((j + 1 : Nat) : Int) := by rw [IntKind.wrap_i64]; omega
              obtain ⟨g1, e1, t3, f3⟩ := byte_at UB.out.own hj
              have e2 : gr = g1 := by simpa using e1
              subst e2
              have hx := xr (at8 Y j)
              have NN := Hid.mk' (UB.out.set (j := j) (at8 Y j ^^^ 85) KK.out (Nat.le_refl _) (Nat.le_refl _))
              clear hj e1
              go_wp2
              go_roundg go
              case measure => omega
              case rel => exact ⟨j + 1, _, by go_num, by omega, NN.out.1, NN.out.2⟩
            · have hj1 : ¬ (j : Int) < (n : Int) := by omega
              have KU := Hid.mk' KK.out
              clear hgo hjm hj I24 UB KK
              have K25 := Hid.mk' (K24.out.kept KU.out (by have := SZ.out; omega))
              have X25 := Hid.mk' (X24.out.kept KU.out (by have := SZ.out; omega))
              have Y25 := Hid.mk' (Y24.out.kept KU.out (by have := SZ.out; omega))
              have V25 := Hid.mk' (V24.out.kept KU.out (by have := SZ.out; omega))
              have D25 := Hid.mk' (D24.out.kept KU.out (by have := SZ.out; omega))
              have N25 := Hid.mk' (N24.out.kept KU.out (by have := SZ.out; omega))
              have B25 : Hid (Below w.heap.size w wr) := Kept.on B24.out KU.out (by have := SZ.out; omega)
              clear K24 X24 Y24 V24 D24 N24 B24 KU
              go_wp2_with fail
              refine (rinvert_any eo en ec E wr (HE.out.keep B25.out) HN.out (by omega)).mono ?_
              rintro e w26 ⟨v26, F26, rfl, hF26, hL26⟩
              have S26 : Hid (Below wr.heap.size wr w26) := hL26.bel
              have B26 : Hid (Below w.heap.size w w26) := bT B25.out S26.out
              obtain ⟨p26, c26, rfl⟩ := own_shape hL26.own
              have A26 := Hid.mk' (Ls.of hL26).ez
              have HF26 : Hid (F26.map Er.d = inv D) := by unfold Hid; rw [hF26, HD.out]
              clear hL26 hF26
              dsimp only
              go_wp2_with fail
              refine (same_yes p8 F8.length c8 F8 p26 F26.length c26 F26 w26 ((X25.out.keep S26.out).ez) (A26.out) rfl rfl (HF8.out.trans HF26.out.symm) (by have := len_of HF8.out; have := HIl.out; omega)).mono ?_
              rintro e w27 ⟨rfl, hb27⟩
              have S27 := Hid.mk' hb27
              have B27 : Hid (Below w.heap.size w w27) := bT B26.out S27.out
              clear hb27
              dsimp only
              go_wp2_with fail
              refine (rtrim_any eo en ec E w27 (HE.out.keep B27.out) HN.out (by omega)).mono ?_
              rintro e w28 ⟨v28, F28, rfl, hF28, hL28⟩
              have S28 : Hid (Below w27.heap.size w27 w28) := hL28.bel
              have B28 : Hid (Below w.heap.size w w28) := bT B27.out S28.out
              obtain ⟨p28, c28, rfl⟩ := own_shape hL28.own
              have A28 := Hid.mk' (Ls.of hL28).ez
              have HF28 : Hid (F28.map Er.d = trim D) := by unfold Hid; rw [hF28, HD.out]
              clear hL28 hF28
              dsimp only
              go_wp2_with fail
              refine (same_yes p9 F9.length c9 F9 p28 F28.length c28 F28 w28 ((Y25.out.keep (bT (bT S26.out S27.out) S28.out)).ez) (A28.out) rfl rfl (HF9.out.trans HF28.out.symm) (by have := len_of HF9.out; have := HTr.out; omega)).mono ?_
              rintro e w29 ⟨rfl, hb29⟩
              have S29 := Hid.mk' hb29
              have B29 : Hid (Below w.heap.size w w29) := bT B28.out S29.out
              clear hb29
              dsimp only
              go_wp2_with fail
              refine (same_yes p12 F12.length c12 F12 p13 F13.length c13 F13 w29 ((D25.out.keep (bT (bT (bT S26.out S27.out) S28.out) S29.out)).ez) ((N25.out.keep (bT (bT (bT S26.out S27.out) S28.out) S29.out)).ez) rfl rfl (HF12.out.trans HF13.out.symm) (by have := len_of HF12.out; have := trim_len [(⟨0, T, U⟩ : Ed)]; simp at this; omega)).mono ?_
              rintro e w30 ⟨rfl, hb30⟩
              have S30 := Hid.mk' hb30
              have B30 : Hid (Below w.heap.size w w30) := bT B29.out S30.out
              clear hb30
              dsimp only
              have x1 := conv_tx ((V25.out.tx hunb).keep (bT (bT (bT (bT S26.out S27.out) S28.out) S29.out) S30.out))
              have x2 := conv_tx ((K25.out.tx hunb).keep (bT (bT (bT (bT S26.out S27.out) S28.out) S29.out) S30.out))
              have q3 := fun W => eq9_yes U W
              go_wp2
              go_ret
              exact ⟨rfl, B30.out⟩
end Go.Proofs.Ythklmdnamkjgmaa
