/- PinsMoves, walked. -/
import Derived.Test.YtdoheblkhnmmiaaKep
import Derived.Test.YtdoheblkhnmmiaaNms
import Derived.Test.YtdoheblkhnmmiaaRcr
namespace Go.Proofs.Ytdoheblkhnmmiaa
open Go.RowKit

set_option maxRecDepth 8000
theorem Cpd.triples {w W : World} {B : Nat} {E F : List Er} (h : Cpd w W B E F) (hl : F.length = E.length) : F.map Er.t = E.map Er.t := by
  apply List.ext_getElem?
  intro k
  rw [List.getElem?_map, List.getElem?_map]
  by_cases hk : k < E.length
  · have h1 := List.getElem?_eq_getElem hk
    have h2 := List.getElem?_eq_getElem (show k < F.length by omega)
    have h3 := h k _ _ h1 h2
    rw [h1, h2]
    simp only [Option.map_some, Er.t, h3.a, h3.o, h3.n]
  · rw [List.getElem?_eq_none (by omega), List.getElem?_eq_none (by omega)]
set_option maxHeartbeats 8000000 in
set_option linter.unusedSimpArgs false in
theorem pinsMoves_walk (L : List Int) (ao : Option Addr) (n c : Nat) (E : List Er) (w : World) (hL : L.length = 27) (HE : Hid (Edz w ao E)) (hn : E.length = n) (hb : n ≤ 140737488351232) :
    Calls Try.prog 4 #[.agg (mk L), .slice ao n c] w fun e w' => e = .returned (.bool true) ∧ Below w.heap.size w w' := by
  have HN := Hid.mk' hn
  generalize hW1 : w.alloc (.cells (mk L) 24) = W1
  have B1 : Hid (Blk W1 w.heap.size 24 (mk L)) := by subst hW1; exact Blk.new w 24 _
  have L1 : Hid (Below w.heap.size w W1) := by subst hW1; exact bAlloc (Below.refl _ _) _
  have CA := Hid.mk' (awake_any W1)
  clear hn
  go_enter Try.func4, Try.ntmps4
  go_upto_region 1 with fail
  clear hW1
  go_wp2_with fail
  refine CA.out.mono ?_
  rintro e w1 ⟨rfl, hb1⟩
  have B2 := Hid.mk' (B1.out.keep hb1)
  have L2 := Hid.mk' (bT L1.out hb1)
  clear hb1 CA B1 L1
  go_wp2_with fail
  refine (great_any ao n c E w1 (HE.out.keep L2.out) HN.out (by omega)).mono ?_
  rintro e w2 ⟨gb, rfl, hgs, hb2⟩
  have B3 := Hid.mk' (B2.out.keep hb2)
  have L3 := Hid.mk' (bT L2.out hb2)
  clear hb2 B2 L2
  cases gb with
  | true =>
    clear hgs
    go_wp2
    go_ret
    exact ⟨rfl, L3.out⟩
  | false =>
  have HGS := Hid.mk' (hgs rfl)
  clear hgs
  go_wp2_with fail
  refine (copied_any ao n c E w2 (HE.out.keep L3.out) HN.out HGS.out).mono ?_
  rintro e w4 ⟨g, B, F, rfl, hF, hrow, hcp, hb4⟩
  have HC : Hid (Cps w2 w4 g B n E F) := ⟨hF, hrow, hcp, hb4⟩
  have B4 := Hid.mk' (B3.out.keep hb4)
  have L4 := Hid.mk' (bT L3.out hb4)
  have HE2 := Hid.mk' (HE.out.keep L3.out)
  have HT : Hid (F.map Er.t = E.map Er.t) := hcp.triples (by rw [hF, HN.out])
  clear hF hrow hcp hb4 B3 L3
  go_wp2_with fail
  go_loopg [6, 7, 16] n (fun m x6 x7 x16 wx => ∃ k : Nat, x16 = .int .i64 (k : Int) ∧ k + m = n ∧ Hid (Blk wx w.heap.size 24 (mk L)) ∧ Hid (Cps w2 wx g B n E F) ∧ Hid (Below w.heap.size w wx))
  case atStart => exact ⟨0, rfl, by omega, B4.out, HC.out, L4.out⟩
  case round =>
    obtain ⟨k, rfl, hkm, K1, KP, KB⟩ := hrel
    obtain ⟨go, hgo⟩ : ∃ g, g = gk - 1 := ⟨_, rfl⟩
    clear B4 HC L4
    by_cases hk : k < n
    · have hk' : (k : Int) < (n : Int) := by omega
      have hk0 : (0 : Int) ≤ (k : Int) := by omega
      obtain ⟨r, hr⟩ : ∃ r, E[k]? = some r := ⟨_, List.getElem?_eq_getElem (by have := HN.out; omega)⟩
      obtain ⟨fr, hfr⟩ : ∃ r, F[k]? = some r := ⟨_, List.getElem?_eq_getElem (by have := KP.out.len; omega)⟩
      obtain ⟨g0, o0, rfl, h3⟩ := HE.out.row.ed3 hr
      obtain ⟨fa, fo, fn, -, -⟩ := KP.out.cp k r fr hr hfr
      obtain ⟨g9, o9, e9, h10⟩ := KP.out.row.edr.ed3 hfr
      simp only [Option.some.injEq, Addr.mk.injEq, and_true] at e9
      obtain ⟨rfl, rfl⟩ := e9
      rw [Nat.zero_add] at h10
      obtain ⟨ra, rp1, ro, rc1, rp2, rn, rc2⟩ := r
      obtain ⟨sa, sp1, so, k1, sp2, sn, k2⟩ := fr
      dsimp only at h3 h10 fa fo fn
      have fa' := fa.symm
      have fo' := fo.symm
      have fn' := fn.symm
      clear fa fo fn
      subst fa' fo' fn'
      have t0 := h10.e0
      have t1 := h10.e1
      have t2 := h10.e2
      have CS := Hid.mk' (fun W => shift_any L ra sp1 sp2 ro k1 rn k2 W hL)
      have CR := Hid.mk' (fun W => rshift_any L ra rp1 rp2 ro rc1 rn rc2 W hL)
      have hsl : (shl L ra ro rn).length = 27 := by rw [shl_len]; exact hL
      have hne := fun W => ne24 W (shl L ra ro rn) hsl
      generalize shl L ra ro rn = Sh at *
      have E3 := Hid.mk' (h3.keep KB.out)
      clear hr hfr h3 h10
      obtain ⟨w6, hw6⟩ : ∃ w1, w1 = wr.alloc (.cells #[.int .i64 ra, .slice sp1 ro k1, .slice sp2 rn k2] 42) := ⟨_, rfl⟩
      have B1 : Hid (Below wr.heap.size wr w6) := by unfold Hid; rw [hw6]; exact bAlloc (Below.refl _ _) _
      have Y0 : Hid (Blk w6 wr.heap.size 42 #[.int .i64 ra, .slice sp1 ro k1, .slice sp2 rn k2]) := by unfold Hid; rw [hw6]; exact Blk.new _ _ _
      go_upto_region 9 with fail
      rw [← hw6]
      clear hw6 t0 t1 t2
      have hb9 : Below wr.heap.size wr w6.drew := B1.out.drew
      have KD : Hid (Blk w6.drew w.heap.size 24 (mk L)) := K1.out.keep hb9
      have YD : Hid (Blk w6.drew wr.heap.size 42 #[.int .i64 ra, .slice sp1 ro k1, .slice sp2 rn k2]) := Y0.out
      have DD := Hid.mk' (E3.out.keep hb9)
      have PD := Hid.mk' (KP.out.keep hb9)
      have LD := Hid.mk' (bT KB.out hb9)
      generalize wr.heap.size = q at *
      clear B1 Y0 hb9 KB E3 K1 KP
      refine wp_region_held (S := fun w' => Blk w' w.heap.size 24 (mk L) ∧ Blk w' q 42 #[.int .i64 ra, .slice sp1 ro k1, .slice sp2 rn k2] ∧ Ed3 w' g0 (o0 + k * 3) ra rp1 ro rc1 rp2 rn rc2) (by kernel_rfl) ?_
      change wpAnyH _ _ _ _ _ _ _ _ (World.drew _)
      generalize w6.drew = V3 at *
      refine wpAnyH_take (i := 0) (v := .agg (mk L)) rfl (by kernel_rfl) (by kernel_rfl) (by kernel_rfl) (fun _ _ _ h => h) (yi24 rfl (.tmp 2) rfl rfl hL (fun _ h => h.1)) ⟨KD.out, YD.out, DD.out⟩ ?_
      try simp only [Act.put, List.getElem_toArray, List.getElem_cons_zero, List.getElem_cons_succ, List.setIfInBounds_toArray, List.set_cons_zero, List.set_cons_succ]
      refine wpAnyH_take (i := 1) (v := .agg #[.int .i64 ra, .slice sp1 ro k1, .slice sp2 rn k2]) rfl (by kernel_rfl) (by kernel_rfl) (by kernel_rfl) (fun _ _ _ h => h) (Or.inl ⟨by rfl, fun w9 h9 => by have h5 := h9.2.1.cell (j := 0) rfl; have h6 := h9.2.1.cell (j := 1) rfl; have h7 := h9.2.1.cell (j := 2) rfl; go_simp⟩) ⟨KD.out, YD.out, DD.out⟩ ?_
      try simp only [Act.put, List.getElem_toArray, List.getElem_cons_zero, List.getElem_cons_succ, List.setIfInBounds_toArray, List.set_cons_zero, List.set_cons_succ]
      refine wpAnyH_take (i := 3) (v := .agg (mk L)) rfl (by kernel_rfl) (by kernel_rfl) (by kernel_rfl) (fun _ _ _ h => h) (yi24 rfl (.tmp 2) rfl rfl hL (fun _ h => h.1)) ⟨KD.out, YD.out, DD.out⟩ ?_
      try simp only [Act.put, List.getElem_toArray, List.getElem_cons_zero, List.getElem_cons_succ, List.setIfInBounds_toArray, List.set_cons_zero, List.set_cons_succ]
      refine wpAnyH_take (i := 4) (v := .slice (some ⟨g0, o0, none⟩) n c) rfl (by kernel_rfl) (by kernel_rfl) (by kernel_rfl) (fun _ _ _ h => h) (Yields.yieldsIf (Or.inl ⟨by rfl, fun w => by go_simp⟩)) ⟨KD.out, YD.out, DD.out⟩ ?_
      try simp only [Act.put, List.getElem_toArray, List.getElem_cons_zero, List.getElem_cons_succ, List.setIfInBounds_toArray, List.set_cons_zero, List.set_cons_succ]
      refine wpAnyH_take (i := 5) (v := .int .i64 (k : Int)) rfl (by kernel_rfl) (by kernel_rfl) (by kernel_rfl) (fun _ _ _ h => h) (Yields.yieldsIf (Or.inl ⟨by rfl, fun w => by go_simp⟩)) ⟨KD.out, YD.out, DD.out⟩ ?_
      try simp only [Act.put, List.getElem_toArray, List.getElem_cons_zero, List.getElem_cons_succ, List.setIfInBounds_toArray, List.set_cons_zero, List.set_cons_succ]
      refine wpAnyH_take (i := 6) (v := .pointer (some ⟨g0, o0 + k * 3, none⟩)) rfl (by kernel_rfl) (by kernel_rfl) (by kernel_rfl) (fun _ _ _ h => h) (Yields.yieldsIf (Or.inl ⟨by rfl, fun w => by go_simp⟩)) ⟨KD.out, YD.out, DD.out⟩ ?_
      try simp only [Act.put, List.getElem_toArray, List.getElem_cons_zero, List.getElem_cons_succ, List.setIfInBounds_toArray, List.set_cons_zero, List.set_cons_succ]
      refine wpAnyH_take (i := 7) (v := .agg #[.int .i64 ra, .slice rp1 ro rc1, .slice rp2 rn rc2]) rfl (by kernel_rfl) (by kernel_rfl) (by kernel_rfl) (fun _ _ _ h => h) (Or.inl ⟨by rfl, fun w9 h9 => by obtain ⟨h5, h6, h7⟩ := h9.2.2; go_simp⟩) ⟨KD.out, YD.out, DD.out⟩ ?_
      try simp only [Act.put, List.getElem_toArray, List.getElem_cons_zero, List.getElem_cons_succ, List.setIfInBounds_toArray, List.set_cons_zero, List.set_cons_succ]
      refine wpAnyH_all (rs := [2]) (by kernel_rfl) (by simp) (AllH.cons rfl (fun K hK => ?_) AllH.nil)
      go_simp
      refine (CS.out V3).mono ?_
      rintro e w7 ⟨rfl, hb9⟩
      have K7 := Hid.mk' (KD.out.keep hb9)
      have Y7 := Hid.mk' (YD.out.keep hb9)
      have D7 := Hid.mk' (DD.out.keep hb9)
      have P7 := Hid.mk' (PD.out.keep hb9)
      have L7 := Hid.mk' (bT LD.out hb9)
      clear hb9
      dsimp only
      refine hK _ _ ⟨⟨K7.out, Y7.out, D7.out⟩, ?_⟩
      clear hK K
      try simp only [Act.put, List.getElem_toArray, List.getElem_cons_zero, List.getElem_cons_succ, List.setIfInBounds_toArray, List.set_cons_zero, List.set_cons_succ]
      refine wpAnyH_all (rs := [8]) (by kernel_rfl) (by simp) (AllH.cons rfl (fun K hK => ?_) AllH.nil)
      go_simp
      refine (CR.out w7).mono ?_
      rintro e w8 ⟨rfl, hb9⟩
      have K8 := Hid.mk' (K7.out.keep hb9)
      have Y8 := Hid.mk' (Y7.out.keep hb9)
      have D8 := Hid.mk' (D7.out.keep hb9)
      have P8 := Hid.mk' (P7.out.keep hb9)
      have L8 := Hid.mk' (bT L7.out hb9)
      clear hb9
      dsimp only
      refine hK _ _ ⟨⟨K8.out, Y8.out, D8.out⟩, ?_⟩
      clear hK K
      try simp only [Act.put, List.getElem_toArray, List.getElem_cons_zero, List.getElem_cons_succ, List.setIfInBounds_toArray, List.set_cons_zero, List.set_cons_succ]
      refine wpAnyH_take (i := 9) (v := .bool false) rfl (by kernel_rfl) (by kernel_rfl) (by kernel_rfl) (fun _ _ _ h => h) (Yields.yieldsIf (Or.inl ⟨by rfl, fun w => by go_simp⟩)) ⟨K8.out, Y8.out, D8.out⟩ ?_
      try simp only [Act.put, List.getElem_toArray, List.getElem_cons_zero, List.getElem_cons_succ, List.setIfInBounds_toArray, List.set_cons_zero, List.set_cons_succ]
      refine wpAnyH_done (by kernel_rfl) ?_ _
      go_wp2
      go_roundg go
      case measure => omega
      case rel => exact ⟨k + 1, by go_num, by omega, K8.out, P8.out, L8.out⟩
    · have hk' : ¬ (k : Int) < (n : Int) := by omega
      have hml : (mvL L (E.map Er.t)).length = 27 := by rw [mvL_len]; exact hL
      have CM := Hid.mk' (fun W (h : Cps w2 W g B n E F) => HT.out ▸ move_any L (some ⟨g, 0, none⟩) n (n + 1) F W hL h.row.edr h.len (by omega))
      have CN := Hid.mk' (fun W (h : Below w.heap.size w W) => rmove_any L ao n c E W hL (HE.out.row.keep h) HN.out (by omega))
      have CK := Hid.mk' (fun W (h : Cps w2 W g B n E F) => kept_any w2 ao n c g B E F W HE2.out h HN.out HGS.out)
      have hee := fun W => eq24 W (mvL L (E.map Er.t)) hml
      generalize mvL L (E.map Er.t) = Mv at *
      go_upto_region 12 with fail
      have KD : Hid (Blk wr.drew w.heap.size 24 (mk L)) := K1.out
      have PD := Hid.mk' (KP.out.keep (Below.refl _ wr).drew)
      have LD : Hid (Below w.heap.size w wr.drew) := KB.out.drew
      clear K1 KP KB
      refine wp_region_held (S := fun w' => Blk w' w.heap.size 24 (mk L)) (by kernel_rfl) ?_
      change wpAnyH _ _ _ _ _ _ _ _ (World.drew _)
      generalize wr.drew = V3 at *
      refine wpAnyH_take (i := 0) (v := .agg (mk L)) rfl (by kernel_rfl) (by kernel_rfl) (by kernel_rfl) (fun _ _ _ h => h) (yi24 rfl (.tmp 2) rfl rfl hL (fun _ h => h)) KD.out ?_
      try simp only [Act.put, List.getElem_toArray, List.getElem_cons_zero, List.getElem_cons_succ, List.setIfInBounds_toArray, List.set_cons_zero, List.set_cons_succ]
      refine wpAnyH_take (i := 1) (v := .slice (some ⟨g, 0, none⟩) n (n + 1)) rfl (by kernel_rfl) (by kernel_rfl) (by kernel_rfl) (fun _ _ _ h => h) (Yields.yieldsIf (Or.inl ⟨by rfl, fun w => by go_simp⟩)) KD.out ?_
      try simp only [Act.put, List.getElem_toArray, List.getElem_cons_zero, List.getElem_cons_succ, List.setIfInBounds_toArray, List.set_cons_zero, List.set_cons_succ]
      refine wpAnyH_take (i := 3) (v := .agg (mk L)) rfl (by kernel_rfl) (by kernel_rfl) (by kernel_rfl) (fun _ _ _ h => h) (yi24 rfl (.tmp 2) rfl rfl hL (fun _ h => h)) KD.out ?_
      try simp only [Act.put, List.getElem_toArray, List.getElem_cons_zero, List.getElem_cons_succ, List.setIfInBounds_toArray, List.set_cons_zero, List.set_cons_succ]
      refine wpAnyH_take (i := 4) (v := .slice ao n c) rfl (by kernel_rfl) (by kernel_rfl) (by kernel_rfl) (fun _ _ _ h => h) (Yields.yieldsIf (Or.inl ⟨by rfl, fun w => by go_simp⟩)) KD.out ?_
      try simp only [Act.put, List.getElem_toArray, List.getElem_cons_zero, List.getElem_cons_succ, List.setIfInBounds_toArray, List.set_cons_zero, List.set_cons_succ]
      refine wpAnyH_all (rs := [2]) (by kernel_rfl) (by simp) (AllH.cons rfl (fun K hK => ?_) AllH.nil)
      go_simp
      refine (CM.out V3 PD.out).mono ?_
      rintro e w7 ⟨rfl, hb9⟩
      have K7 := Hid.mk' (KD.out.keep hb9)
      have P7 := Hid.mk' (PD.out.keep hb9)
      have L7 := Hid.mk' (bT LD.out hb9)
      clear hb9
      dsimp only
      refine hK _ _ ⟨K7.out, ?_⟩
      clear hK K
      try simp only [Act.put, List.getElem_toArray, List.getElem_cons_zero, List.getElem_cons_succ, List.setIfInBounds_toArray, List.set_cons_zero, List.set_cons_succ]
      refine wpAnyH_all (rs := [5]) (by kernel_rfl) (by simp) (AllH.cons rfl (fun K hK => ?_) AllH.nil)
      go_simp
      refine (CN.out w7 L7.out).mono ?_
      rintro e w8 ⟨rfl, hb9⟩
      have K8 := Hid.mk' (K7.out.keep hb9)
      have P8 := Hid.mk' (P7.out.keep hb9)
      have L8 := Hid.mk' (bT L7.out hb9)
      clear hb9
      dsimp only
      refine hK _ _ ⟨K8.out, ?_⟩
      clear hK K
      try simp only [Act.put, List.getElem_toArray, List.getElem_cons_zero, List.getElem_cons_succ, List.setIfInBounds_toArray, List.set_cons_zero, List.set_cons_succ]
      refine wpAnyH_take (i := 6) (v := .bool true) rfl (by kernel_rfl) (by kernel_rfl) (by kernel_rfl) (fun _ _ _ h => h) (Yields.yieldsIf (Or.inl ⟨by rfl, fun w => by go_simp⟩)) K8.out ?_
      try simp only [Act.put, List.getElem_toArray, List.getElem_cons_zero, List.getElem_cons_succ, List.setIfInBounds_toArray, List.set_cons_zero, List.set_cons_succ]
      refine wpAnyH_take (i := 7) (v := .bool true) rfl (by kernel_rfl) (by kernel_rfl) (by kernel_rfl) (fun _ _ _ h => h) (Yields.yieldsIf (Or.inl ⟨by rfl, fun w => by go_simp⟩)) K8.out ?_
      try simp only [Act.put, List.getElem_toArray, List.getElem_cons_zero, List.getElem_cons_succ, List.setIfInBounds_toArray, List.set_cons_zero, List.set_cons_succ]
      refine wpAnyH_take (i := 8) (v := .slice (some ⟨g, 0, none⟩) n (n + 1)) rfl (by kernel_rfl) (by kernel_rfl) (by kernel_rfl) (fun _ _ _ h => h) (Yields.yieldsIf (Or.inl ⟨by rfl, fun w => by go_simp⟩)) K8.out ?_
      try simp only [Act.put, List.getElem_toArray, List.getElem_cons_zero, List.getElem_cons_succ, List.setIfInBounds_toArray, List.set_cons_zero, List.set_cons_succ]
      refine wpAnyH_take (i := 9) (v := .slice ao n c) rfl (by kernel_rfl) (by kernel_rfl) (by kernel_rfl) (fun _ _ _ h => h) (Yields.yieldsIf (Or.inl ⟨by rfl, fun w => by go_simp⟩)) K8.out ?_
      try simp only [Act.put, List.getElem_toArray, List.getElem_cons_zero, List.getElem_cons_succ, List.setIfInBounds_toArray, List.set_cons_zero, List.set_cons_succ]
      refine wpAnyH_all (rs := [10]) (by kernel_rfl) (by simp) (AllH.cons rfl (fun K hK => ?_) AllH.nil)
      go_simp
      refine (CK.out w8 P8.out).mono ?_
      rintro e w9 ⟨rfl, hb9⟩
      have K9 := Hid.mk' (K8.out.keep hb9)
      have L9 := Hid.mk' (bT L8.out hb9)
      clear hb9
      dsimp only
      refine hK _ _ ⟨K9.out, ?_⟩
      clear hK K
      try simp only [Act.put, List.getElem_toArray, List.getElem_cons_zero, List.getElem_cons_succ, List.setIfInBounds_toArray, List.set_cons_zero, List.set_cons_succ]
      refine wpAnyH_take (i := 11) (v := .bool true) rfl (by kernel_rfl) (by kernel_rfl) (by kernel_rfl) (fun _ _ _ h => h) (Yields.yieldsIf (Or.inl ⟨by rfl, fun w => by go_simp⟩)) K9.out ?_
      try simp only [Act.put, List.getElem_toArray, List.getElem_cons_zero, List.getElem_cons_succ, List.setIfInBounds_toArray, List.set_cons_zero, List.set_cons_succ]
      refine wpAnyH_take (i := 12) (v := .bool true) rfl (by kernel_rfl) (by kernel_rfl) (by kernel_rfl) (fun _ _ _ h => h) (Yields.yieldsIf (Or.inl ⟨by rfl, fun w => by go_simp⟩)) K9.out ?_
      try simp only [Act.put, List.getElem_toArray, List.getElem_cons_zero, List.getElem_cons_succ, List.setIfInBounds_toArray, List.set_cons_zero, List.set_cons_succ]
      refine wpAnyH_done (by kernel_rfl) ?_ _
      go_wp2
      go_ret
      exact ⟨rfl, L9.out⟩
end Go.Proofs.Ytdoheblkhnmmiaa
