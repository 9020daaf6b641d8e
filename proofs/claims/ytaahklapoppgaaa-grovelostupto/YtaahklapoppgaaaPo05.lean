/- The law's alike. -/
import Derived.Test.YtaahklapoppgaaaPo01
import Derived.Test.YtaahklapoppgaaaPm37
import Derived.Test.YtaahklapoppgaaaPm26
namespace Go.Proofs.Ytaahklapoppgaaa
open Go.RowKit

set_option maxRecDepth 8000
theorem mk2_put1 {W : World} {p : Nat} {r : Nr} {A : List Int} (h : Blk W p 63 (nd r)) (hr : r.was.length = 27) (hA : A.length = 27) : Blk (W.setCells p 4 (ml A)) p 63 (nd { r with was := A }) := by
  have e1 : (nd r) = (r.hd ++ ml r.was ++ ml r.made).toArray := rfl
  rw [e1] at h
  have := blk_setCells (ml A) r.hd (ml r.was) (ml r.made) (by rw [ml_len, ml_len, hr, hA]) h
  exact this
theorem mk2_put2 {W : World} {p : Nat} {r : Nr} {A : List Int} (h : Blk W p 63 (nd r)) (hr : r.was.length = 27) (hr2 : r.made.length = 27) (hA : A.length = 27) : Blk (W.setCells p 31 (ml A)) p 63 (nd { r with made := A }) := by
  have e1 : (nd r) = (r.hd ++ ml r.was ++ ml r.made ++ []).toArray := by rw [List.append_nil]; rfl
  rw [e1] at h
  have := blk_setCells (ml A) (r.hd ++ ml r.was) (ml r.made) [] (by rw [ml_len, ml_len, hr2, hA]) h
  have e2 : (r.hd ++ ml r.was).length = 31 := by simp [Nr.hd, ml_len, hr]
  rw [e2, List.append_nil] at this
  exact this
theorem there_at {W : World} {p o : Nat} {r : Nr} (h : Blk W p 63 (nd r)) (hr : r.cs.length = 58) (ho : o + 27 ≤ 58) : W.there p o 27 := fun j hj => by
  have := there_blk (cs := r.cs) h (o + j) (by omega)
  simpa using this
structure Aw2 (V W : World) (p q : Nat) (r s : Nr) : Prop where
  a : Blk W p 63 (nd r)
  b : Blk W q 63 (nd s)
  ne : p ≠ q
  pv : V.heap.size ≤ p
  bel : Below V.heap.size V W
theorem Aw2.keep {V W W' : World} {p q : Nat} {r s : Nr} (h : Aw2 V W p q r s) (hb : Below W.heap.size W W') : Aw2 V W' p q r s := ⟨h.a.keep hb, h.b.keep hb, h.ne, h.pv, bT h.bel hb⟩
set_option maxHeartbeats 16000000 in
set_option linter.unusedSimpArgs false in
theorem alike_walk (Z : Nr) (hZ : Z.cs.length = 58) (hz63 : ∀ w, (zeroValue 63).run Try.prog w = .ok (.agg (nd Z)) w) (ao : Option Addr) (n c : Nat) (now : Int) (G : List Nr) (bo : Option Addr) (d : Nat) (H : List Nr) (k : Nat) (w : World) (HG : Hid (Grz w ao G)) (HH : Hid (Grz w bo H)) (hn : G.length = n) (hk : H.length = n) (HA : Hid (Alk (G.map Nr.d) (H.map Nr.d) k)) (hb : n ≤ 281474976710656) :
    Calls Try.prog 29 #[.agg #[.slice ao n c, .int .i64 now], .agg #[.slice bo n d, .int .i64 now], .int .i64 (k : Int)] w fun e w' => e = .returned (.bool true) ∧ Below w.heap.size w w' := by
  have hZn : nd Z ≠ #[] := fun h => by have := congrArg Array.size h; simp [nd, hZ] at this
  obtain ⟨W1, hW1⟩ : ∃ x, (w.alloc (.cells #[.slice ao n c, .int .i64 now] 24)).alloc (.cells #[.slice bo n d, .int .i64 now] 24) = x := ⟨_, rfl⟩
  obtain ⟨b, hbb⟩ : ∃ b, w.heap.size = b := ⟨_, rfl⟩
  have L1 : Hid (Below w.heap.size w W1) := by unfold Hid; rw [← hW1]; exact bAlloc (bAlloc (Below.refl _ _) _) _
  have K1 : Hid (Blk W1 b 24 #[.slice ao n c, .int .i64 now]) := by unfold Hid; rw [← hW1, ← hbb]; exact (Blk.new w 24 _).keep (bAlloc (Below.refl _ _) _)
  have K2 : Hid (Blk W1 (b + 1) 24 #[.slice bo n d, .int .i64 now]) := by
    unfold Hid
    rw [← hW1, ← hbb]
    have := Blk.new (w.alloc (.cells #[.slice ao n c, .int .i64 now] 24)) 24 #[.slice bo n d, .int .i64 now]
    rwa [World.size_alloc] at this
  have a1 : W1.cell? ⟨b, 0, none⟩ = some (.slice ao n c) := K1.out.cell rfl
  have b1 : W1.cell? ⟨b, 1, none⟩ = some (.int .i64 now) := K1.out.cell rfl
  have a2 : W1.cell? ⟨b + 1, 0, none⟩ = some (.slice bo n d) := K2.out.cell rfl
  have b2 : W1.cell? ⟨b + 1, 1, none⟩ = some (.int .i64 now) := K2.out.cell rfl
  have HN := Hid.mk' hn
  have HK := Hid.mk' hk
  clear hn hk
  go_enter Try.func29, Try.ntmps29
  go_wp2_with fail
  clear hW1 hbb a1 b1 a2 b2
  go_loopg [7] n (fun m x7 wx => ∃ i : Nat, x7 = .int .i64 (i : Int) ∧ i + m = n ∧ Hid (Below w.heap.size w wx) ∧ Hid (Blk wx b 24 #[.slice ao n c, .int .i64 now]) ∧ Hid (Blk wx (b + 1) 24 #[.slice bo n d, .int .i64 now]))
  case atStart => exact ⟨0, rfl, by omega, L1.out, K1.out, K2.out⟩
  case round =>
    obtain ⟨i, rfl, him, KB, KX, KY⟩ := hrel
    obtain ⟨go, hgo⟩ : ∃ g, g = gk - 1 := ⟨_, rfl⟩
    have a1 : wr.cell? ⟨b, 0, none⟩ = some (.slice ao n c) := KX.out.cell rfl
    by_cases hi : i < n
    · have hi' : (i : Int) < (n : Int) := by omega
      have hi0 : (0 : Int) ≤ (i : Int) := by omega
      have hw8 : IntKind.i64.wrap ((i : Int) + 1) = ((i + 1 : Nat) : Int) := by rw [IntKind.wrap_i64]; omega
      obtain ⟨r, hr⟩ : ∃ r, G[i]? = some r := ⟨_, List.getElem?_eq_getElem (by have := HN.out; omega)⟩
      obtain ⟨s, hs⟩ : ∃ s, H[i]? = some s := ⟨_, List.getElem?_eq_getElem (by have := HK.out; omega)⟩
      have hzr := HG.out.nds i r hr
      have hzs := HH.out.nds i s hs
      have HZR := Hid.mk' hzr
      have HZS := Hid.mk' hzs
      obtain ⟨g, o, rfl, hnc⟩ := HG.out.at hr
      obtain ⟨g2, o2, rfl, hnc2⟩ := HH.out.at hs
      have HC1 : Hid (wr.drew.rangeAt g (o + i * 58) r.cs) := range_keep hnc.all KB.out.drew
      have HC2 : Hid (wr.drew.rangeAt g2 (o2 + i * 58) s.cs) := range_keep hnc2.all KB.out.drew
      have er : at' (G.map Nr.d) i = r.d := map_at hr
      have es : at' (H.map Nr.d) i = s.d := map_at hs
      have hi2 : i < (H.map Nr.d).length := by rw [List.length_map, HK.out]; exact hi
      have Hne : Hid (i ≠ k → r.d = s.d) := fun h => by have := HA.out.ne i hi2 h; rwa [er, es] at this
      have Heq : Hid (i = k → ({ r with was := s.was, made := s.made } : Nr).d = s.d) := fun h => by
        subst h
        have := HA.out.eq hi2
        rw [er, es] at this
        exact this
      have hcl : r.cs.length = 58 := hzr.cl
      have hcl2 : s.cs.length = 58 := hzs.cl
      have KBd : Hid (Below w.heap.size w wr.drew) := KB.out.drew
      have KXd := Hid.mk' (KX.out.keep (Below.refl _ _).drew)
      have KYd := Hid.mk' (KY.out.keep (Below.refl _ _).drew)
      clear hr hs hzr hzs hnc hnc2 er es hi2 KB KX KY
      go_upto_region 6 with fail
      go_cut [8, 9] from 31 to 41 (fun x8 x9 wx => ∃ p q, x8 = .pointer (some ⟨p, 0, none⟩) ∧ x9 = .pointer (some ⟨q, 0, none⟩) ∧ Hid (Aw2 wr.drew wx p q r s))
      case first =>
        clear a1
        have S0 : Hid (Below wr.drew.heap.size wr.drew wr.drew) := Below.refl _ _
        refine wp_region_held (S := fun w' => Below wr.drew.heap.size wr.drew w') (by kernel_rfl) ?_
        change wpAnyH _ _ _ _ _ _ _ _ (World.drew _)
        generalize wr.drew = V3 at *
        refine wpAnyH_take (i := 0) (v := .pointer (some ⟨b, 0, none⟩)) rfl (by kernel_rfl) (by kernel_rfl) (by kernel_rfl) (fun _ _ _ h => h) (Yields.yieldsIf (Or.inl ⟨by rfl, fun w => by go_simp⟩)) S0.out ?_
        try simp only [Act.put, List.getElem_toArray, List.getElem_cons_zero, List.getElem_cons_succ, List.setIfInBounds_toArray, List.set_cons_zero, List.set_cons_succ]
        refine wpAnyH_take (i := 1) (v := .slice (some ⟨g, o, none⟩) n c) rfl (by kernel_rfl) (by kernel_rfl) (by kernel_rfl) (fun _ _ _ h => h) (Or.inl ⟨by rfl, fun w9 h9 => by have h5 : w9.cell? ⟨b, 0, none⟩ = some (.slice (some ⟨g, o, none⟩) n c) := (KXd.out.keep h9).cell rfl; have h6 : w9.cell? ⟨b + 1, 0, none⟩ = some (.slice (some ⟨g2, o2, none⟩) n d) := (KYd.out.keep h9).cell rfl; go_simp⟩) S0.out ?_
        try simp only [Act.put, List.getElem_toArray, List.getElem_cons_zero, List.getElem_cons_succ, List.setIfInBounds_toArray, List.set_cons_zero, List.set_cons_succ]
        refine wpAnyH_take (i := 2) (v := .int .i64 (i : Int)) rfl (by kernel_rfl) (by kernel_rfl) (by kernel_rfl) (fun _ _ _ h => h) (Yields.yieldsIf (Or.inl ⟨by rfl, fun w => by go_simp⟩)) S0.out ?_
        try simp only [Act.put, List.getElem_toArray, List.getElem_cons_zero, List.getElem_cons_succ, List.setIfInBounds_toArray, List.set_cons_zero, List.set_cons_succ]
        refine wpAnyH_take (i := 3) (v := .pointer (some ⟨g, o + i * 58, none⟩)) rfl (by kernel_rfl) (by kernel_rfl) (by kernel_rfl) (fun _ _ _ h => h) (Yields.yieldsIf (Or.inl ⟨by rfl, fun w => by go_simp⟩)) S0.out ?_
        try simp only [Act.put, List.getElem_toArray, List.getElem_cons_zero, List.getElem_cons_succ, List.setIfInBounds_toArray, List.set_cons_zero, List.set_cons_succ]
        refine wpAnyH_take (i := 4) (v := .agg (nd r)) rfl (by kernel_rfl) (by kernel_rfl) (by kernel_rfl) (fun _ _ _ h => h) (yi_ld ty63 rfl (.tmp 34) rfl rfl r.cs hcl (fun _ h => range_keep HC1.out h)) S0.out ?_
        try simp only [Act.put, List.getElem_toArray, List.getElem_cons_zero, List.getElem_cons_succ, List.setIfInBounds_toArray, List.set_cons_zero, List.set_cons_succ]
        refine wpAnyH_take (i := 5) (v := .pointer (some ⟨b + 1, 0, none⟩)) rfl (by kernel_rfl) (by kernel_rfl) (by kernel_rfl) (fun _ _ _ h => h) (Yields.yieldsIf (Or.inl ⟨by rfl, fun w => by go_simp⟩)) S0.out ?_
        try simp only [Act.put, List.getElem_toArray, List.getElem_cons_zero, List.getElem_cons_succ, List.setIfInBounds_toArray, List.set_cons_zero, List.set_cons_succ]
        refine wpAnyH_take (i := 6) (v := .slice (some ⟨g2, o2, none⟩) n d) rfl (by kernel_rfl) (by kernel_rfl) (by kernel_rfl) (fun _ _ _ h => h) (Or.inl ⟨by rfl, fun w9 h9 => by have h5 : w9.cell? ⟨b, 0, none⟩ = some (.slice (some ⟨g, o, none⟩) n c) := (KXd.out.keep h9).cell rfl; have h6 : w9.cell? ⟨b + 1, 0, none⟩ = some (.slice (some ⟨g2, o2, none⟩) n d) := (KYd.out.keep h9).cell rfl; go_simp⟩) S0.out ?_
        try simp only [Act.put, List.getElem_toArray, List.getElem_cons_zero, List.getElem_cons_succ, List.setIfInBounds_toArray, List.set_cons_zero, List.set_cons_succ]
        refine wpAnyH_take (i := 7) (v := .int .i64 (i : Int)) rfl (by kernel_rfl) (by kernel_rfl) (by kernel_rfl) (fun _ _ _ h => h) (Yields.yieldsIf (Or.inl ⟨by rfl, fun w => by go_simp⟩)) S0.out ?_
        try simp only [Act.put, List.getElem_toArray, List.getElem_cons_zero, List.getElem_cons_succ, List.setIfInBounds_toArray, List.set_cons_zero, List.set_cons_succ]
        refine wpAnyH_take (i := 8) (v := .pointer (some ⟨g2, o2 + i * 58, none⟩)) rfl (by kernel_rfl) (by kernel_rfl) (by kernel_rfl) (fun _ _ _ h => h) (Yields.yieldsIf (Or.inl ⟨by rfl, fun w => by go_simp⟩)) S0.out ?_
        try simp only [Act.put, List.getElem_toArray, List.getElem_cons_zero, List.getElem_cons_succ, List.setIfInBounds_toArray, List.set_cons_zero, List.set_cons_succ]
        refine wpAnyH_take (i := 9) (v := .agg (nd s)) rfl (by kernel_rfl) (by kernel_rfl) (by kernel_rfl) (fun _ _ _ h => h) (yi_ld ty63 rfl (.tmp 39) rfl rfl s.cs hcl2 (fun _ h => range_keep HC2.out h)) S0.out ?_
        try simp only [Act.put, List.getElem_toArray, List.getElem_cons_zero, List.getElem_cons_succ, List.setIfInBounds_toArray, List.set_cons_zero, List.set_cons_succ]
        refine wpAnyH_all (rs := [10, 11]) (by kernel_rfl) (by simp) (AllH.cons rfl (fun K hK => ?_) (AllH.cons rfl (fun K hK => ?_) AllH.nil))
        · skip
          have hzz := hz63 V3
          go_simp
          clear hzz
          obtain ⟨p, hp⟩ : ∃ x, V3.heap.size = x := ⟨_, rfl⟩
          have Zp : Hid (Blk (V3.alloc (.cells (nd Z) 63)) p 63 (nd Z)) := by unfold Hid; rw [← hp]; exact Blk.new V3 63 _
          have Sp : Hid (Below V3.heap.size V3 (V3.alloc (.cells (nd Z) 63))) := bAlloc S0.out _
          have Vp : Hid (V3.heap.size ≤ p) := by unfold Hid; rw [← hp]; exact (S0.out).size
          rw [hp]
          clear hp
          generalize V3.alloc (.cells (nd Z) 63) = wp at *
          refine hK _ _ ⟨Sp.out, ?_⟩
          clear hK K
          try simp only [Act.put, List.getElem_toArray, List.getElem_cons_zero, List.getElem_cons_succ, List.setIfInBounds_toArray, List.set_cons_zero, List.set_cons_succ]
          refine wpAnyH_all (rs := [11]) (by kernel_rfl) (by simp) (AllH.cons rfl (fun K hK => ?_) AllH.nil)
          have hzz := hz63 wp
          go_simp
          clear hzz
          obtain ⟨q, hq⟩ : ∃ x, wp.heap.size = x := ⟨_, rfl⟩
          have Zq : Hid (Blk (wp.alloc (.cells (nd Z) 63)) q 63 (nd Z)) := by unfold Hid; rw [← hq]; exact Blk.new wp 63 _
          have Sq : Hid (Below V3.heap.size V3 (wp.alloc (.cells (nd Z) 63))) := bAlloc Sp.out _
          have Vq : Hid (V3.heap.size ≤ q) := by unfold Hid; rw [← hq]; exact (Sp.out).size
          rw [hq]
          have HNE : Hid (p ≠ q) := by unfold Hid; rw [← hq]; have := Zp.out.lt; omega
          replace Zp := Hid.mk' (Zp.out.keep (bAlloc (Below.refl _ _) (.cells (nd Z) 63)))
          clear hq
          generalize wp.alloc (.cells (nd Z) 63) = wq at *
          refine hK _ _ ⟨Sq.out, ?_⟩
          clear hK K
          try simp only [Act.put, List.getElem_toArray, List.getElem_cons_zero, List.getElem_cons_succ, List.setIfInBounds_toArray, List.set_cons_zero, List.set_cons_succ]
          refine wpAnyH_all (rs := [12]) (by kernel_rfl) (by simp) (AllH.cons rfl (fun K hK => ?_) AllH.nil)
          have A1 : Hid (Blk (wq.setCells p 0 r.cs) p 63 (nd r)) := put_blk (old := Z.cs) (by rw [hZ, hcl]) Zp.out
          have A2 : Hid (Blk (wq.setCells p 0 r.cs) q 63 (nd Z)) := blk_setCells_off (fun e => (HNE.out) e.symm) _ _ Zq.out
          have A3 : Hid (Below V3.heap.size V3 (wq.setCells p 0 r.cs)) := below_setCells Vp.out _ _ (Sq.out)
          refine do_st ty63 rfl (.tmp 8) (.tmp 35) rfl rfl r.cs rfl hcl (by have := there_blk (cs := Z.cs) Zp.out; rwa [hZ] at this) (Nr.one _) ?_
          generalize wq.setCells p 0 r.cs = w7 at *
          refine hK _ _ ⟨A3.out, ?_⟩
          clear hK K
          try simp only [Act.put, List.getElem_toArray, List.getElem_cons_zero, List.getElem_cons_succ, List.setIfInBounds_toArray, List.set_cons_zero, List.set_cons_succ]
          refine wpAnyH_all (rs := [13]) (by kernel_rfl) (by simp) (AllH.cons rfl (fun K hK => ?_) AllH.nil)
          have C1 : Hid (Aw2 V3 (w7.setCells q 0 s.cs) p q r s) := ⟨blk_setCells_off (HNE.out) _ _ A1.out, put_blk (old := Z.cs) (by rw [hZ, hcl2]) A2.out, HNE.out, Vp.out, below_setCells Vq.out _ _ A3.out⟩
          refine do_st ty63 rfl (.tmp 9) (.tmp 40) rfl rfl s.cs rfl hcl2 (by have := there_blk (cs := Z.cs) A2.out; rwa [hZ] at this) (Nr.one _) ?_
          generalize w7.setCells q 0 s.cs = w8 at *
          refine hK _ _ ⟨C1.out.bel, ?_⟩
          clear hK K
          try simp only [Act.put, List.getElem_toArray, List.getElem_cons_zero, List.getElem_cons_succ, List.setIfInBounds_toArray, List.set_cons_zero, List.set_cons_succ]
          refine wpAnyH_done (by kernel_rfl) ?_ _
          go_wp2_with fail
          go_meet
          exact ⟨p, q, rfl, rfl, C1.out⟩
        · skip
          have hzz := hz63 V3
          go_simp
          clear hzz
          obtain ⟨q, hq⟩ : ∃ x, V3.heap.size = x := ⟨_, rfl⟩
          have Zq : Hid (Blk (V3.alloc (.cells (nd Z) 63)) q 63 (nd Z)) := by unfold Hid; rw [← hq]; exact Blk.new V3 63 _
          have Sq : Hid (Below V3.heap.size V3 (V3.alloc (.cells (nd Z) 63))) := bAlloc S0.out _
          have Vq : Hid (V3.heap.size ≤ q) := by unfold Hid; rw [← hq]; exact (S0.out).size
          rw [hq]
          clear hq
          generalize V3.alloc (.cells (nd Z) 63) = wq at *
          refine hK _ _ ⟨Sq.out, ?_⟩
          clear hK K
          try simp only [Act.put, List.getElem_toArray, List.getElem_cons_zero, List.getElem_cons_succ, List.setIfInBounds_toArray, List.set_cons_zero, List.set_cons_succ]
          refine wpAnyH_all (rs := [10]) (by kernel_rfl) (by simp) (AllH.cons rfl (fun K hK => ?_) AllH.nil)
          have hzz := hz63 wq
          go_simp
          clear hzz
          obtain ⟨p, hp⟩ : ∃ x, wq.heap.size = x := ⟨_, rfl⟩
          have Zp : Hid (Blk (wq.alloc (.cells (nd Z) 63)) p 63 (nd Z)) := by unfold Hid; rw [← hp]; exact Blk.new wq 63 _
          have Sp : Hid (Below V3.heap.size V3 (wq.alloc (.cells (nd Z) 63))) := bAlloc Sq.out _
          have Vp : Hid (V3.heap.size ≤ p) := by unfold Hid; rw [← hp]; exact (Sq.out).size
          rw [hp]
          have HNE : Hid (q ≠ p) := by unfold Hid; rw [← hp]; have := Zq.out.lt; omega
          replace Zq := Hid.mk' (Zq.out.keep (bAlloc (Below.refl _ _) (.cells (nd Z) 63)))
          clear hp
          generalize wq.alloc (.cells (nd Z) 63) = wp at *
          refine hK _ _ ⟨Sp.out, ?_⟩
          clear hK K
          try simp only [Act.put, List.getElem_toArray, List.getElem_cons_zero, List.getElem_cons_succ, List.setIfInBounds_toArray, List.set_cons_zero, List.set_cons_succ]
          refine wpAnyH_all (rs := [12]) (by kernel_rfl) (by simp) (AllH.cons rfl (fun K hK => ?_) AllH.nil)
          have A1 : Hid (Blk (wp.setCells p 0 r.cs) p 63 (nd r)) := put_blk (old := Z.cs) (by rw [hZ, hcl]) Zp.out
          have A2 : Hid (Blk (wp.setCells p 0 r.cs) q 63 (nd Z)) := blk_setCells_off (fun e => (HNE.out.symm) e.symm) _ _ Zq.out
          have A3 : Hid (Below V3.heap.size V3 (wp.setCells p 0 r.cs)) := below_setCells Vp.out _ _ (Sp.out)
          refine do_st ty63 rfl (.tmp 8) (.tmp 35) rfl rfl r.cs rfl hcl (by have := there_blk (cs := Z.cs) Zp.out; rwa [hZ] at this) (Nr.one _) ?_
          generalize wp.setCells p 0 r.cs = w7 at *
          refine hK _ _ ⟨A3.out, ?_⟩
          clear hK K
          try simp only [Act.put, List.getElem_toArray, List.getElem_cons_zero, List.getElem_cons_succ, List.setIfInBounds_toArray, List.set_cons_zero, List.set_cons_succ]
          refine wpAnyH_all (rs := [13]) (by kernel_rfl) (by simp) (AllH.cons rfl (fun K hK => ?_) AllH.nil)
          have C1 : Hid (Aw2 V3 (w7.setCells q 0 s.cs) p q r s) := ⟨blk_setCells_off (HNE.out.symm) _ _ A1.out, put_blk (old := Z.cs) (by rw [hZ, hcl2]) A2.out, HNE.out.symm, Vp.out, below_setCells Vq.out _ _ A3.out⟩
          refine do_st ty63 rfl (.tmp 9) (.tmp 40) rfl rfl s.cs rfl hcl2 (by have := there_blk (cs := Z.cs) A2.out; rwa [hZ] at this) (Nr.one _) ?_
          generalize w7.setCells q 0 s.cs = w8 at *
          refine hK _ _ ⟨C1.out.bel, ?_⟩
          clear hK K
          try simp only [Act.put, List.getElem_toArray, List.getElem_cons_zero, List.getElem_cons_succ, List.setIfInBounds_toArray, List.set_cons_zero, List.set_cons_succ]
          refine wpAnyH_done (by kernel_rfl) ?_ _
          go_wp2_with fail
          go_meet
          exact ⟨p, q, rfl, rfl, C1.out⟩
      case rest =>
        obtain ⟨p, q, rfl, rfl, KA⟩ := hcut
        have KBc := Hid.mk' (bT KBd.out KA.out.bel)
        have KXc := Hid.mk' (KXd.out.keep KA.out.bel)
        have KYc := Hid.mk' (KYd.out.keep KA.out.bel)
        have HS0 : Hid (w.heap.size ≤ wr.drew.heap.size ∧ b < wr.drew.heap.size ∧ b + 1 < wr.drew.heap.size) := ⟨KBd.out.size, KXd.out.lt, KYd.out.lt⟩
        clear KBd KXd KYd HC1 HC2
        generalize wr.drew = V3 at *
        by_cases hik : i = k
        · have hik1 : (i : Int) = (k : Int) := by omega
          have Hd := Hid.mk' (Heq.out hik)
          have hwl := HZS.out.ww.len
          have hml := HZS.out.wm.len
          clear hik Heq Hne
          go_upto_region 8 with fail
          have KAd := Hid.mk' (KA.out.keep (Below.refl _ _).drew)
          have KBd := Hid.mk' (KBc.out.drew)
          have KXd := Hid.mk' (KXc.out.keep (Below.refl _ _).drew)
          have KYd := Hid.mk' (KYc.out.keep (Below.refl _ _).drew)
          have SQ : Hid (Blk wc.drew q 63 (nd s)) := KAd.out.b
          clear KA KBc KXc KYc
          refine wp_region_held (S := fun w' => Blk w' q 63 (nd s)) (by kernel_rfl) ?_
          change wpAnyH _ _ _ _ _ _ _ _ (World.drew _)
          generalize wc.drew = V4 at *
          refine wpAnyH_take (i := 0) (v := .pointer (some ⟨q, 4, none⟩)) rfl (by kernel_rfl) (by kernel_rfl) (by kernel_rfl) (fun _ _ _ h => h) (Yields.yieldsIf (Or.inl ⟨by rfl, fun w => by go_simp⟩)) SQ.out ?_
          try simp only [Act.put, List.getElem_toArray, List.getElem_cons_zero, List.getElem_cons_succ, List.setIfInBounds_toArray, List.set_cons_zero, List.set_cons_succ]
          refine wpAnyH_take (i := 1) (v := .agg (mk s.was)) rfl (by kernel_rfl) (by kernel_rfl) (by kernel_rfl) (fun _ _ _ h => h) (yi_ld ty41 rfl (.tmp 44) rfl rfl (ml s.was) (by rw [ml_len, hwl]) (fun _ h => (Nb.of h hwl).m1)) SQ.out ?_
          try simp only [Act.put, List.getElem_toArray, List.getElem_cons_zero, List.getElem_cons_succ, List.setIfInBounds_toArray, List.set_cons_zero, List.set_cons_succ]
          refine wpAnyH_take (i := 2) (v := .pointer (some ⟨q, 31, none⟩)) rfl (by kernel_rfl) (by kernel_rfl) (by kernel_rfl) (fun _ _ _ h => h) (Yields.yieldsIf (Or.inl ⟨by rfl, fun w => by go_simp⟩)) SQ.out ?_
          try simp only [Act.put, List.getElem_toArray, List.getElem_cons_zero, List.getElem_cons_succ, List.setIfInBounds_toArray, List.set_cons_zero, List.set_cons_succ]
          refine wpAnyH_take (i := 3) (v := .agg (mk s.made)) rfl (by kernel_rfl) (by kernel_rfl) (by kernel_rfl) (fun _ _ _ h => h) (yi_ld ty41 rfl (.tmp 46) rfl rfl (ml s.made) (by rw [ml_len, hml]) (fun _ h => (Nb.of h hwl).m2)) SQ.out ?_
          try simp only [Act.put, List.getElem_toArray, List.getElem_cons_zero, List.getElem_cons_succ, List.setIfInBounds_toArray, List.set_cons_zero, List.set_cons_succ]
          refine wpAnyH_take (i := 4) (v := .pointer (some ⟨p, 4, none⟩)) rfl (by kernel_rfl) (by kernel_rfl) (by kernel_rfl) (fun _ _ _ h => h) (Yields.yieldsIf (Or.inl ⟨by rfl, fun w => by go_simp⟩)) SQ.out ?_
          try simp only [Act.put, List.getElem_toArray, List.getElem_cons_zero, List.getElem_cons_succ, List.setIfInBounds_toArray, List.set_cons_zero, List.set_cons_succ]
          refine wpAnyH_all (rs := [5]) (by kernel_rfl) (by simp) (AllH.cons rfl (fun K hK => ?_) AllH.nil)
          have B1 : Hid (Blk (V4.setCells p 4 (ml s.was)) p 63 (nd { r with was := s.was })) := mk2_put1 KAd.out.a HZR.out.ww.len hwl
          have Q1 : Hid (Blk (V4.setCells p 4 (ml s.was)) q 63 (nd s)) := blk_setCells_off KAd.out.ne.symm _ _ SQ.out
          have L1 : Hid (Below V3.heap.size V4 (V4.setCells p 4 (ml s.was))) := below_setCells KAd.out.pv _ _ (Below.refl _ _)
          refine do_st ty41 rfl (.tmp 48) (.tmp 45) rfl rfl (ml s.was) rfl (by rw [ml_len, hwl]) (there_at KAd.out.a hcl (by omega)) (ml_one _) ?_
          generalize V4.setCells p 4 (ml s.was) = w5 at *
          refine hK _ _ ⟨Q1.out, ?_⟩
          clear hK K
          try simp only [Act.put, List.getElem_toArray, List.getElem_cons_zero, List.getElem_cons_succ, List.setIfInBounds_toArray, List.set_cons_zero, List.set_cons_succ]
          refine wpAnyH_take (i := 6) (v := .pointer (some ⟨p, 31, none⟩)) rfl (by kernel_rfl) (by kernel_rfl) (by kernel_rfl) (fun _ _ _ h => h) (Yields.yieldsIf (Or.inl ⟨by rfl, fun w => by go_simp⟩)) Q1.out ?_
          try simp only [Act.put, List.getElem_toArray, List.getElem_cons_zero, List.getElem_cons_succ, List.setIfInBounds_toArray, List.set_cons_zero, List.set_cons_succ]
          refine wpAnyH_all (rs := [7]) (by kernel_rfl) (by simp) (AllH.cons rfl (fun K hK => ?_) AllH.nil)
          have B2 : Hid (Blk (w5.setCells p 31 (ml s.made)) p 63 (nd { r with was := s.was, made := s.made })) := mk2_put2 B1.out hwl HZR.out.wm.len hml
          have Q2 : Hid (Blk (w5.setCells p 31 (ml s.made)) q 63 (nd s)) := blk_setCells_off KAd.out.ne.symm _ _ Q1.out
          have L2 : Hid (Below V3.heap.size V4 (w5.setCells p 31 (ml s.made))) := below_setCells KAd.out.pv _ _ L1.out
          refine do_st ty41 rfl (.tmp 49) (.tmp 47) rfl rfl (ml s.made) rfl (by rw [ml_len, hml]) (there_at B1.out (Nr.cs_len hwl HZR.out.wm.len) (by omega)) (ml_one _) ?_
          generalize w5.setCells p 31 (ml s.made) = w6 at *
          refine hK _ _ ⟨Q2.out, ?_⟩
          clear hK K
          try simp only [Act.put, List.getElem_toArray, List.getElem_cons_zero, List.getElem_cons_succ, List.setIfInBounds_toArray, List.set_cons_zero, List.set_cons_succ]
          refine wpAnyH_done (by kernel_rfl) ?_ _
          have E6 : Hid (Blk w6 p 63 (nd { r with was := s.was, made := s.made })) := B2.out
          have N1 : Hid (Nz w6 { r with was := s.was, made := s.made }) := by
            have hz := HZR.out.keep (KBd.out.trans (L2.out.mono HS0.out.1))
            exact ⟨hz.ez, hz.len, hz.cap, hz.nil, hz.big, HZS.out.ww, HZS.out.wm⟩
          have N2 : Hid (Nz w6 s) := HZS.out.keep (KBd.out.trans (L2.out.mono HS0.out.1))
          have KB6 : Hid (Below w.heap.size w w6) := KBd.out.trans (L2.out.mono HS0.out.1)
          have KX6 : Hid (Blk w6 b 24 #[.slice (some ⟨g, o, none⟩) n c, .int .i64 now]) := by unfold Hid Blk; rw [L2.out.block b HS0.out.2.1]; exact KXd.out
          have KY6 : Hid (Blk w6 (b + 1) 24 #[.slice (some ⟨g2, o2, none⟩) n d, .int .i64 now]) := by unfold Hid Blk; rw [L2.out.block (b + 1) HS0.out.2.2]; exact KYd.out
          have hcl3 : (Nr.cs { r with was := s.was, made := s.made }).length = 58 := N1.out.cl
          have CS := Hid.mk' (snode_yes { r with was := s.was, made := s.made } s w6 N1.out N2.out Hd.out)
          clear B1 B2 Q1 L1 L2 KAd KBd KXd KYd SQ
          generalize ({ r with was := s.was, made := s.made } : Nr) = r3 at *
          go_wp2_with (first | refine wl_ld63 (B := p) (o := 0) (r := r3) (.tmp 8) rfl rfl rfl hcl3 (range_blk E6.out) ?_ | refine wl_ld63 (B := q) (o := 0) (r := s) (.tmp 9) rfl rfl rfl hcl2 (range_blk Q2.out) ?_ | fail)
          refine CS.out.mono ?_
          rintro e w8 ⟨rfl, hb8⟩
          have KB8 := Hid.mk' (bT KB6.out hb8)
          have KX8 := Hid.mk' (KX6.out.keep hb8)
          have KY8 := Hid.mk' (KY6.out.keep hb8)
          clear hb8 CS
          dsimp only
          go_wp2
          go_roundg go
          case measure => omega
          case rel => exact ⟨i + 1, by go_num, by omega, KB8.out, KX8.out, KY8.out⟩
        · skip
          have HPA := Hid.mk' KA.out.a
          have HQA := Hid.mk' KA.out.b
          have hik1 : ¬ (i : Int) = (k : Int) := by omega
          have hik2 : ((i : Int) == (k : Int)) = false := by simp; omega
          have CS := Hid.mk' (snode_yes r s wc (HZR.out.keep KBc.out) (HZS.out.keep KBc.out) (Hne.out hik))
          clear hik Heq Hne
          go_wp2_with (first | refine wl_ld63 (B := p) (o := 0) (r := r) (.tmp 8) rfl rfl rfl hcl (range_blk HPA.out) ?_ | refine wl_ld63 (B := q) (o := 0) (r := s) (.tmp 9) rfl rfl rfl hcl2 (range_blk HQA.out) ?_ | fail)
          refine CS.out.mono ?_
          rintro e w8 ⟨rfl, hb8⟩
          have KB8 := Hid.mk' (bT KBc.out hb8)
          have KX8 := Hid.mk' (KXc.out.keep hb8)
          have KY8 := Hid.mk' (KYc.out.keep hb8)
          clear hb8 CS
          dsimp only
          go_wp2
          go_roundg go
          case measure => omega
          case rel => exact ⟨i + 1, by go_num, by omega, KB8.out, KX8.out, KY8.out⟩
    · have hi' : ¬ (i : Int) < (n : Int) := by omega
      clear hgo
      go_wp2
      go_ret
      exact ⟨rfl, KB.out⟩
theorem alike_yes (ao : Option Addr) (n c : Nat) (now : Int) (G : List Nr) (bo : Option Addr) (d : Nat) (H : List Nr) (k : Nat) (w : World) (HG : Hid (Grz w ao G)) (HH : Hid (Grz w bo H)) (hn : G.length = n) (hk : H.length = n) (HA : Hid (Alk (G.map Nr.d) (H.map Nr.d) k)) (hb : n ≤ 281474976710656) :
    Calls Try.prog 29 #[.agg #[.slice ao n c, .int .i64 now], .agg #[.slice bo n d, .int .i64 now], .int .i64 (k : Int)] w fun e w' => e = .returned (.bool true) ∧ Below w.heap.size w w' := alike_walk zr rfl z63 ao n c now G bo d H k w HG HH hn hk HA hb
end Go.Proofs.Ytaahklapoppgaaa
