/- The reference's Add. -/
import Derived.Test.YtaahklapoppgaaaQn02
import Derived.Test.YtaahklapoppgaaaQm34
namespace Go.Proofs.Ytaahklapoppgaaa
open Go.RowKit

set_option maxRecDepth 8000
/-- what lies ahead: the arguments, the result -/
structure A4 (w W : World) (ao : Option Addr) (n c : Nat) (now : Int) (was made : List Int) : Prop where
  b1 : Blk W w.heap.size 24 #[.slice ao n c, .int .i64 now]
  b2 : Blk W (w.heap.size + 1) 41 (mk was)
  b3 : Blk W (w.heap.size + 1 + 1) 41 (mk made)
  b4 : Blk W (w.heap.size + 1 + 1 + 1) 24 #[.slice none 0 0, .int .i64 0]
  bel : Below w.heap.size w W
theorem A4.keep {w W W' : World} {ao : Option Addr} {n c : Nat} {now : Int} {was made : List Int} (h : A4 w W ao n c now was made) (hb : Below W.heap.size W W') : A4 w W' ao n c now was made := ⟨h.b1.keep hb, h.b2.keep hb, h.b3.keep hb, h.b4.keep hb, bT h.bel hb⟩
theorem A4.grown {w W W' : World} {ao : Option Addr} {n c : Nat} {now : Int} {was made : List Int} {r : Option Nat} (h : A4 w W ao n c now was made) (hg : W.grownBy W' r) (hr : ∀ k, r = some k → w.heap.size + 1 + 1 + 1 < k) : A4 w W' ao n c now was made :=
  ⟨h.b1.grown hg (fun e => by have := hr _ e.symm; omega), h.b2.grown hg (fun e => by have := hr _ e.symm; omega), h.b3.grown hg (fun e => by have := hr _ e.symm; omega), h.b4.grown hg (fun e => by have := hr _ e.symm; omega), h.bel.grown hg h.bel.size (fun k hk => by have := hr k hk; omega)⟩
theorem a4_new (w : World) (ao : Option Addr) (n c : Nat) (now : Int) (was made : List Int) : A4 w ((((w.alloc (.cells #[.slice ao n c, .int .i64 now] 24)).alloc (.cells (mk was) 41)).alloc (.cells (mk made) 41)).alloc (.cells #[.slice none 0 0, .int .i64 0] 24)) ao n c now was made := by
  have e1 := Blk.new w 24 #[.slice ao n c, .int .i64 now]
  have e2 := Blk.new (w.alloc (.cells #[.slice ao n c, .int .i64 now] 24)) 41 (mk was)
  have e3 := Blk.new ((w.alloc (.cells #[.slice ao n c, .int .i64 now] 24)).alloc (.cells (mk was) 41)) 41 (mk made)
  have e4 := Blk.new (((w.alloc (.cells #[.slice ao n c, .int .i64 now] 24)).alloc (.cells (mk was) 41)).alloc (.cells (mk made) 41)) 24 #[.slice none 0 0, .int .i64 0]
  simp only [World.size_alloc] at e2 e3 e4
  have k : ∀ {W : World} {B e : Nat} {cs : Array Value} (o : Obj), Blk W B e cs → Blk (W.alloc o) B e cs := fun o h => h.keep (bAlloc (Below.refl _ _) _)
  exact ⟨k _ (k _ (k _ e1)), k _ (k _ e2), k _ e3, e4, bAlloc (bAlloc (bAlloc (bAlloc (Below.refl _ _) _) _) _) _⟩
/-- the new change, in a block of its own -/
structure Ad3 (V W : World) (p a b : Nat) (r : Nr) : Prop where
  blk : Blk W p 63 (nd r)
  nw : Nw a b W r
  av : V.heap.size ≤ a
  ab : a ≤ b
  bt : b ≤ W.heap.size
  pv : V.heap.size ≤ p
  bel : Below V.heap.size V W
theorem Ad3.keep {V W W' : World} {p a b : Nat} {r : Nr} (h : Ad3 V W p a b r) (hb : Below W.heap.size W W') : Ad3 V W' p a b r := ⟨h.blk.keep hb, h.nw.keep hb, h.av, h.ab, Nat.le_trans h.bt hb.size, h.pv, bT h.bel hb⟩
theorem Ad3.put {V W : World} {p a b : Nat} {Z r : Nr} (hz : Blk W p 63 (nd Z)) (hZ : Z.cs.length = 58) (hn : Nw a b W r) (av : V.heap.size ≤ a) (ab : a ≤ b) (bt : b ≤ W.heap.size) (pv : V.heap.size ≤ p) (pd : p + 1 ≤ a ∨ b ≤ p) (bel : Below V.heap.size V W) : Ad3 V (W.setCells p 0 r.cs) p a b r := by
  have hg : W.grownBy (W.setCells p 0 r.cs) (some p) := grown_setCells _ _ _
  exact ⟨put_blk (old := Z.cs) (by rw [hZ, hn.nz.cl]) hz, hn.kept (Kept.one hg) pd, av, ab, Nat.le_trans bt hg.size, pv, below_setCells pv _ _ bel⟩
theorem Lst.nw {w W : World} {va : Option Addr} {vn vc en : Nat} {F E : List Er} {now cur : Int} {was made : List Int} (h : Lst w W (.slice va vn vc) F) (hf : F.length = vn) (hF : F.map Er.d = E.map Er.d) (hE : E.length = en) (hb : en * 56 ≤ 140737488355328) (hw : Mw was) (hm : Mw made) : Nw w.heap.size W.heap.size W ⟨now, 0, va, vn, vc, F, cur, was, made⟩ := by
  refine ⟨Ls.of h, hf, ?_, hw, hm⟩
  have := congrArg List.length hF
  rw [List.length_map, List.length_map] at this
  show vn * 56 ≤ _
  rw [← hf, this, hE]; exact hb
set_option maxHeartbeats 16000000 in
set_option linter.unusedSimpArgs false in
theorem radd_walk (Z : Nr) (hZ : Z.cs.length = 58) (hz63 : ∀ w, (zeroValue 63).run Try.prog w = .ok (.agg (nd Z)) w) (ao : Option Addr) (n c : Nat) (now : Int) (G : List Nr) (ea : Option Addr) (en ec : Nat) (E : List Er) (cur : Int) (was made : List Int) (w : World) (HG : Hid (Grz w ao G)) (hn : G.length = n) (HR : Hid (Nz w ⟨now, 0, ea, en, ec, E, cur, was, made⟩)) :
    Calls Try.prog 19 #[.agg #[.slice ao n c, .int .i64 now], .slice ea en ec, .int .i64 cur, .agg (mk was), .agg (mk made)] w fun e w' => AdP (addE (G.map Nr.d) now ⟨now, 0, E.map Er.d, cur, was, made⟩) (addG (G.map Nr.d) now ⟨now, 0, E.map Er.d, cur, was, made⟩) (n : Int) w e w' := by
  have hwl : was.length = 27 := HR.out.ww.len
  have hml : made.length = 27 := HR.out.wm.len
  obtain ⟨x, hx⟩ : ∃ x : Nd, x = ⟨now, 0, E.map Er.d, cur, was, made⟩ := ⟨_, rfl⟩
  rw [← hx]
  have HX := mkH hx
  clear hx
  have C14 := fun V (hV : Below w.heap.size w V) => rcheck_any ao n c now G V (HG.out.keep hV) hn
  have hlen : Hid ((G.map Nr.d).length = n) := by unfold Hid; rw [List.length_map, hn]
  have HN := mkH hn
  have HC14 := mkH C14
  have U1 := mkH (a4_new w ao n c now was made)
  have hZn : nd Z ≠ #[] := fun h => by have := congrArg Array.size h; simp [nd, hZ] at this
  clear C14 hn
  go_enter Try.func19, Try.ntmps19
  go_upto_region 1 with fail
  generalize (((w.alloc (.cells #[.slice ao n c, .int .i64 now] 24)).alloc (.cells (mk was) 41)).alloc (.cells (mk made) 41)).alloc (.cells #[.slice none 0 0, .int .i64 0] 24) = w1 at *
  have a1 : w1.cell? ⟨w.heap.size, 0, none⟩ = some (.slice ao n c) := U1.out.b1.cell rfl
  have b1 : w1.cell? ⟨w.heap.size, 1, none⟩ = some (.int .i64 now) := U1.out.b1.cell rfl
  go_wp2_with fail
  refine (HC14.out w1 U1.out.bel).mono ?_
  rintro e w2 ⟨rfl, hb2⟩
  have U2 := mkH (U1.out.keep hb2)
  have a2 : w2.cell? ⟨w.heap.size, 0, none⟩ = some (.slice ao n c) := U2.out.b1.cell rfl
  have b2 : w2.cell? ⟨w.heap.size, 1, none⟩ = some (.int .i64 now) := U2.out.b1.cell rfl
  have e20 : w2.cell? ⟨w.heap.size + 1 + 1 + 1, 0, none⟩ = some (.slice none 0 0) := U2.out.b4.cell rfl
  have e21 : w2.cell? ⟨w.heap.size + 1 + 1 + 1, 1, none⟩ = some (.int .i64 0) := U2.out.b4.cell rfl
  have f20 : w2.frozen? ⟨w.heap.size + 1 + 1 + 1, 0, none⟩ = false := U2.out.b4.frozen _
  have f21 : w2.frozen? ⟨w.heap.size + 1 + 1 + 1, 1, none⟩ = false := U2.out.b4.frozen _
  clear a1 b1 hb2 HC14 U1
  dsimp only
  by_cases hr : Right (G.map Nr.d) now
  · rw [ti_t hr]
    have HRt := mkH hr
    clear hr
    go_upto_region 3 with fail
    go_cut [12] from 18 to 26 (fun x12 wx => ∃ p a b va fl vc F, x12 = .pointer (some ⟨p, 0, none⟩) ∧ Hid (Ad3 w2.drew wx p a b ⟨now, 0, va, fl, vc, F, cur, was, made⟩) ∧ Hid (F.map Er.d = E.map Er.d))
    case first =>
      have U3 : Hid (A4 w w2.drew ao n c now was made) := U2.out.keep (Below.refl _ _).drew
      have S0 : Hid (Below w2.drew.heap.size w2.drew w2.drew) := Below.refl _ _
      clear U2 a2 b2 e20 e21 f20 f21
      refine wp_region_held (S := fun w' => Below w2.drew.heap.size w2.drew w') (by kernel_rfl) ?_
      change wpAnyH _ _ _ _ _ _ _ _ (World.drew _)
      generalize w2.drew = V3 at *
      refine tk 0 (.pointer (some ⟨w.heap.size, 1, none⟩)) S0.out ?_
      refine ta 1 (.int .i64 now) rfl (Or.inl ⟨by rfl, fun w9 h9 => by have h5 : w9.cell? ⟨w.heap.size, 1, none⟩ = some (.int .i64 now) := (U3.out.keep h9).b1.cell rfl; go_simp⟩) S0.out ?_
      refine tk 2 (.slice ea en ec) S0.out ?_
      refine tk 4 (.int .i64 cur) S0.out ?_
      try simp only [Act.put, jj1, jj2, jj3, jj4, jj5, jj6]
      refine ta 5 (.agg (mk was)) rfl (yi_ld ty41 rfl (.tmp 8) rfl rfl (ml was) (by rw [ml_len, hwl]) (fun _ h => range_blk ((U3.out.keep h).b2))) S0.out ?_
      refine ta 6 (.agg (mk made)) rfl (yi_ld ty41 rfl (.tmp 9) rfl rfl (ml made) (by rw [ml_len, hml]) (fun _ h => range_blk ((U3.out.keep h).b3))) S0.out ?_
      try simp only [Act.put, jj1, jj2, jj3, jj4, jj5, jj6]
      refine wpAnyH_all (rs := [3, 8]) (by kernel_rfl) (by simp) (AllH.cons rfl (fun K hK => ?_) (AllH.cons rfl (fun K hK => ?_) AllH.nil))
      · skip
        go_simp
        refine (redits_any ea en ec E V3 (HR.out.ez.keep U3.out.bel) HR.out.len HR.out.big).mono ?_
        rintro e w4 ⟨v5, F, rfl, hF, hL⟩
        obtain ⟨va, vc, rfl, -, -⟩ := hL.edz
        obtain ⟨fl, hfl⟩ : ∃ fl, F.length = fl := ⟨_, rfl⟩
        rw [hfl] at hL ⊢
        have N4 := mkH (hL.nw (now := now) (cur := cur) hfl hF HR.out.len HR.out.big HR.out.ww HR.out.wm)
        have B4 := mkH hL.bel
        have HF := mkH hF
        have HBD := mkH (fun w => b63 w now cur va fl vc F hwl hml)
        clear hL hF hfl
        dsimp only
        have S4 : Hid (Below V3.heap.size V3 w4) := B4.out
        refine hK _ _ ⟨S4.out, ?_⟩
        clear hK K
        refine ta 7 (.agg (nd ⟨now, 0, va, fl, vc, F, cur, was, made⟩)) rfl (yi_bld rfl 63 _ rfl #[(0, .int .i64 now), (2, .slice va fl vc), (3, .int .i64 cur), (4, .agg (mk was)), (5, .agg (mk made))] (by kernel_rfl) HBD.out) S4.out ?_
        try simp only [Act.put, jj1, jj2, jj3, jj4, jj5, jj6]
        refine wpAnyH_all (rs := [8]) (by kernel_rfl) (by simp) (AllH.cons rfl (fun K hK => ?_) AllH.nil)
        have hzz := hz63 w4
        go_simp
        clear hzz
        have PZ : Hid (Blk (w4.alloc (.cells (nd Z) 63)) w4.heap.size 63 (nd Z)) := Blk.new w4 63 _
        have SZ : Hid (Below V3.heap.size V3 (w4.alloc (.cells (nd Z) 63))) := bAlloc S4.out _
        obtain ⟨p, hp⟩ : ∃ p, w4.heap.size = p := ⟨_, rfl⟩
        rw [hp] at PZ ⊢
        have N5 := mkH (N4.out.keep (bAlloc (Below.refl _ _) (.cells (nd Z) 63)))
        rw [hp] at N5
        have HPV : Hid (V3.heap.size ≤ p) := by unfold Hid; rw [← hp]; exact (S4.out).size
        have HP1 : Hid ((w4.alloc (.cells (nd Z) 63)).heap.size = p + 1) := by unfold Hid; rw [World.size_alloc, hp]
        clear hp
        generalize w4.alloc (.cells (nd Z) 63) = w5 at *
        refine hK _ _ ⟨SZ.out, ?_⟩
        clear hK K
        try simp only [Act.put, jj1, jj2, jj3, jj4, jj5, jj6]
        refine wpAnyH_all (rs := [9]) (by kernel_rfl) (by simp) (AllH.cons rfl (fun K hK => ?_) AllH.nil)
        have AD := mkH (Ad3.put (V := V3) PZ.out hZ N5.out (Nat.le_refl _) HPV.out (by have := HP1.out; omega) HPV.out (.inr (Nat.le_refl _)) SZ.out)
        refine do_st ty63 rfl (.tmp 12) (.tmp 25) rfl rfl (Nr.cs ⟨now, 0, va, fl, vc, F, cur, was, made⟩) rfl (Nr.cs_len hwl hml) (by have := there_blk (cs := Z.cs) PZ.out; rwa [hZ] at this) (Nr.one _) ?_
        generalize w5.setCells p 0 (Nr.cs ⟨now, 0, va, fl, vc, F, cur, was, made⟩) = w6 at *
        refine hK _ _ ⟨AD.out.bel, ?_⟩
        clear hK K
        try simp only [Act.put, jj1, jj2, jj3, jj4, jj5, jj6]
        refine wpAnyH_done (by kernel_rfl) ?_ _
        go_wp2_with fail
        go_meet
        exact ⟨p, _, _, va, fl, vc, F, rfl, AD.out, HF.out⟩
      · skip
        have hzz := hz63 V3
        go_simp
        clear hzz
        have PZ : Hid (Blk (V3.alloc (.cells (nd Z) 63)) V3.heap.size 63 (nd Z)) := Blk.new V3 63 _
        have SZ : Hid (Below V3.heap.size V3 (V3.alloc (.cells (nd Z) 63))) := bAlloc S0.out _
        obtain ⟨p, hp⟩ : ∃ p, V3.heap.size = p := ⟨_, rfl⟩
        rw [hp] at PZ ⊢
        have HPV : Hid (V3.heap.size ≤ p) := by unfold Hid; rw [← hp]; exact (S0.out).size
        have HP1 : Hid ((V3.alloc (.cells (nd Z) 63)).heap.size = p + 1) := by unfold Hid; rw [World.size_alloc, hp]
        clear hp
        generalize V3.alloc (.cells (nd Z) 63) = w5 at *
        refine hK _ _ ⟨SZ.out, ?_⟩
        clear hK K
        try simp only [Act.put, jj1, jj2, jj3, jj4, jj5, jj6]
        refine wpAnyH_all (rs := [3]) (by kernel_rfl) (by simp) (AllH.cons rfl (fun K hK => ?_) AllH.nil)
        go_simp
        refine (redits_any ea en ec E w5 (HR.out.ez.keep (bT U3.out.bel SZ.out)) HR.out.len HR.out.big).mono ?_
        rintro e w4 ⟨v5, F, rfl, hF, hL⟩
        obtain ⟨va, vc, rfl, -, -⟩ := hL.edz
        obtain ⟨fl, hfl⟩ : ∃ fl, F.length = fl := ⟨_, rfl⟩
        rw [hfl] at hL ⊢
        have N4 := mkH (hL.nw (now := now) (cur := cur) hfl hF HR.out.len HR.out.big HR.out.ww HR.out.wm)
        have B4 := mkH hL.bel
        have HF := mkH hF
        have HBD := mkH (fun w => b63 w now cur va fl vc F hwl hml)
        clear hL hF hfl
        dsimp only
        have P4 := mkH (PZ.out.keep B4.out)
        have S4 : Hid (Below V3.heap.size V3 w4) := bT SZ.out B4.out
        refine hK _ _ ⟨S4.out, ?_⟩
        clear hK K
        refine ta 7 (.agg (nd ⟨now, 0, va, fl, vc, F, cur, was, made⟩)) rfl (yi_bld rfl 63 _ rfl #[(0, .int .i64 now), (2, .slice va fl vc), (3, .int .i64 cur), (4, .agg (mk was)), (5, .agg (mk made))] (by kernel_rfl) HBD.out) S4.out ?_
        try simp only [Act.put, jj1, jj2, jj3, jj4, jj5, jj6]
        refine wpAnyH_all (rs := [9]) (by kernel_rfl) (by simp) (AllH.cons rfl (fun K hK => ?_) AllH.nil)
        have AD := mkH (Ad3.put (V := V3) P4.out hZ N4.out (by have := HP1.out; have := HPV.out; omega) B4.out.size (Nat.le_refl _) HPV.out (.inl (by have := HP1.out; omega)) S4.out)
        refine do_st ty63 rfl (.tmp 12) (.tmp 25) rfl rfl (Nr.cs ⟨now, 0, va, fl, vc, F, cur, was, made⟩) rfl (Nr.cs_len hwl hml) (by have := there_blk (cs := Z.cs) P4.out; rwa [hZ] at this) (Nr.one _) ?_
        generalize w4.setCells p 0 (Nr.cs ⟨now, 0, va, fl, vc, F, cur, was, made⟩) = w6 at *
        refine hK _ _ ⟨AD.out.bel, ?_⟩
        clear hK K
        try simp only [Act.put, jj1, jj2, jj3, jj4, jj5, jj6]
        refine wpAnyH_done (by kernel_rfl) ?_ _
        go_wp2_with fail
        go_meet
        exact ⟨p, _, _, va, fl, vc, F, rfl, AD.out, HF.out⟩
    case rest =>
      obtain ⟨p, a, b, va, fl, vc, F, rfl, KA0, KF⟩ := hcut
      obtain ⟨r2, hr2⟩ : ∃ r2 : Nr, r2 = ⟨now, 0, va, fl, vc, F, cur, was, made⟩ := ⟨_, rfl⟩
      rw [← hr2] at KA0
      have KA := mkH KA0
      have D2 : Hid (r2.d = x) := by unfold Hid; rw [hr2, HX.out, ← KF.out]; rfl
      have P2 : Hid (r2.par = now) := by unfold Hid; rw [hr2]
      clear hr2 KA0 KF
      have U4 : Hid (A4 w wc ao n c now was made) := (U2.out.keep (Below.refl _ _).drew).keep KA.out.bel
      have S4 : Hid (w.heap.size + 1 + 1 + 1 < w2.drew.heap.size) := U2.out.b4.lt
      generalize w2.drew = V3 at *
      have a4 : wc.cell? ⟨w.heap.size, 0, none⟩ = some (.slice ao n c) := U4.out.b1.cell rfl
      have hcl2 : r2.cs.length = 58 := KA.out.nw.nz.cl
      have C42 := rnode_any r2 (n : Int) wc KA.out.nw.nz
      have e9 : tb ((0 ≤ r2.par ∧ r2.par < (n : Int)) ∧ Sound r2.d) = tb (Sound x) := by
        have hs := HRt.out.sz.2
        rw [hlen.out] at hs
        rw [P2.out, D2.out]
        exact tb_iff ⟨fun h => h.2, fun h => ⟨hs, h⟩⟩
      rw [e9] at C42
      have HC42 := mkH C42
      clear C42 e9 U2 a2 b2 e20 e21 f20 f21
      go_wp2_with (first | refine wl_ld63 (B := p) (o := 0) (r := r2) (.tmp 12) rfl rfl rfl hcl2 (range_blk KA.out.blk) ?_ | fail)
      refine HC42.out.mono ?_
      rintro e w5 ⟨rfl, hb5⟩
      have U5 := mkH (U4.out.keep hb5)
      have KA5 := mkH (KA.out.keep hb5)
      have a5 : w5.cell? ⟨w.heap.size, 0, none⟩ = some (.slice ao n c) := U5.out.b1.cell rfl
      have b5 : w5.cell? ⟨w.heap.size, 1, none⟩ = some (.int .i64 now) := U5.out.b1.cell rfl
      have e50 : w5.cell? ⟨w.heap.size + 1 + 1 + 1, 0, none⟩ = some (.slice none 0 0) := U5.out.b4.cell rfl
      have e51 : w5.cell? ⟨w.heap.size + 1 + 1 + 1, 1, none⟩ = some (.int .i64 0) := U5.out.b4.cell rfl
      have f50 : w5.frozen? ⟨w.heap.size + 1 + 1 + 1, 0, none⟩ = false := U5.out.b4.frozen _
      have f51 : w5.frozen? ⟨w.heap.size + 1 + 1 + 1, 1, none⟩ = false := U5.out.b4.frozen _
      clear hb5 HC42 KA U4 a4
      dsimp only
      by_cases hs : Sound x
      · rw [tb_t hs]
        by_cases hm : 4096 < n
        · have hq : Hid (addE (G.map Nr.d) now x = 183) := by unfold Hid addE; rw [ti_t HRt.out, ti_t hs, hlen.out, ti_t hm]
          have hm1 : (4096 : Int) < (n : Int) := by omega
          clear hs hm KA5 b5
          go_wp2_with fail
          have N4 := set24 (v' := .slice none 0 0) (u' := .int .i64 0) U5.out.b4
          have LB : Below w.heap.size w ((w5.setCell ⟨w.heap.size + 1 + 1 + 1, 0, none⟩ (.slice none 0 0)).setCell ⟨w.heap.size + 1 + 1 + 1, 1, none⟩ (.int .i64 0)) := (U5.out.bel.setCell (by show w.heap.size ≤ w.heap.size + 1 + 1 + 1; omega) _).setCell (by show w.heap.size ≤ w.heap.size + 1 + 1 + 1; omega) _
          generalize (w5.setCell ⟨w.heap.size + 1 + 1 + 1, 0, none⟩ (.slice none 0 0)).setCell ⟨w.heap.size + 1 + 1 + 1, 1, none⟩ (.int .i64 0) = w9 at *
          have l24 := ld24v N4
          exact bodyPost_ret (v := .tuple #[.agg #[.slice none 0 0, .int .i64 0], .int .i64 183]) (by simp [results, Try.results19, asAddr, l24]) rfl (by rw [hq.out]; exact AdP.no (by decide) LB)
        · have hq : Hid (addE (G.map Nr.d) now x = 0) := by unfold Hid addE; rw [ti_t HRt.out, ti_t hs, hlen.out, ti_f hm]
          have hm1 : ¬ (4096 : Int) < (n : Int) := by omega
          have hn4 : Hid (n ≤ 4096) := by unfold Hid; omega
          obtain ⟨i, hi⟩ : ∃ i : Nat, now = (i : Int) := ⟨now.toNat, by have := HRt.out.sz.2; omega⟩
          subst hi
          have HIn : Hid (i < n) := by have := HRt.out.sz.2; rw [hlen.out] at this; unfold Hid; omega
          clear hs hm e50 e51 f50 f51
          go_upto_region 8 with fail
          go_wp2_with fail
          refine (rcopy_any ao n c (i : Int) G w5 (HG.out.keep U5.out.bel) HN.out (by have := hn4.out; omega)).mono ?_
          rintro e w7 ⟨v, H, S, rfl, hHd, hrow, hb7⟩
          have hHn : H.length = n := by have := congrArg List.length hHd; rw [List.length_map, hlen.out] at this; exact this
          obtain ⟨B, k, X, rfl, hk, hst⟩ := hrow.hst (by have := HIn.out; omega)
          have U7 := mkH (U5.out.keep hb7)
          have KA7 := mkH (KA5.out.keep hb7)
          have R7 := mkH hrow
          have HHd := mkH hHd
          have HHn := mkH hHn
          have HB5 : Hid (b ≤ w5.heap.size ∧ a ≤ b ∧ w.heap.size + 1 + 1 + 1 < a ∧ w5.heap.size ≤ w7.heap.size) := ⟨KA5.out.bt, KA5.out.ab, by have := S4.out; have := KA5.out.av; omega, hb7.size⟩
          rw [hHn] at R7 ⊢
          clear hHd hst hk hrow hb7 hHn KA5 U5 a5 b5
          dsimp only
          obtain ⟨q, hq7⟩ : ∃ q, w7.heap.size = q := ⟨_, rfl⟩
          obtain ⟨W8, hW8⟩ : ∃ y, w7.alloc (.cells #[.slice none 0 0, .int .i64 0] 24) = y := ⟨_, rfl⟩
          have L8 : Hid (Below w7.heap.size w7 W8) := by unfold Hid; rw [← hW8]; exact bAlloc (Below.refl _ _) _
          have K8 : Hid (Blk W8 q 24 #[.slice none 0 0, .int .i64 0]) := by unfold Hid; rw [← hW8, ← hq7]; exact Blk.new w7 24 _
          have U8 := mkH (U7.out.keep L8.out)
          have KA8 := mkH (KA7.out.keep L8.out)
          have R8 := mkH (R7.out.keep L8.out)
          rw [hq7] at R8
          have HQ : Hid (w5.heap.size ≤ q) := by unfold Hid; rw [← hq7]; exact HB5.out.2.2.2
          have k0 : W8.cell? ⟨q, 0, none⟩ = some (.slice none 0 0) := K8.out.cell rfl
          have k1 : W8.cell? ⟨q, 1, none⟩ = some (.int .i64 0) := K8.out.cell rfl
          have m0 : W8.frozen? ⟨q, 0, none⟩ = false := K8.out.frozen _
          have m1 : W8.frozen? ⟨q, 1, none⟩ = false := K8.out.frozen _
          clear U7 KA7 R7 L8
          go_upto_region 9 with fail
          have K9 : Hid (Blk ((W8.setCell ⟨q, 0, none⟩ (.slice (some ⟨B, 0, none⟩) n k)).setCell ⟨q, 1, none⟩ (.int .i64 (i : Int))) q 24 #[.slice (some ⟨B, 0, none⟩) n k, .int .i64 (i : Int)]) := set24 K8.out
          have KK : Hid (Kept q (q + 1) W8 ((W8.setCell ⟨q, 0, none⟩ (.slice (some ⟨B, 0, none⟩) n k)).setCell ⟨q, 1, none⟩ (.int .i64 (i : Int)))) := (Kept.one (grown_set _ _ _ _)).trans (Kept.one (grown_set _ _ _ _))
          have G9 : Hid (W8.grownBy ((W8.setCell ⟨q, 0, none⟩ (.slice (some ⟨B, 0, none⟩) n k)).setCell ⟨q, 1, none⟩ (.int .i64 (i : Int))) (some q)) := (grown_set _ _ _ _).trans (grown_set _ _ _ _)
          generalize (W8.setCell ⟨q, 0, none⟩ (.slice (some ⟨B, 0, none⟩) n k)).setCell ⟨q, 1, none⟩ (.int .i64 (i : Int)) = w9 at *
          have U9 := mkH (U8.out.grown G9.out (fun j hj => by injection hj with hj; have := HQ.out; have := HB5.out; omega))
          have R9 := mkH (R8.out.kept KK.out (.inr (Nat.le_refl _)))
          have N9 : Hid (Nw a b w9 r2) := KA8.out.nw.kept KK.out (.inr (by have := HQ.out; have := HB5.out; omega))
          have hpq : p ≠ q := fun e => by
            have h1 := KA8.out.blk
            have h2 := K8.out
            rw [e] at h1
            unfold Blk at h1 h2
            rw [h1] at h2
            injection h2 with h2
            injection h2 with h2 h3
            cases h3
          have P9 : Hid (Blk w9 p 63 (nd r2)) := KA8.out.blk.grown G9.out (fun e => by injection e with e; exact hpq e)
          clear k0 k1 m0 m1 hW8 hq7 hpq U8 KA8 R8 K8 KK G9
          obtain ⟨z, hz⟩ : ∃ z, w9.heap.size = z := ⟨_, rfl⟩
          obtain ⟨W10, hW10⟩ : ∃ y, w9.alloc (.cells (nd r2) 63) = y := ⟨_, rfl⟩
          have hbs := bs22 w9 r2 N9.out.ww.len N9.out.wm.len
          rw [hz, hW10] at hbs
          have B10 : Hid (Below w9.heap.size w9 W10) := by unfold Hid; rw [← hW10]; exact bAlloc (Below.refl _ _) _
          have Z10 : Hid (Blk W10 z 63 (nd r2)) := by unfold Hid; rw [← hW10, ← hz]; exact Blk.new w9 63 _
          have S10 : Hid (q < W10.heap.size) := by unfold Hid; have := K9.out.lt; have := B10.out.size; omega
          obtain ⟨v', W11, hap, hrow, hg11, hf11⟩ := (R9.out.keep B10.out).app (lo' := w.heap.size + 1 + 1 + 1 + 1) (N9.out.keep B10.out) HB5.out.2.1 (by have := HB5.out; have := HQ.out; have := S10.out; omega) (.inr HB5.out.1) ⟨by have := HB5.out; omega, by have := HB5.out; omega⟩ (by have := HHn.out; have := hn4.out; omega) Z10.out
          obtain ⟨Bz, k2, X2, e9, hk2, hst⟩ := hrow.hst (by simp)
          have hl2 : (H ++ [r2]).length = n + 1 := by rw [List.length_append, HHn.out]; rfl
          rw [hl2] at e9 hk2
          subst e9
          have hup := (R9.out.up B rfl).1
          have hlo := R9.out.own.lt B rfl
          have BQ : Hid (Bz ≠ q ∧ w.heap.size + 1 + 1 + 1 < Bz ∧ Bz < W11.heap.size) := by
            have h3 := HB5.out
            have h4 := S10.out
            refine ⟨fun e => ?_, by have := hst.l0; omega, hst.h0⟩
            rcases hf11 with e1 | e1
            · simp [Value.ownBlock] at e1; omega
            · simp [Value.ownBlock] at e1; omega
          have gg : W10.grownBy W11 (some B) := hg11
          have K11 : Hid (Blk W11 q 24 #[.slice (some ⟨B, 0, none⟩) n k, .int .i64 (i : Int)]) := (K9.out.keep B10.out).grown gg (fun e => by injection e with e; omega)
          have U11 := mkH ((U9.out.keep B10.out).grown gg (fun j hj => by injection hj with hj; have := HB5.out; omega))
          have T11 : Hid (Gow (w.heap.size + 1 + 1 + 1 + 1) q W11 Bz (H ++ [r2]) (S ++ [(a, b)])) := hst.gow.tight (fun y hy => by
            rcases List.mem_append.1 hy with hy | hy
            · obtain ⟨j, hj⟩ := List.getElem?_of_mem hy
              exact ((R9.out.up B rfl).2.off j y hj).2.2.2
            · simp at hy; subst hy; have := HB5.out; have := HQ.out; show b ≤ q; omega)
          have R11 := mkH hst.row
          have HK2 := mkH hk2
          have HAP := mkH hap
          have HBS := mkH hbs
          have p0 : w9.cell? ⟨q, 0, none⟩ = some (.slice (some ⟨B, 0, none⟩) n k) := K9.out.cell rfl
          have q0 : W11.cell? ⟨q, 0, none⟩ = some (.slice (some ⟨B, 0, none⟩) n k) := K11.out.cell rfl
          have qf : W11.frozen? ⟨q, 0, none⟩ = false := K11.out.frozen _
          clear hap hbs hrow hst hk2 hl2 hup hlo gg hg11 hf11 hz hW10 R9 N9 B10 Z10 S10 U9
          go_upto_region 10 with (first | refine wl_ld63 (B := p) (o := 0) (r := r2) (.tmp 12) rfl rfl rfl hcl2 (range_blk P9.out) ?_ | refine wl_bsl rfl 22 1 _ rfl #[(0, .agg (nd r2))] (by kernel_rfl) HBS.out ?_ | (at_builtin; refine wl_app2 rfl (.tmp 41) (.tmp 43) 22 rfl rfl rfl HAP.out ?_) | fail)
          have G12 : Hid (W11.grownBy (W11.setCell ⟨q, 0, none⟩ (.slice (some ⟨Bz, 0, none⟩) (n + 1) k2)) (some q)) := grown_set _ _ _ _
          have K12 : Hid (Blk (W11.setCell ⟨q, 0, none⟩ (.slice (some ⟨Bz, 0, none⟩) (n + 1) k2)) q 24 #[.slice (some ⟨Bz, 0, none⟩) (n + 1) k2, .int .i64 (i : Int)]) := K11.out.set (j := 0) _
          generalize W11.setCell ⟨q, 0, none⟩ (.slice (some ⟨Bz, 0, none⟩) (n + 1) k2) = w12 at *
          have U12 := mkH (U11.out.grown G12.out (fun j hj => by injection hj with hj; have := HQ.out; have := HB5.out; omega))
          have R12 : Hid (Nrow w12 Bz (H ++ [r2]) X2) := Blk.grown R11.out G12.out (fun e => by injection e with e; exact BQ.out.1 e)
          have T12 := mkH (T11.out.kept (Kept.one G12.out) (.inr (Nat.le_refl _)))
          have BQ2 : Hid (Bz ≠ q ∧ w.heap.size + 1 + 1 + 1 < Bz ∧ Bz < w12.heap.size) := ⟨BQ.out.1, BQ.out.2.1, by have := BQ.out.2.2; have := G12.out.size; omega⟩
          obtain ⟨s, hs⟩ : ∃ s, H[i]? = some s := ⟨_, List.getElem?_eq_getElem (by rw [HHn.out]; exact HIn.out)⟩
          have HHs := mkH hs
          have HAs : Hid ((H ++ [r2])[i]? = some s) := by unfold Hid; rw [List.getElem?_append_left (by rw [HHn.out]; exact HIn.out)]; exact hs
          have t10 := Nrow.there (a := [.int .i64 s.par]) (old := [.int .i64 s.nxt]) (b := .slice s.ea s.en s.ec :: .int .i64 s.cur :: (ml s.was ++ ml s.made)) R12.out T12.out.ok HAs.out rfl 0 (by show 0 < 1; omega)
          obtain ⟨⟨x10, hx10⟩, hf10⟩ : (∃ x, w12.cell? ⟨Bz, i * 58 + 1, none⟩ = some x) ∧ w12.frozen? ⟨Bz, i * 58 + 1, none⟩ = false := by
            obtain ⟨t1, t2⟩ := t10
            exact ⟨Option.isSome_iff_exists.1 t1, t2⟩
          have s0 : w12.cell? ⟨q, 0, none⟩ = some (.slice (some ⟨Bz, 0, none⟩) (n + 1) k2) := K12.out.cell rfl
          have c0 : w12.cell? ⟨w.heap.size, 0, none⟩ = some (.slice ao n c) := U12.out.b1.cell rfl
          have c1 : w12.cell? ⟨w.heap.size, 1, none⟩ = some (.int .i64 (i : Int)) := U12.out.b1.cell rfl
          have hi1 : (i : Int) < ((n + 1 : Nat) : Int) := by have := HIn.out; omega
          have hi2 : (i : Int) < (n : Int) + 1 := by have := HIn.out; omega
          have hi0 : (0 : Int) ≤ (i : Int) := by omega
          clear t10 hs p0 q0 qf U11 R11 T11 K11 G12 BQ HAP HBS K9 P9
          go_upto_region 11 with fail
          have G13 : Hid (w12.grownBy (w12.setCell ⟨Bz, i * 58 + 1, none⟩ (.int .i64 (n : Int))) (some Bz)) := grown_set _ _ _ _
          have R13 : Hid (Nrow (w12.setCell ⟨Bz, i * 58 + 1, none⟩ (.int .i64 (n : Int))) Bz ((H ++ [r2]).set i (s.to (n : Int))) X2) := R12.out.nx T12.out.ok HAs.out (n : Int)
          have hz9 := T12.out.nz HAs.out
          have T13 : Hid (Gow (w.heap.size + 1 + 1 + 1 + 1) q (w12.setCell ⟨Bz, i * 58 + 1, none⟩ (.int .i64 (n : Int))) Bz ((H ++ [r2]).set i (s.to (n : Int))) (S ++ [(a, b)])) := (T12.out.at G13.out).set HAs.out ⟨rfl, rfl, rfl, rfl⟩ hz9.ww hz9.wm
          generalize w12.setCell ⟨Bz, i * 58 + 1, none⟩ (.int .i64 (n : Int)) = w13 at *
          have K13 := mkH (K12.out.grown G13.out (fun e => by injection e with e; exact BQ2.out.1 e.symm))
          have U13 := mkH (U12.out.grown G13.out (fun j hj => by injection hj with hj; have := BQ2.out; omega))
          have BQ3 : Hid (Bz ≠ q ∧ w.heap.size + 1 + 1 + 1 < Bz ∧ Bz < w13.heap.size) := ⟨BQ2.out.1, BQ2.out.2.1, by have := BQ2.out.2.2; have := G13.out.size; omega⟩
          clear hz9 hx10 hf10 s0 c0 c1 hi1 hi2 U12 R12 T12 K12 G13 BQ2
          have s0 : w13.cell? ⟨q, 0, none⟩ = some (.slice (some ⟨Bz, 0, none⟩) (n + 1) k2) := K13.out.cell rfl
          have s1 : w13.cell? ⟨q, 1, none⟩ = some (.int .i64 (i : Int)) := K13.out.cell rfl
          have sf : w13.frozen? ⟨q, 1, none⟩ = false := K13.out.frozen _
          have c0 : w13.cell? ⟨w.heap.size, 0, none⟩ = some (.slice ao n c) := U13.out.b1.cell rfl
          go_upto_region 12 with fail
          have G14 : Hid (w13.grownBy (w13.setCell ⟨q, 1, none⟩ (.int .i64 (n : Int))) (some q)) := grown_set _ _ _ _
          have K14 : Hid (Blk (w13.setCell ⟨q, 1, none⟩ (.int .i64 (n : Int))) q 24 #[.slice (some ⟨Bz, 0, none⟩) (n + 1) k2, .int .i64 (n : Int)]) := K13.out.set (j := 1) _
          generalize w13.setCell ⟨q, 1, none⟩ (.int .i64 (n : Int)) = w14 at *
          have U14 := mkH (U13.out.grown G14.out (fun j hj => by injection hj with hj; have := HQ.out; have := HB5.out; omega))
          have R14 : Hid (Nrow w14 Bz ((H ++ [r2]).set i (s.to (n : Int))) X2) := Blk.grown R13.out G14.out (fun e => by injection e with e; exact BQ3.out.1 e)
          have T14 := mkH (T13.out.kept (Kept.one G14.out) (.inr (Nat.le_refl _)))
          have BQ4 : Hid (w.heap.size + 1 + 1 + 1 < Bz ∧ Bz < w14.heap.size) := ⟨BQ3.out.2.1, by have := BQ3.out.2.2; have := G14.out.size; omega⟩
          clear s0 s1 sf c0 U13 R13 T13 K13 G14 BQ3
          have s0 : w14.cell? ⟨q, 0, none⟩ = some (.slice (some ⟨Bz, 0, none⟩) (n + 1) k2) := K14.out.cell rfl
          have s1 : w14.cell? ⟨q, 1, none⟩ = some (.int .i64 (n : Int)) := K14.out.cell rfl
          have e0 : w14.cell? ⟨w.heap.size + 1 + 1 + 1, 0, none⟩ = some (.slice none 0 0) := U14.out.b4.cell rfl
          have e1 : w14.cell? ⟨w.heap.size + 1 + 1 + 1, 1, none⟩ = some (.int .i64 0) := U14.out.b4.cell rfl
          have f0 : w14.frozen? ⟨w.heap.size + 1 + 1 + 1, 0, none⟩ = false := U14.out.b4.frozen _
          have f1 : w14.frozen? ⟨w.heap.size + 1 + 1 + 1, 1, none⟩ = false := U14.out.b4.frozen _
          go_wp2_with fail
          have N4 := set24 (v' := .slice (some ⟨Bz, 0, none⟩) (n + 1) k2) (u' := .int .i64 (n : Int)) U14.out.b4
          have LB : Below w.heap.size w ((w14.setCell ⟨w.heap.size + 1 + 1 + 1, 0, none⟩ (.slice (some ⟨Bz, 0, none⟩) (n + 1) k2)).setCell ⟨w.heap.size + 1 + 1 + 1, 1, none⟩ (.int .i64 (n : Int))) := (U14.out.bel.setCell (by show w.heap.size ≤ w.heap.size + 1 + 1 + 1; omega) _).setCell (by show w.heap.size ≤ w.heap.size + 1 + 1 + 1; omega) _
          have KK : Kept (w.heap.size + 1 + 1 + 1) (w.heap.size + 1 + 1 + 1 + 1) w14 ((w14.setCell ⟨w.heap.size + 1 + 1 + 1, 0, none⟩ (.slice (some ⟨Bz, 0, none⟩) (n + 1) k2)).setCell ⟨w.heap.size + 1 + 1 + 1, 1, none⟩ (.int .i64 (n : Int))) := (Kept.one (grown_set _ _ _ _)).trans (Kept.one (grown_set _ _ _ _))
          have R16 : Nrow ((w14.setCell ⟨w.heap.size + 1 + 1 + 1, 0, none⟩ (.slice (some ⟨Bz, 0, none⟩) (n + 1) k2)).setCell ⟨w.heap.size + 1 + 1 + 1, 1, none⟩ (.int .i64 (n : Int))) Bz ((H ++ [r2]).set i (s.to (n : Int))) X2 := Blk.off (Blk.off R14.out (by have := BQ4.out; omega) _) (by have := BQ4.out; omega) _
          have H16 := T14.out.kept KK (.inl (Nat.le_refl _))
          have S16 := KK.size
          generalize (w14.setCell ⟨w.heap.size + 1 + 1 + 1, 0, none⟩ (.slice (some ⟨Bz, 0, none⟩) (n + 1) k2)).setCell ⟨w.heap.size + 1 + 1 + 1, 1, none⟩ (.int .i64 (n : Int)) = w16 at *
          have l24 := ld24v N4
          have hL : ((H ++ [r2]).set i (s.to (n : Int))).length = n + 1 := by rw [List.length_set, List.length_append, HHn.out]; rfl
          refine bodyPost_ret (v := .tuple #[.agg #[.slice (some ⟨Bz, 0, none⟩) (n + 1) k2, .int .i64 (n : Int)], .int .i64 0]) (by simp [results, Try.results19, asAddr, l24]) rfl ?_
          rw [hq.out]
          refine ⟨fun _ => ⟨Bz, (H ++ [r2]).set i (s.to (n : Int)), X2, S ++ [(a, b)], k2, by rw [hL], ?_, by rw [hL]; exact HK2.out, ⟨R16, H16.wide (by omega) (by have := K14.out.lt; omega), by have := BQ4.out; omega, by have := BQ4.out; omega, Nat.le_refl _⟩, LB⟩, fun e => absurd rfl e⟩
          have hsd : at' (G.map Nr.d) i = s.d := by rw [← HHd.out]; exact map_at HHs.out
          unfold addG
          rw [List.set_append_left _ _ (by rw [HHn.out]; exact HIn.out), List.map_append, List.map_set, HHd.out, show ((i : Int)).toNat = i by omega, hsd, hlen.out, List.map_cons, D2.out]
          rfl
      · rw [tb_f hs]
        have hq : Hid (addE (G.map Nr.d) now x = 2) := by unfold Hid addE; rw [ti_t HRt.out, ti_f hs]
        clear hs KA5 a5 b5
        go_wp2_with fail
        have N4 := set24 (v' := .slice none 0 0) (u' := .int .i64 0) U5.out.b4
        have LB : Below w.heap.size w ((w5.setCell ⟨w.heap.size + 1 + 1 + 1, 0, none⟩ (.slice none 0 0)).setCell ⟨w.heap.size + 1 + 1 + 1, 1, none⟩ (.int .i64 0)) := (U5.out.bel.setCell (by show w.heap.size ≤ w.heap.size + 1 + 1 + 1; omega) _).setCell (by show w.heap.size ≤ w.heap.size + 1 + 1 + 1; omega) _
        generalize (w5.setCell ⟨w.heap.size + 1 + 1 + 1, 0, none⟩ (.slice none 0 0)).setCell ⟨w.heap.size + 1 + 1 + 1, 1, none⟩ (.int .i64 0) = w9 at *
        have l24 := ld24v N4
        exact bodyPost_ret (v := .tuple #[.agg #[.slice none 0 0, .int .i64 0], .int .i64 2]) (by simp [results, Try.results19, asAddr, l24]) rfl (by rw [hq.out]; exact AdP.no (by decide) LB)
  · rw [ti_f hr]
    have hq : Hid (addE (G.map Nr.d) now x = 180) := by unfold Hid addE; rw [ti_f hr]
    clear hr a2 b2
    go_wp2_with fail
    have N4 := set24 (v' := .slice none 0 0) (u' := .int .i64 0) U2.out.b4
    have LB : Below w.heap.size w ((w2.setCell ⟨w.heap.size + 1 + 1 + 1, 0, none⟩ (.slice none 0 0)).setCell ⟨w.heap.size + 1 + 1 + 1, 1, none⟩ (.int .i64 0)) := (U2.out.bel.setCell (by show w.heap.size ≤ w.heap.size + 1 + 1 + 1; omega) _).setCell (by show w.heap.size ≤ w.heap.size + 1 + 1 + 1; omega) _
    generalize (w2.setCell ⟨w.heap.size + 1 + 1 + 1, 0, none⟩ (.slice none 0 0)).setCell ⟨w.heap.size + 1 + 1 + 1, 1, none⟩ (.int .i64 0) = w9 at *
    have l24 := ld24v N4
    exact bodyPost_ret (v := .tuple #[.agg #[.slice none 0 0, .int .i64 0], .int .i64 180]) (by simp [results, Try.results19, asAddr, l24]) rfl (by rw [hq.out]; exact AdP.no (by decide) LB)
theorem radd_any (ao : Option Addr) (n c : Nat) (now : Int) (G : List Nr) (ea : Option Addr) (en ec : Nat) (E : List Er) (cur : Int) (was made : List Int) (w : World) (HG : Hid (Grz w ao G)) (hn : G.length = n) (HR : Hid (Nz w ⟨now, 0, ea, en, ec, E, cur, was, made⟩)) :
    Calls Try.prog 19 #[.agg #[.slice ao n c, .int .i64 now], .slice ea en ec, .int .i64 cur, .agg (mk was), .agg (mk made)] w fun e w' => AdP (addE (G.map Nr.d) now ⟨now, 0, E.map Er.d, cur, was, made⟩) (addG (G.map Nr.d) now ⟨now, 0, E.map Er.d, cur, was, made⟩) (n : Int) w e w' := radd_walk zr rfl z63 ao n c now G ea en ec E cur was made w HG hn HR
end Go.Proofs.Ytaahklapoppgaaa
