/- GroveKeeps, walked. -/
import Derived.Test.YtaahklapoppgaaaQk02
namespace Go.Proofs.Ytaahklapoppgaaa
open Go.RowKit

set_option maxRecDepth 8000
set_option maxHeartbeats 64000000 in
set_option linter.unusedSimpArgs false in
theorem groveKeeps_walk' (Z : List Int) (hZ : Z.length = 27) (HZ50 : Hid (∀ w, (zeroValue 50).run Try.prog w = .ok (.agg (cxa (.slice none 0 0) 0 Z)) w)) (ao : Option Addr) (n c : Nat) (now tt : Int) (G : List Nr) (ea : Option Addr) (en ec : Nat) (E : List Er) (cur : Int) (was made m : List Int) (w : World) (HG : Hid (Grz w ao G)) (hn : G.length = n) (_hc : n ≤ c) (HR : Hid (Nz w ⟨now, 0, ea, en, ec, E, cur, was, made⟩)) (hm : Mw m) (hbig : ∀ d ∈ G.map Nr.d, nsum d.ed + osum d.ed + d.ed.length ≤ 1048576) (hn9 : n ≤ 1048576) (hbx : nsum (E.map Er.d) + osum (E.map Er.d) + en ≤ 1048576) :
    Calls Try.prog 9 #[.agg #[.slice ao n c, .int .i64 now], .agg (ada (.slice ea en ec) cur was made), .int .i64 tt, .agg (mk m)] w fun e w' => e = .returned (.bool true) ∧ Below w.heap.size w w' := by
  have hen : en ≤ 1048576 := by omega
  have HBX := mkH hbx
  clear hbx
  have hml := hm.len
  have hwl : was.length = 27 := HR.out.ww.len
  have hal : made.length = 27 := HR.out.wm.len
  have he : ∀ i, (at' (G.map Nr.d) i).ed.length ≤ 1048576 := fun i => by
    by_cases hi : i < (G.map Nr.d).length
    · have := hbig _ (List.mem_of_getElem? (at'_some hi)); omega
    · have e : at' (G.map Nr.d) i = zn := by unfold at'; rw [List.getD_eq_getElem?_getD, List.getElem?_eq_none (by omega)]; rfl
      rw [e]; simp [zn]
  have HE9 : Hid (∀ d ∈ G.map Nr.d, d.ed.length ≤ 1048576) := fun d hd => by have := hbig d hd; omega
  have hEl : (E.map Er.d).length = en := by rw [List.length_map]; exact HR.out.len
  have C19 : ∀ W, Below w.heap.size w W → Calls Try.prog 19 #[.agg #[.slice ao n c, .int .i64 now], .slice ea en ec, .int .i64 cur, .agg (mk was), .agg (mk made)] W fun e w' => AdK (addE (G.map Nr.d) now ⟨now, 0, E.map Er.d, cur, was, made⟩) (adD (addE (G.map Nr.d) now ⟨now, 0, E.map Er.d, cur, was, made⟩) (addG (G.map Nr.d) now ⟨now, 0, E.map Er.d, cur, was, made⟩)) (adN (addE (G.map Nr.d) now ⟨now, 0, E.map Er.d, cur, was, made⟩) (n : Int)) W e w' := fun W hW => (radd_any ao n c now G ea en ec E cur was made W (HG.out.keep hW) hn (HR.out.keep hW)).mono fun e w' h => AdK.of h addE_len
  have C20 : ∀ W po ko ma mc (H0 : List Nr) (F : List Er), Grz W po H0 → H0.map Nr.d = G.map Nr.d → n ≤ ko → Nz W ⟨now, 0, ma, en, mc, F, cur, was, made⟩ → F.map Er.d = E.map Er.d → Calls Try.prog 20 #[.agg #[.slice po n ko, .int .i64 now], .slice ma en mc, .int .i64 cur, .agg (mk was), .agg (mk made)] W fun e w' => AdK (addE (G.map Nr.d) now ⟨now, 0, E.map Er.d, cur, was, made⟩) (adD (addE (G.map Nr.d) now ⟨now, 0, E.map Er.d, cur, was, made⟩) (addG (G.map Nr.d) now ⟨now, 0, E.map Er.d, cur, was, made⟩)) (adN (addE (G.map Nr.d) now ⟨now, 0, E.map Er.d, cur, was, made⟩) (n : Int)) W e w' := fun W po ko ma mc H0 F h1 h2 h3 h4 h5 => by
    have h := add_walk zr rfl z63 po n ko now H0 ma en mc F cur was made W h1 (by have := congrArg List.length h2; rw [List.length_map, List.length_map] at this; omega) h3 h4
    rw [h2, h5] at h
    exact h.mono fun e w' h => AdK.of h addE_len
  have C26 : ∀ W po ko (H0 : List Nr), Grz W po H0 → H0.map Nr.d = G.map Nr.d → n ≤ ko → Calls Try.prog 26 #[.agg #[.slice po n ko, .int .i64 now], .int .i64 tt, .agg (mk m)] W fun e w' => CrK (goE (G.map Nr.d) now tt m) (crW (goE (G.map Nr.d) now tt m) ((Wk.new (G.map Nr.d) now m).go (pathU (G.map Nr.d) now.toNat tt.toNat) (pathD (G.map Nr.d) now.toNat tt.toNat))) W e w' := fun W po ko H0 h1 h2 h3 => by
    have h := go_k po n ko now tt H0 m W h1 (by have := congrArg List.length h2; rw [List.length_map, List.length_map] at this; omega) h3 hm (by rw [h2]; exact HE9)
    rwa [h2] at h
  have C23 := fun W (hW : Below w.heap.size w W) => rgo_any ao n c now tt G m W (HG.out.keep hW) hn hm he
  have C36 : ∀ W, n ≤ 1000000 → Below w.heap.size w W → Calls Try.prog 36 #[.agg #[.slice ao n c, .int .i64 now]] W fun e w' => RcK (G.map Nr.d) now W e w' := fun W h6 hW => (rcopy_any ao n c now G W (HG.out.keep hW) hn h6).mono fun e w' h => RcK.of h
  have C37 : ∀ W, Below w.heap.size w W → Calls Try.prog 37 #[.slice ea en ec] W fun e w' => LstP (E.map Er.d) W e w' := fun W hW => lentE_any ea en ec E W (HR.out.ez.keep hW) HR.out.len (by omega)
  have C35 := fun W (hW : Below w.heap.size w W) => greatG_any ao n c now G W (HG.out.keep hW) hn (by omega) hbig
  have S3 : Sb (crW (goE (G.map Nr.d) now tt m) ((Wk.new (G.map Nr.d) now m).go (pathU (G.map Nr.d) now.toNat tt.toNat) (pathD (G.map Nr.d) now.toNat tt.toNat))) := by
    by_cases hz : goE (G.map Nr.d) now tt m = 0
    · obtain ⟨h1, h2, h3⟩ := goE_ok hz
      exact sb_crw (sb_go h1 ⟨h2, h3⟩ hml he)
    · unfold crW; rw [if_neg hz]; exact ⟨by simp, by simp, rfl⟩
  have hDl : (G.map Nr.d).length = n := by rw [List.length_map, hn]
  obtain ⟨s3, hs3⟩ : ∃ s, crW (goE (G.map Nr.d) now tt m) ((Wk.new (G.map Nr.d) now m).go (pathU (G.map Nr.d) now.toNat tt.toNat) (pathD (G.map Nr.d) now.toNat tt.toNat)) = s := ⟨_, rfl⟩
  obtain ⟨dd, hdd⟩ : ∃ d, adD (addE (G.map Nr.d) now ⟨now, 0, E.map Er.d, cur, was, made⟩) (addG (G.map Nr.d) now ⟨now, 0, E.map Er.d, cur, was, made⟩) = d := ⟨_, rfl⟩
  obtain ⟨nn, hnn⟩ : ∃ d, adN (addE (G.map Nr.d) now ⟨now, 0, E.map Er.d, cur, was, made⟩) (n : Int) = d := ⟨_, rfl⟩
  rw [hs3] at C23 C26 S3
  rw [hdd, hnn] at C19 C20
  generalize addE (G.map Nr.d) now ⟨now, 0, E.map Er.d, cur, was, made⟩ = z1 at *
  generalize goE (G.map Nr.d) now tt m = z3 at *
  have D19 := mkH C19
  have D20 := mkH C20
  have D23 := mkH C23
  have D26 := mkH C26
  have D35 := mkH C35
  have D36 := mkH C36
  have D37 := mkH C37
  have HS3 := mkH S3
  have HDL := mkH hDl
  have HEL := mkH hEl
  have HN9 := mkH hn9
  have HEN := mkH hen
  clear C19 C20 C23 C26 C35 C36 C37 S3 hs3 hdd hnn he HE9 hbig hn9 hn hm hDl hEl hen
  obtain ⟨W1, hW1⟩ : ∃ x, ((w.alloc (.cells #[.slice ao n c, .int .i64 now] 24)).alloc (.cells (ada (.slice ea en ec) cur was made) 43)).alloc (.cells (mk m) 41) = x := ⟨_, rfl⟩
  obtain ⟨b, hb⟩ : ∃ b, w.heap.size = b := ⟨_, rfl⟩
  have LL : Hid (Below w.heap.size w W1) := by unfold Hid; rw [← hW1]; exact bAlloc (bAlloc (bAlloc (Below.refl _ _) _) _) _
  have KK : Hid (Blk W1 b 24 #[.slice ao n c, .int .i64 now]) := by unfold Hid; rw [← hW1, ← hb]; exact ((Blk.new w 24 _).keep (bAlloc (Below.refl _ _) _)).keep (bAlloc (Below.refl _ _) _)
  have AA : Hid (Ax W1 (b + 1) (.slice ea en ec) cur was made) := by
    refine Ax.of ?_ hwl
    rw [← hW1, ← hb]
    have := Blk.new (w.alloc (.cells #[.slice ao n c, .int .i64 now] 24)) 43 (ada (.slice ea en ec) cur was made)
    rw [World.size_alloc] at this
    exact this.keep (bAlloc (Below.refl _ _) _)
  have MM : Hid (Blk W1 (b + 1 + 1) 41 (mk m)) := by
    unfold Hid
    rw [← hW1, ← hb]
    have := Blk.new ((w.alloc (.cells #[.slice ao n c, .int .i64 now] 24)).alloc (.cells (ada (.slice ea en ec) cur was made) 43)) 41 (mk m)
    rwa [World.size_alloc, World.size_alloc] at this
  have hne : ada (.slice ea en ec) cur was made ≠ #[] := fun h => by have := congrArg Array.size h; simp [ada, ad] at this
  go_enter Try.func9, Try.ntmps9
  go_wp2_with fail
  clear hW1 hb
  refine (awake_any _).mono ?_
  rintro e w2 ⟨rfl, hb2⟩
  replace LL := mkH (bT LL.out hb2)
  replace KK := mkH (KK.out.keep hb2)
  replace AA := mkH (AA.out.keep hb2)
  replace MM := mkH (MM.out.keep hb2)
  clear hb2
  dsimp only
  have f1 : w2.cell? ⟨b, 0, none⟩ = some (.slice ao n c) := KK.out.cell rfl
  have f2 : w2.cell? ⟨b, 1, none⟩ = some (.int .i64 now) := KK.out.cell rfl
  go_wp2_with fail
  refine (D35.out w2 LL.out).mono ?_
  rintro e w3 ⟨gb, rfl, hgb, hb⟩
  have HGB := mkH hgb
  replace LL := mkH (bT LL.out hb)
  replace KK := mkH (KK.out.keep hb)
  replace AA := mkH (AA.out.keep hb)
  replace MM := mkH (MM.out.keep hb)
  clear hb hgb D35 f1 f2
  dsimp only
  cases gb with
  | true =>
    go_upto_if 37 with fail
    go_wp2
    go_ret
    exact ⟨rfl, LL.out⟩
  | false =>
  have HNS : Hid (n ≤ 262144) := HGB.out rfl
  clear HGB
  have HB4 : Hid (∀ d ∈ [(⟨0, 0, ea, en, ec, E, 0, zm, zm⟩ : Nr)].map Nr.d, nsum d.ed + osum d.ed + d.ed.length ≤ 1048576) := fun d hd => by
    obtain rfl : d = Nr.d ⟨0, 0, ea, en, ec, E, 0, zm, zm⟩ := by simpa using hd
    have h1 := HBX.out
    have h2 := HEL.out
    show nsum (E.map Er.d) + osum (E.map Er.d) + (E.map Er.d).length ≤ 1048576
    omega
  have f3 := AA.out.c0
  have HBD := mkH (fun W => b63e W ea en ec E)
  have HBS := mkH (bs22 w3 ⟨0, 0, ea, en, ec, E, 0, zm, zm⟩ rfl rfl)
  have hz0 : Nz w3 ⟨0, 0, ea, en, ec, E, 0, zm, zm⟩ := by
    have h := HR.out.keep LL.out
    exact ⟨h.ez, h.len, h.cap, h.nil, h.big, mw_zm, mw_zm⟩
  have GG := mkH (grz_one hz0)
  have B9 := bAlloc (Below.refl _ w3) (.cells (nd ⟨0, 0, ea, en, ec, E, 0, zm, zm⟩) 63)
  obtain ⟨w4, hw4⟩ : ∃ x, w3.alloc (.cells (nd ⟨0, 0, ea, en, ec, E, 0, zm, zm⟩) 63) = x := ⟨_, rfl⟩
  obtain ⟨q4, hq4⟩ : ∃ x, w3.heap.size = x := ⟨_, rfl⟩
  rw [hw4, hq4] at HBS
  rw [hw4] at GG B9
  rw [hq4] at GG
  obtain ⟨r4, hr4⟩ : ∃ r : Nr, (⟨0, 0, ea, en, ec, E, 0, zm, zm⟩ : Nr) = r := ⟨_, rfl⟩
  rw [hr4] at HBD HBS GG HB4
  rw [hq4] at B9
  rw [← hq4] at B9
  replace LL := mkH (bT LL.out B9)
  replace KK := mkH (KK.out.keep B9)
  replace AA := mkH (AA.out.keep B9)
  replace MM := mkH (MM.out.keep B9)
  clear hz0 B9 hw4 hq4 hr4
  go_wp2_with (first | refine wl_bldg (by first | rfl | simp [Region.wanted, yielded]) 63 _ rfl #[(2, .slice ea en ec)] (by kernel_rfl) (HBD.out _) ?_ | refine wl_bslg (by first | rfl | simp [Region.wanted, yielded]) 22 1 _ rfl #[(0, .agg (nd r4))] (by kernel_rfl) HBS.out ?_ | fail)
  go_at_call 35
  refine (greatG_any (some ⟨q4, 0, none⟩) 1 1 0 [r4] w4 GG.out rfl (by omega) HB4.out).mono ?_
  rintro e w5 ⟨gb, rfl, -, hb⟩
  replace LL := mkH (bT LL.out hb)
  replace KK := mkH (KK.out.keep hb)
  replace AA := mkH (AA.out.keep hb)
  replace MM := mkH (MM.out.keep hb)
  clear hb HBD HBS GG HB4 f3
  dsimp only
  cases gb with
  | true =>
    go_wp2
    go_ret
    exact ⟨rfl, LL.out⟩
  | false =>
  have f1 : w5.cell? ⟨b, 0, none⟩ = some (.slice ao n c) := KK.out.cell rfl
  have f2 : w5.cell? ⟨b, 1, none⟩ = some (.int .i64 now) := KK.out.cell rfl
  go_wp2_with fail
  refine (D36.out w5 (by have := HNS.out; omega) LL.out).mono ?_
  rintro e w6 ⟨po, ko, H0, rfl, hd, hk, hh, hb⟩
  have HD0 := mkH hd
  have Z0 : Hid (w.heap.size ≤ w5.heap.size) := LL.out.size
  have HK0 : Hid (n ≤ ko) := by have := HDL.out; unfold Hid; omega
  have OO := mkH hh
  have Z1 : Hid (w5.heap.size ≤ w6.heap.size) := hb.size
  rw [HDL.out]
  replace LL := mkH (bT LL.out hb)
  replace KK := mkH (KK.out.keep hb)
  replace AA := mkH (AA.out.keep hb)
  replace MM := mkH (MM.out.keep hb)
  clear hb hd hk hh D36 f1 f2
  dsimp only
  obtain ⟨X1, hX1⟩ : ∃ x, w6.alloc (.cells #[.slice none 0 0, .int .i64 0] 24) = x := ⟨_, rfl⟩
  obtain ⟨q9, hq9⟩ : ∃ x, w6.heap.size = x := ⟨_, rfl⟩
  obtain ⟨k0, k1, k4, k5⟩ := box24_facts hX1 hq9
  go_upto_region 6 with fail
  obtain ⟨x4, y4⟩ := Bg.put (n := n) (k := ko) (now := now) (lo := w5.heap.size) (hi := w6.heap.size) hX1 hq9 OO.out
  have PO := mkH x4
  have HQ_q9 := mkH hq9
  have LT_q9 := mkH x4.b.lt
  replace LL := mkH (bT LL.out y4)
  replace KK := mkH (KK.out.keep y4)
  replace AA := mkH (AA.out.keep y4)
  replace MM := mkH (MM.out.keep y4)
  clear x4 y4 k0 k1 k4 k5 hX1 hq9 OO
  generalize (X1.setCell ⟨q9, 0, none⟩ (.slice po n ko)).setCell ⟨q9, 1, none⟩ (.int .i64 now) = w7 at *
  have f3 := AA.out.c0
  have f4 := AA.out.c1
  go_wp2_with fail
  refine (D37.out w7 LL.out).mono ?_
  rintro e w8 ⟨v8, F, rfl, hF, hL⟩
  have Z2 : Hid (w7.heap.size ≤ w8.heap.size) := hL.bel.size
  have hb := hL.bel
  obtain ⟨ma, mc, rfl⟩ := own_shape hL.own
  have HF := mkH hF
  have hFl : F.length = en := by have := congrArg List.length hF; rw [List.length_map, HEL.out] at this; exact this
  have hLs := Ls.of hL
  rw [hFl] at hLs ⊢
  have LN := mkH hLs
  have HFL := mkH hFl
  replace LL := mkH (bT LL.out hb)
  replace KK := mkH (KK.out.keep hb)
  replace AA := mkH (AA.out.keep hb)
  replace MM := mkH (MM.out.keep hb)
  replace PO := mkH (PO.out.keep hb)
  clear hb hF hL hFl hLs f3 f4 D37
  dsimp only
  go_upto_region 7 with fail
  have f3 := AA.out.c0
  have f4 := AA.out.c1
  have hPO1 : w8.cell? ⟨q9, 0, none⟩ = some (.slice po n ko) := PO.out.b.cell rfl
  have hPO2 : w8.cell? ⟨q9, 1, none⟩ = some (.int .i64 now) := PO.out.b.cell rfl
  go_wp2_with (first | refine wl_ld41 (B := b + 1) (o := 2) (.tmp 48) rfl rfl rfl hwl AA.out.m1 ?_ | refine wl_ld41 (B := b + 1) (o := 29) (.tmp 50) rfl rfl rfl hal AA.out.m2 ?_ | fail)
  refine (D20.out w8 po ko ma mc H0 F PO.out.h.grz HD0.out HK0.out (nz_mine LN.out HFL.out (by have := HEN.out; omega) HR.out.ww HR.out.wm) HF.out).mono ?_
  rintro e w9 ⟨pa, na, ka, Ha, rfl, hh, hl, hk, hd, h5, hb⟩
  have OO := mkH hh
  have Z3 : Hid (w8.heap.size ≤ w9.heap.size) := hb.size
  have FA : Hid (Ha.length = na ∧ Ha.map Nr.d = dd ∧ na ≤ 5000) := ⟨hl, hd, h5⟩
  replace LL := mkH (bT LL.out hb)
  replace KK := mkH (KK.out.keep hb)
  replace AA := mkH (AA.out.keep hb)
  replace MM := mkH (MM.out.keep hb)
  replace PO := mkH (PO.out.keep hb)
  replace LN := mkH (LN.out.keep hb)
  clear hb hh hl hk hd h5 f3 f4 hPO1 hPO2
  dsimp only
  obtain ⟨X1, hX1⟩ : ∃ x, w9.alloc (.cells #[.slice none 0 0, .int .i64 0] 24) = x := ⟨_, rfl⟩
  obtain ⟨q11, hq11⟩ : ∃ x, w9.heap.size = x := ⟨_, rfl⟩
  obtain ⟨k0, k1, k4, k5⟩ := box24_facts hX1 hq11
  go_upto_region 8 with fail
  obtain ⟨x4, y4⟩ := Bg.put (n := na) (k := ka) (now := nn) (lo := w8.heap.size) (hi := w9.heap.size) hX1 hq11 OO.out
  have PA := mkH x4
  have HQ_q11 := mkH hq11
  have LT_q11 := mkH x4.b.lt
  replace LL := mkH (bT LL.out y4)
  replace KK := mkH (KK.out.keep y4)
  replace AA := mkH (AA.out.keep y4)
  replace MM := mkH (MM.out.keep y4)
  replace PO := mkH (PO.out.keep y4)
  replace LN := mkH (LN.out.keep y4)
  clear x4 y4 k0 k1 k4 k5 hX1 hq11 OO
  generalize (X1.setCell ⟨q11, 0, none⟩ (.slice pa na ka)).setCell ⟨q11, 1, none⟩ (.int .i64 nn) = w10 at *
  have hPO1 : w10.cell? ⟨q9, 0, none⟩ = some (.slice po n ko) := PO.out.b.cell rfl
  have hPO2 : w10.cell? ⟨q9, 1, none⟩ = some (.int .i64 now) := PO.out.b.cell rfl
  go_wp2_with (first | refine wl_ld41 (B := b + 1 + 1) (o := 0) (.tmp 7) rfl rfl rfl hml (range_blk MM.out) ?_ | fail)
  refine (D26.out w10 po ko H0 PO.out.h.grz HD0.out HK0.out).mono ?_
  rintro e w11 ⟨pb1, pb, nb, kb, Hb, vab, vnb, vcb, Fb, rfl, hh, hl, hk, hd, hL, hf, hfd, mw1, hp1, hp2, hb⟩
  have Zb : Hid (w10.heap.size ≤ pb1 ∧ pb1 ≤ w11.heap.size) := ⟨hp1, hp2⟩
  have F_b : Hid (Hb.length = nb ∧ Hb.map Nr.d = s3.G ∧ Fb.length = vnb ∧ Fb.map Er.d = s3.E) := ⟨hl, hd, hf, hfd⟩
  have hlm := mw1.len
  replace LL := mkH (bT LL.out hb)
  replace KK := mkH (KK.out.keep hb)
  replace AA := mkH (AA.out.keep hb)
  replace MM := mkH (MM.out.keep hb)
  replace PO := mkH (PO.out.keep hb)
  replace LN := mkH (LN.out.keep hb)
  replace PA := mkH (PA.out.keep hb)
  clear hb hl hk hd hf hfd mw1 hp1 hp2 hPO1 hPO2
  dsimp only
  obtain ⟨X1, hX1⟩ : ∃ x, w11.alloc (.cells #[.slice none 0 0, .int .i64 0] 24) = x := ⟨_, rfl⟩
  obtain ⟨q13, hq13⟩ : ∃ x, w11.heap.size = x := ⟨_, rfl⟩
  obtain ⟨X2, hX2⟩ : ∃ x, X1.alloc (.cells (cxa (.slice none 0 0) 0 Z) 50) = x := ⟨_, rfl⟩
  obtain ⟨q14, hq14⟩ : ∃ x, X1.heap.size = x := ⟨_, rfl⟩
  obtain ⟨y1, y2, y3, y4, y5, y6, y7, y8⟩ := two_boxes (ao := pb) (va := vab) (n := nb) (k := kb) (vn := vnb) (vc := vcb) (now := s3.now) (cu := s3.cur) (m := s3.m) hZ hlm hX1 hX2 hq13 hq14
  have T50 := mkH y4
  have PG_b : Hid (Bg ((((X2.setCell ⟨q13, 0, none⟩ (.slice pb nb kb)).setCell ⟨q13, 1, none⟩ (.int .i64 s3.now)).setCells q14 0 (cx (.slice vab vnb vcb) s3.cur s3.m))) q13 w10.heap.size pb1 pb nb kb s3.now Hb) := ⟨y5, hh.keep y8⟩
  have PC_b : Hid (Bk5 ((((X2.setCell ⟨q13, 0, none⟩ (.slice pb nb kb)).setCell ⟨q13, 1, none⟩ (.int .i64 s3.now)).setCells q14 0 (cx (.slice vab vnb vcb) s3.cur s3.m))) q14 pb1 w11.heap.size vab vnb vcb s3.cur s3.m Fb) := ⟨y6, hL.keep y8⟩
  have Y8 := mkH y8
  have HQ_q13 : Hid (w11.heap.size = q13 ∧ q14 = q13 + 1) := ⟨hq13, by rw [← hq14, ← hX1, ← hq13, World.size_alloc]⟩
  have LT_q13 := mkH (Blk.lt y6)
  have hz50 := HZ50.out
  clear y4 y5 y6 y7 y8 hh hL
  go_upto_region 9 with (first | refine wl_st50 (B := q14) (o := 0) (.tmp 14) (.tmp 61) rfl rfl rfl rfl hlm T50.out ?_ | fail)
  clear y1 y2 y3 hX1 hX2 hq13 hq14 hz50 T50 hlm
  generalize ((X2.setCell ⟨q13, 0, none⟩ (.slice pb nb kb)).setCell ⟨q13, 1, none⟩ (.int .i64 s3.now)).setCells q14 0 (cx (.slice vab vnb vcb) s3.cur s3.m) = w12 at *
  replace LL := mkH (bT LL.out Y8.out)
  replace KK := mkH (KK.out.keep Y8.out)
  replace AA := mkH (AA.out.keep Y8.out)
  replace MM := mkH (MM.out.keep Y8.out)
  replace PO := mkH (PO.out.keep Y8.out)
  replace LN := mkH (LN.out.keep Y8.out)
  replace PA := mkH (PA.out.keep Y8.out)
  clear Y8
  have hPO1 : w12.cell? ⟨q9, 0, none⟩ = some (.slice po n ko) := PO.out.b.cell rfl
  have hPO2 : w12.cell? ⟨q9, 1, none⟩ = some (.int .i64 now) := PO.out.b.cell rfl
  go_wp2_with (first | refine wl_ld41 (B := b + 1 + 1) (o := 0) (.tmp 7) rfl rfl rfl hml (range_blk MM.out) ?_ | fail)
  refine (D26.out w12 po ko H0 PO.out.h.grz HD0.out HK0.out).mono ?_
  rintro e w13 ⟨pp1, pp, np, kp, Hp, vap, vnp, vcp, Fp, rfl, hh, hl, hk, hd, hL, hf, hfd, mw1, hp1, hp2, hb⟩
  have Zp : Hid (w12.heap.size ≤ pp1 ∧ pp1 ≤ w13.heap.size) := ⟨hp1, hp2⟩
  have F_p : Hid (Hp.length = np ∧ Hp.map Nr.d = s3.G ∧ Fp.length = vnp ∧ Fp.map Er.d = s3.E) := ⟨hl, hd, hf, hfd⟩
  have hlm := mw1.len
  replace LL := mkH (bT LL.out hb)
  replace KK := mkH (KK.out.keep hb)
  replace AA := mkH (AA.out.keep hb)
  replace MM := mkH (MM.out.keep hb)
  replace PO := mkH (PO.out.keep hb)
  replace LN := mkH (LN.out.keep hb)
  replace PA := mkH (PA.out.keep hb)
  replace PG_b := mkH (PG_b.out.keep hb)
  replace PC_b := mkH (PC_b.out.keep hb)
  clear hb hl hk hd hf hfd mw1 hp1 hp2 hPO1 hPO2
  dsimp only
  obtain ⟨X1, hX1⟩ : ∃ x, w13.alloc (.cells #[.slice none 0 0, .int .i64 0] 24) = x := ⟨_, rfl⟩
  obtain ⟨q16, hq16⟩ : ∃ x, w13.heap.size = x := ⟨_, rfl⟩
  obtain ⟨X2, hX2⟩ : ∃ x, X1.alloc (.cells (cxa (.slice none 0 0) 0 Z) 50) = x := ⟨_, rfl⟩
  obtain ⟨q17, hq17⟩ : ∃ x, X1.heap.size = x := ⟨_, rfl⟩
  obtain ⟨y1, y2, y3, y4, y5, y6, y7, y8⟩ := two_boxes (ao := pp) (va := vap) (n := np) (k := kp) (vn := vnp) (vc := vcp) (now := s3.now) (cu := s3.cur) (m := s3.m) hZ hlm hX1 hX2 hq16 hq17
  have T50 := mkH y4
  have PG_p : Hid (Bg ((((X2.setCell ⟨q16, 0, none⟩ (.slice pp np kp)).setCell ⟨q16, 1, none⟩ (.int .i64 s3.now)).setCells q17 0 (cx (.slice vap vnp vcp) s3.cur s3.m))) q16 w12.heap.size pp1 pp np kp s3.now Hp) := ⟨y5, hh.keep y8⟩
  have PC_p : Hid (Bk5 ((((X2.setCell ⟨q16, 0, none⟩ (.slice pp np kp)).setCell ⟨q16, 1, none⟩ (.int .i64 s3.now)).setCells q17 0 (cx (.slice vap vnp vcp) s3.cur s3.m))) q17 pp1 w13.heap.size vap vnp vcp s3.cur s3.m Fp) := ⟨y6, hL.keep y8⟩
  have Y8 := mkH y8
  have HQ_q16 : Hid (w13.heap.size = q16 ∧ q17 = q16 + 1) := ⟨hq16, by rw [← hq17, ← hX1, ← hq16, World.size_alloc]⟩
  have LT_q16 := mkH (Blk.lt y6)
  have hz50 := HZ50.out
  clear y4 y5 y6 y7 y8 hh hL
  go_upto_region 10 with (first | refine wl_st50 (B := q17) (o := 0) (.tmp 17) (.tmp 69) rfl rfl rfl rfl hlm T50.out ?_ | fail)
  clear y1 y2 y3 hX1 hX2 hq16 hq17 hz50 T50 hlm
  generalize ((X2.setCell ⟨q16, 0, none⟩ (.slice pp np kp)).setCell ⟨q16, 1, none⟩ (.int .i64 s3.now)).setCells q17 0 (cx (.slice vap vnp vcp) s3.cur s3.m) = w14 at *
  replace LL := mkH (bT LL.out Y8.out)
  replace KK := mkH (KK.out.keep Y8.out)
  replace AA := mkH (AA.out.keep Y8.out)
  replace MM := mkH (MM.out.keep Y8.out)
  replace PO := mkH (PO.out.keep Y8.out)
  replace LN := mkH (LN.out.keep Y8.out)
  replace PA := mkH (PA.out.keep Y8.out)
  replace PG_b := mkH (PG_b.out.keep Y8.out)
  replace PC_b := mkH (PC_b.out.keep Y8.out)
  clear Y8
  have f1 : w14.cell? ⟨b, 0, none⟩ = some (.slice ao n c) := KK.out.cell rfl
  have f2 : w14.cell? ⟨b, 1, none⟩ = some (.int .i64 now) := KK.out.cell rfl
  have hPO1 : w14.cell? ⟨q9, 0, none⟩ = some (.slice po n ko) := PO.out.b.cell rfl
  have hPO2 : w14.cell? ⟨q9, 1, none⟩ = some (.int .i64 now) := PO.out.b.cell rfl
  go_wp2_with fail
  refine (sameG_yes po n ko now H0 ao n c G w14 PO.out.h.grz (HG.out.keep LL.out) (by have := congrArg List.length HD0.out; rw [HDL.out, List.length_map] at this; exact this) (by have := HDL.out; rw [List.length_map] at this; exact this) HD0.out (by have := HN9.out; omega)).mono ?_
  rintro e w15 ⟨rfl, hb⟩
  have Z6a : Hid (w14.heap.size ≤ w15.heap.size) := hb.size
  replace LL := mkH (bT LL.out hb)
  replace KK := mkH (KK.out.keep hb)
  replace AA := mkH (AA.out.keep hb)
  replace MM := mkH (MM.out.keep hb)
  replace PO := mkH (PO.out.keep hb)
  replace LN := mkH (LN.out.keep hb)
  replace PA := mkH (PA.out.keep hb)
  replace PG_b := mkH (PG_b.out.keep hb)
  replace PC_b := mkH (PC_b.out.keep hb)
  replace PG_p := mkH (PG_p.out.keep hb)
  replace PC_p := mkH (PC_p.out.keep hb)
  clear hb f1 f2 hPO1 hPO2
  dsimp only
  have f3 := AA.out.c0
  go_wp2_with fail
  go_at_call 30
  refine (same_yes ma en mc F ea en ec E w15 LN.out.ez (HR.out.ez.keep LL.out) HFL.out HR.out.len HF.out (by have := HEN.out; omega)).mono ?_
  rintro e w16 ⟨rfl, hb⟩
  have Z6 : Hid (w14.heap.size ≤ w16.heap.size) := Nat.le_trans Z6a.out hb.size
  clear Z6a
  replace LL := mkH (bT LL.out hb)
  replace KK := mkH (KK.out.keep hb)
  replace AA := mkH (AA.out.keep hb)
  replace MM := mkH (MM.out.keep hb)
  replace PO := mkH (PO.out.keep hb)
  replace LN := mkH (LN.out.keep hb)
  replace PA := mkH (PA.out.keep hb)
  replace PG_b := mkH (PG_b.out.keep hb)
  replace PC_b := mkH (PC_b.out.keep hb)
  replace PG_p := mkH (PG_p.out.keep hb)
  replace PC_p := mkH (PC_p.out.keep hb)
  clear hb f3
  dsimp only
  go_upto_region 12 with fail
  have f1 : w16.cell? ⟨b, 0, none⟩ = some (.slice ao n c) := KK.out.cell rfl
  have f2 : w16.cell? ⟨b, 1, none⟩ = some (.int .i64 now) := KK.out.cell rfl
  have f3 := AA.out.c0
  have f4 := AA.out.c1
  go_wp2_with (first | refine wl_ld41 (B := b + 1) (o := 2) (.tmp 88) rfl rfl rfl hwl AA.out.m1 ?_ | refine wl_ld41 (B := b + 1) (o := 29) (.tmp 90) rfl rfl rfl hal AA.out.m2 ?_ | fail)
  refine (D19.out w16 LL.out).mono ?_
  rintro e w17 ⟨pw, nw, kw, Hw, rfl, hh, hl, hk, hd, h5, hb⟩
  have OO := mkH hh
  have Z4 : Hid (w16.heap.size ≤ w17.heap.size) := hb.size
  have FW : Hid (Hw.length = nw ∧ Hw.map Nr.d = dd ∧ nw ≤ 5000) := ⟨hl, hd, h5⟩
  replace LL := mkH (bT LL.out hb)
  replace KK := mkH (KK.out.keep hb)
  replace AA := mkH (AA.out.keep hb)
  replace MM := mkH (MM.out.keep hb)
  replace PO := mkH (PO.out.keep hb)
  replace LN := mkH (LN.out.keep hb)
  replace PA := mkH (PA.out.keep hb)
  replace PG_b := mkH (PG_b.out.keep hb)
  replace PC_b := mkH (PC_b.out.keep hb)
  replace PG_p := mkH (PG_p.out.keep hb)
  replace PC_p := mkH (PC_p.out.keep hb)
  clear hb hh hl hk hd h5 f1 f2 f3 f4 D19 D20
  dsimp only
  obtain ⟨X1, hX1⟩ : ∃ x, w17.alloc (.cells #[.slice none 0 0, .int .i64 0] 24) = x := ⟨_, rfl⟩
  obtain ⟨q19, hq19⟩ : ∃ x, w17.heap.size = x := ⟨_, rfl⟩
  obtain ⟨k0, k1, k4, k5⟩ := box24_facts hX1 hq19
  go_upto_region 13 with fail
  obtain ⟨x4, y4⟩ := Bg.put (n := nw) (k := kw) (now := nn) (lo := w16.heap.size) (hi := w17.heap.size) hX1 hq19 OO.out
  have PW := mkH x4
  have HQ_q19 := mkH hq19
  have LT_q19 := mkH x4.b.lt
  replace LL := mkH (bT LL.out y4)
  replace KK := mkH (KK.out.keep y4)
  replace AA := mkH (AA.out.keep y4)
  replace MM := mkH (MM.out.keep y4)
  replace PO := mkH (PO.out.keep y4)
  replace LN := mkH (LN.out.keep y4)
  replace PA := mkH (PA.out.keep y4)
  replace PG_b := mkH (PG_b.out.keep y4)
  replace PC_b := mkH (PC_b.out.keep y4)
  replace PG_p := mkH (PG_p.out.keep y4)
  replace PC_p := mkH (PC_p.out.keep y4)
  clear x4 y4 k0 k1 k4 k5 hX1 hq19 OO
  generalize (X1.setCell ⟨q19, 0, none⟩ (.slice pw nw kw)).setCell ⟨q19, 1, none⟩ (.int .i64 nn) = w18 at *
  have f1 : w18.cell? ⟨b, 0, none⟩ = some (.slice ao n c) := KK.out.cell rfl
  have f2 : w18.cell? ⟨b, 1, none⟩ = some (.int .i64 now) := KK.out.cell rfl
  go_wp2_with (first | refine wl_ld41 (B := b + 1 + 1) (o := 0) (.tmp 7) rfl rfl rfl hml (range_blk MM.out) ?_ | fail)
  refine (D23.out w18 LL.out).mono ?_
  rintro e w19 ⟨pr, nr, kr, Hr, var, vnr, vcr, Fr, rfl, g1, hl, hk1, hd, z1e, hf, fc1, hfd, mw1, kk9, hb⟩
  have F_r : Hid (Hr.length = nr ∧ Hr.map Nr.d = s3.G ∧ Fr.length = vnr ∧ Fr.map Er.d = s3.E) := ⟨hl, hd, hf, hfd⟩
  have hlm := mw1.len
  have Z5 : Hid (w18.heap.size ≤ w19.heap.size) := hb.size
  replace LL := mkH (bT LL.out hb)
  replace KK := mkH (KK.out.keep hb)
  replace AA := mkH (AA.out.keep hb)
  replace MM := mkH (MM.out.keep hb)
  replace PO := mkH (PO.out.keep hb)
  replace LN := mkH (LN.out.keep hb)
  replace PA := mkH (PA.out.keep hb)
  replace PG_b := mkH (PG_b.out.keep hb)
  replace PC_b := mkH (PC_b.out.keep hb)
  replace PG_p := mkH (PG_p.out.keep hb)
  replace PC_p := mkH (PC_p.out.keep hb)
  replace PW := mkH (PW.out.keep hb)
  clear hb hl hk1 hd hf fc1 hfd mw1 f1 f2
  dsimp only
  obtain ⟨X1, hX1⟩ : ∃ x, w19.alloc (.cells #[.slice none 0 0, .int .i64 0] 24) = x := ⟨_, rfl⟩
  obtain ⟨q21, hq21⟩ : ∃ x, w19.heap.size = x := ⟨_, rfl⟩
  obtain ⟨X2, hX2⟩ : ∃ x, X1.alloc (.cells (cxa (.slice none 0 0) 0 Z) 50) = x := ⟨_, rfl⟩
  obtain ⟨q22, hq22⟩ : ∃ x, X1.heap.size = x := ⟨_, rfl⟩
  obtain ⟨y1, y2, y3, y4, y5, y6, y7, y8⟩ := two_boxes (ao := pr) (va := var) (n := nr) (k := kr) (vn := vnr) (vc := vcr) (now := s3.now) (cu := s3.cur) (m := s3.m) hZ hlm hX1 hX2 hq21 hq22
  have T50 := mkH y4
  have RR : Hid (Rf ((((X2.setCell ⟨q21, 0, none⟩ (.slice pr nr kr)).setCell ⟨q21, 1, none⟩ (.int .i64 s3.now)).setCells q22 0 (cx (.slice var vnr vcr) s3.cur s3.m))) w18.heap.size q21 q22 pr nr kr s3.now Hr var vnr vcr s3.cur s3.m Fr) := ⟨y5, y6, fun W' hk => kk9 0 _ W' ((Kept.of_below y8 (Nat.le_refl _)).trans hk) (Nat.le_refl _), by have h1 := Z5.out; rw [← hq21, ← hq22, ← hX1, World.size_alloc]; omega⟩
  have Y8 := mkH y8
  have hz50 := HZ50.out
  clear y4 y5 y6 y7 y8 kk9 g1 z1e
  go_upto_region 14 with (first | refine wl_st50 (B := q22) (o := 0) (.tmp 22) (.tmp 101) rfl rfl rfl rfl hlm T50.out ?_ | fail)
  clear y1 y2 y3 hX1 hX2 hq21 hq22 hz50 T50 hlm
  generalize ((X2.setCell ⟨q21, 0, none⟩ (.slice pr nr kr)).setCell ⟨q21, 1, none⟩ (.int .i64 s3.now)).setCells q22 0 (cx (.slice var vnr vcr) s3.cur s3.m) = w20 at *
  replace LL := mkH (bT LL.out Y8.out)
  replace KK := mkH (KK.out.keep Y8.out)
  replace AA := mkH (AA.out.keep Y8.out)
  replace MM := mkH (MM.out.keep Y8.out)
  replace PO := mkH (PO.out.keep Y8.out)
  replace LN := mkH (LN.out.keep Y8.out)
  replace PA := mkH (PA.out.keep Y8.out)
  replace PG_b := mkH (PG_b.out.keep Y8.out)
  replace PC_b := mkH (PC_b.out.keep Y8.out)
  replace PG_p := mkH (PG_p.out.keep Y8.out)
  replace PC_p := mkH (PC_p.out.keep Y8.out)
  replace PW := mkH (PW.out.keep Y8.out)
  have Z7 : Hid (w18.heap.size ≤ w20.heap.size) := Nat.le_trans Z5.out Y8.out.size
  clear Y8 D23 D26
  have SZ : Hid (w.heap.size ≤ w5.heap.size ∧ w5.heap.size ≤ w6.heap.size ∧ w6.heap.size = q9 ∧ q9 < w7.heap.size ∧ w7.heap.size ≤ w8.heap.size ∧ w8.heap.size ≤ w9.heap.size ∧ w9.heap.size = q11 ∧ q11 < w10.heap.size ∧ w10.heap.size ≤ pb1 ∧ pb1 ≤ w11.heap.size ∧ w11.heap.size = q13 ∧ q14 = q13 + 1 ∧ q14 < w12.heap.size ∧ w12.heap.size ≤ pp1 ∧ pp1 ≤ w13.heap.size ∧ w13.heap.size = q16 ∧ q17 = q16 + 1 ∧ q17 < w14.heap.size ∧ w14.heap.size ≤ w16.heap.size ∧ w16.heap.size ≤ w17.heap.size ∧ w17.heap.size = q19 ∧ q19 < w18.heap.size ∧ w18.heap.size ≤ w19.heap.size ∧ w18.heap.size ≤ w20.heap.size) := by
    have := Z0.out; have := Z1.out; have := HQ_q9.out; have := LT_q9.out; have := Z2.out; have := Z3.out; have := HQ_q11.out; have := LT_q11.out; have := Zb.out; have := HQ_q13.out; have := LT_q13.out; have := Zp.out; have := HQ_q16.out; have := LT_q16.out; have := Z6.out; have := Z4.out; have := HQ_q19.out; have := LT_q19.out; have := Z5.out; have := Z7.out
    unfold Hid
    omega
  clear Z0 Z1 HQ_q9 LT_q9 Z2 Z3 HQ_q11 LT_q11 Zb HQ_q13 LT_q13 Zp HQ_q16 LT_q16 Z6 Z4 HQ_q19 LT_q19 Z5 Z7
  go_wp2_with fail
  refine (spoil_l w7.heap.size w8.heap.size en mc ma F w20 LN.out (by have := SZ.out; omega) (by have := HFL.out; have := HEN.out; omega)).mono ?_
  rintro e w21 ⟨⟨u9, rfl⟩, hk⟩
  clear KK AA MM LN HG HR
  replace LL := mkH (Kept.on LL.out hk (by have := SZ.out; omega))
  replace PO := mkH (PO.out.kept hk (by have := SZ.out; omega) (by have := SZ.out; omega))
  replace PA := mkH (PA.out.kept hk (by have := SZ.out; omega) (by have := SZ.out; omega))
  replace PG_b := mkH (PG_b.out.kept hk (by have := SZ.out; omega) (by have := SZ.out; omega))
  replace PC_b := mkH (PC_b.out.kept hk (by have := SZ.out; omega) (by have := SZ.out; omega))
  replace PG_p := mkH (PG_p.out.kept hk (by have := SZ.out; omega) (by have := SZ.out; omega))
  replace PC_p := mkH (PC_p.out.kept hk (by have := SZ.out; omega) (by have := SZ.out; omega))
  replace PW := mkH (PW.out.kept hk (by have := SZ.out; omega) (by have := SZ.out; omega))
  replace RR := mkH (RR.out.kept hk (by have := SZ.out; omega))
  clear hk
  dsimp only
  have HH0 : Hid (H0.length = n) := by have := congrArg List.length HD0.out; rw [HDL.out, List.length_map] at this; exact this
  have I0 := mkH (Lql.start PO.out.h HH0.out)
  have P0 := mkH PO.out.b
  go_wp2_with fail
  go_loopg [24] n (fun m x24 wx => ∃ i : Nat, x24 = .int .i64 (i : Int) ∧ i + m = n ∧ Hid (Lql w5.heap.size w6.heap.size w21 wx po n i H0) ∧ Hid (Blk wx q9 24 #[.slice po n ko, .int .i64 now]))
  case atStart => exact ⟨0, rfl, by omega, I0.out, P0.out⟩
  case round =>
    obtain ⟨i, rfl, him, QI, QB⟩ := hrel
    clear I0 P0
    obtain ⟨go1, hgo⟩ : ∃ g, g = gk - 1 := ⟨_, rfl⟩
    have o1 : wr.cell? ⟨q9, 0, none⟩ = some (.slice po n ko) := QB.out.cell rfl
    by_cases hi : i < n
    · have hi' : (i : Int) < (n : Int) := by omega
      have hi0 : (0 : Int) ≤ (i : Int) := by omega
      have hw8 : IntKind.i64.wrap ((i : Int) + 1) = ((i + 1 : Nat) : Int) := by rw [IntKind.wrap_i64]; have := HN9.out; omega
      obtain ⟨B, xa, xn, xc, XF, la, lb, hao, hc2, hls, hla, hxf, hl1, hl2, hB1, hB2, hnx⟩ := QI.out.get hi
      subst hao
      have XL := mkH hls
      have XB : Hid (la ≤ wr.heap.size ∧ XF.length ≤ 140737488355328 ∧ w5.heap.size ≤ la ∧ lb ≤ w6.heap.size ∧ B < w6.heap.size) := ⟨hla, hxf, hl1, hl2, hB1⟩
      have XN := mkH hnx
      clear hls hla hxf hl1 hl2 hB1 hB2 hnx
      go_wp2_with fail
      refine (spoil_l la lb xn xc xa XF wr XL.out XB.out.1 XB.out.2.1).mono ?_
      rintro e w40 ⟨⟨u8, rfl⟩, hk⟩
      obtain ⟨⟨u7, hu7⟩, hf7, hq7⟩ := XN.out w40 hk 0 (-3) (by omega)
      have Q7 := mkH hq7
      have B7 : Hid (Blk w40 q9 24 #[.slice (some ⟨B, 0, none⟩) n ko, .int .i64 now]) := QB.out.kept hk (.inr (by have := XB.out; have := SZ.out; omega))
      have N7 : Hid (q9 ≠ B) := by have := XB.out; have := SZ.out; unfold Hid; omega
      clear hk hq7 XN XL o1 hc2 QI QB
      dsimp only
      have o1 : w40.cell? ⟨q9, 0, none⟩ = some (.slice (some ⟨B, 0, none⟩) n ko) := B7.out.cell rfl
      have R7 : Hid (Blk (w40.setCell ⟨B, i * 58 + 0, none⟩ (.int .i64 (-3))) q9 24 #[.slice (some ⟨B, 0, none⟩) n ko, .int .i64 now]) := B7.out.off N7.out _
      simp only [Nat.add_zero] at hu7 hf7 Q7 R7
      clear B7 N7 XB
      go_wp2
      go_roundg go1
      case measure => omega
      case rel => exact ⟨i + 1, by go_num, by omega, Q7.out, R7.out⟩
    · have hi' : ¬ (i : Int) < (n : Int) := by omega
      have hk := QI.out.1
      clear hgo him hi QI QB
      clear PO
      replace LL := mkH (Kept.on LL.out hk (by have := SZ.out; omega))
      replace PA := mkH (PA.out.kept hk (by have := SZ.out; omega) (by have := SZ.out; omega))
      replace PG_b := mkH (PG_b.out.kept hk (by have := SZ.out; omega) (by have := SZ.out; omega))
      replace PC_b := mkH (PC_b.out.kept hk (by have := SZ.out; omega) (by have := SZ.out; omega))
      replace PG_p := mkH (PG_p.out.kept hk (by have := SZ.out; omega) (by have := SZ.out; omega))
      replace PC_p := mkH (PC_p.out.kept hk (by have := SZ.out; omega) (by have := SZ.out; omega))
      replace PW := mkH (PW.out.kept hk (by have := SZ.out; omega) (by have := SZ.out; omega))
      replace RR := mkH (RR.out.kept hk (by have := SZ.out; omega))
      clear hk
      have a1 : wr.cell? ⟨q11, 0, none⟩ = some (.slice pa na ka) := PA.out.b.cell rfl
      have a2 : wr.cell? ⟨q11, 1, none⟩ = some (.int .i64 nn) := PA.out.b.cell rfl
      have a3 : wr.cell? ⟨q19, 0, none⟩ = some (.slice pw nw kw) := PW.out.b.cell rfl
      have a4 : wr.cell? ⟨q19, 1, none⟩ = some (.int .i64 nn) := PW.out.b.cell rfl
      go_wp2_with fail
      refine (sameG_yes pa na ka nn Ha pw nw kw Hw wr PA.out.h.grz PW.out.h.grz FA.out.1 FW.out.1 (FA.out.2.1.trans FW.out.2.1.symm) (by have := FA.out.2.2; omega)).mono ?_
      rintro e w23 ⟨rfl, hb⟩
      replace LL := mkH (bT LL.out hb)
      replace PA := mkH (PA.out.keep hb)
      replace PG_b := mkH (PG_b.out.keep hb)
      replace PC_b := mkH (PC_b.out.keep hb)
      replace PG_p := mkH (PG_p.out.keep hb)
      replace PC_p := mkH (PC_p.out.keep hb)
      replace PW := mkH (PW.out.keep hb)
      replace RR := mkH (RR.out.keep hb)
      clear hb a1 a2 a3 a4 o1
      dsimp only
      have cb1 : w23.cell? ⟨q13, 0, none⟩ = some (.slice pb nb kb) := PG_b.out.b.cell rfl
      have cb2 : w23.cell? ⟨q13, 1, none⟩ = some (.int .i64 s3.now) := PG_b.out.b.cell rfl
      have r1 : w23.cell? ⟨q21, 0, none⟩ = some (.slice pr nr kr) := RR.out.b24.cell rfl
      have r2 : w23.cell? ⟨q21, 1, none⟩ = some (.int .i64 s3.now) := RR.out.b24.cell rfl
      go_wp2_with fail
      go_at_call 11
      refine (sameG_yes pb nb kb s3.now Hb pr nr kr Hr w23 PG_b.out.h.grz RR.out.gz.1 F_b.out.1 F_r.out.1 (F_b.out.2.1.trans F_r.out.2.1.symm) (by have h1 := HS3.out.g; rw [← F_b.out.2.1, List.length_map, F_b.out.1] at h1; omega)).mono ?_
      rintro e w24 ⟨rfl, hb⟩
      replace LL := mkH (bT LL.out hb)
      replace PA := mkH (PA.out.keep hb)
      replace PG_b := mkH (PG_b.out.keep hb)
      replace PC_b := mkH (PC_b.out.keep hb)
      replace PG_p := mkH (PG_p.out.keep hb)
      replace PC_p := mkH (PC_p.out.keep hb)
      replace PW := mkH (PW.out.keep hb)
      replace RR := mkH (RR.out.keep hb)
      clear hb cb1 cb2 r1 r2
      dsimp only
      go_wp2_with (first | refine wl_ldg ty50 (.tmp 14) (by first | rfl | simp [Region.wanted, yielded]) rfl rfl (cx (.slice vab vnb vcb) s3.cur s3.m) (cx_len HS3.out.m) (range_blk PC_b.out.b) ?_ | refine wl_ldg ty50 (.tmp 22) (by first | rfl | simp [Region.wanted, yielded]) rfl rfl (cx (.slice var vnr vcr) s3.cur s3.m) (cx_len HS3.out.m) (range_blk RR.out.b50) ?_ | fail)
      go_at_call 27
      refine (scross_yes vab vnb vcb Fb var vnr vcr Fr s3.cur s3.m HS3.out.m w24 PC_b.out.l.ez RR.out.gz.2 F_b.out.2.2.1 F_r.out.2.2.1 (F_b.out.2.2.2.trans F_r.out.2.2.2.symm) (by have h1 := HS3.out.e; rw [← F_b.out.2.2.2, List.length_map, F_b.out.2.2.1] at h1; omega)).mono ?_
      rintro e w25 ⟨rfl, hb⟩
      replace LL := mkH (bT LL.out hb)
      replace PA := mkH (PA.out.keep hb)
      replace PG_b := mkH (PG_b.out.keep hb)
      replace PC_b := mkH (PC_b.out.keep hb)
      replace PG_p := mkH (PG_p.out.keep hb)
      replace PC_p := mkH (PC_p.out.keep hb)
      replace PW := mkH (PW.out.keep hb)
      replace RR := mkH (RR.out.keep hb)
      clear hb
      dsimp only
      have c1 := (Cb.of PC_b.out.b).c0
      go_wp2_with fail
      refine (spoil_l pb1 w11.heap.size vnb vcb vab Fb w25 PC_b.out.l (by have := SZ.out; have h1 := (PG_p.out.b.lt); omega) (by have h1 := HS3.out.e; rw [← F_b.out.2.2.2, List.length_map] at h1; omega)).mono ?_
      rintro e w26 ⟨⟨u9, rfl⟩, hk⟩
      clear PC_b c1
      replace LL := mkH (Kept.on LL.out hk (by have := SZ.out; omega))
      replace PA := mkH (PA.out.kept hk (by have := SZ.out; omega) (by have := SZ.out; omega))
      replace PG_b := mkH (PG_b.out.kept hk (by have := SZ.out; omega) (by have := SZ.out; omega))
      replace PG_p := mkH (PG_p.out.kept hk (by have := SZ.out; omega) (by have := SZ.out; omega))
      replace PC_p := mkH (PC_p.out.kept hk (by have := SZ.out; omega) (by have := SZ.out; omega))
      replace PW := mkH (PW.out.kept hk (by have := SZ.out; omega) (by have := SZ.out; omega))
      replace RR := mkH (RR.out.kept hk (by have := SZ.out; omega))
      clear hk
      dsimp only
      have I0 := mkH (Lql.start PG_b.out.h F_b.out.1)
      have P0 := mkH PG_b.out.b
      have HNB : Hid (nb ≤ 1048576) := by have h1 := HS3.out.g; rw [← F_b.out.2.1, List.length_map, F_b.out.1] at h1; exact h1
      go_wp2_with fail
      go_loopg [25] nb (fun m x24 wx => ∃ i : Nat, x24 = .int .i64 (i : Int) ∧ i + m = nb ∧ Hid (Lql w10.heap.size pb1 w26 wx pb nb i Hb) ∧ Hid (Blk wx q13 24 #[.slice pb nb kb, .int .i64 s3.now]))
      case atStart => exact ⟨0, rfl, by omega, I0.out, P0.out⟩
      case round =>
        obtain ⟨i, rfl, him, QI, QB⟩ := hrel
        clear I0 P0
        obtain ⟨go2, hgo⟩ : ∃ g, g = gk - 1 := ⟨_, rfl⟩
        have o1 : wr.cell? ⟨q13, 0, none⟩ = some (.slice pb nb kb) := QB.out.cell rfl
        by_cases hi : i < nb
        · have hi' : (i : Int) < (nb : Int) := by omega
          have hi0 : (0 : Int) ≤ (i : Int) := by omega
          have hw8 : IntKind.i64.wrap ((i : Int) + 1) = ((i + 1 : Nat) : Int) := by rw [IntKind.wrap_i64]; have := HNB.out; omega
          obtain ⟨B, xa, xn, xc, XF, la, lb, hao, hc2, hls, hla, hxf, hl1, hl2, hB1, hB2, hnx⟩ := QI.out.get hi
          subst hao
          have XL := mkH hls
          have XB : Hid (la ≤ wr.heap.size ∧ XF.length ≤ 140737488355328 ∧ w10.heap.size ≤ la ∧ lb ≤ pb1 ∧ B < pb1) := ⟨hla, hxf, hl1, hl2, hB1⟩
          have XN := mkH hnx
          clear hls hla hxf hl1 hl2 hB1 hB2 hnx
          go_wp2_with fail
          refine (spoil_l la lb xn xc xa XF wr XL.out XB.out.1 XB.out.2.1).mono ?_
          rintro e w40 ⟨⟨u8, rfl⟩, hk⟩
          obtain ⟨⟨u7, hu7⟩, hf7, hq7⟩ := XN.out w40 hk 1 (-3) (by omega)
          have Q7 := mkH hq7
          have B7 : Hid (Blk w40 q13 24 #[.slice (some ⟨B, 0, none⟩) nb kb, .int .i64 s3.now]) := QB.out.kept hk (.inr (by have := XB.out; have := SZ.out; omega))
          have N7 : Hid (q13 ≠ B) := by have := XB.out; have := SZ.out; unfold Hid; omega
          clear hk hq7 XN XL o1 hc2 QI QB
          dsimp only
          have o1 : w40.cell? ⟨q13, 0, none⟩ = some (.slice (some ⟨B, 0, none⟩) nb kb) := B7.out.cell rfl
          have R7 : Hid (Blk (w40.setCell ⟨B, i * 58 + 1, none⟩ (.int .i64 (-3))) q13 24 #[.slice (some ⟨B, 0, none⟩) nb kb, .int .i64 s3.now]) := B7.out.off N7.out _
          clear B7 N7 XB
          go_wp2
          go_roundg go2
          case measure => omega
          case rel => exact ⟨i + 1, by go_num, by omega, Q7.out, R7.out⟩
        · have hi' : ¬ (i : Int) < (nb : Int) := by omega
          have hk := QI.out.1
          clear hgo him hi QI QB
          clear PG_b
          replace LL := mkH (Kept.on LL.out hk (by have := SZ.out; omega))
          replace PA := mkH (PA.out.kept hk (by have := SZ.out; omega) (by have := SZ.out; omega))
          replace PG_p := mkH (PG_p.out.kept hk (by have := SZ.out; omega) (by have := SZ.out; omega))
          replace PC_p := mkH (PC_p.out.kept hk (by have := SZ.out; omega) (by have := SZ.out; omega))
          replace PW := mkH (PW.out.kept hk (by have := SZ.out; omega) (by have := SZ.out; omega))
          replace RR := mkH (RR.out.kept hk (by have := SZ.out; omega))
          clear hk
          have cp1 : wr.cell? ⟨q16, 0, none⟩ = some (.slice pp np kp) := PG_p.out.b.cell rfl
          have cp2 : wr.cell? ⟨q16, 1, none⟩ = some (.int .i64 s3.now) := PG_p.out.b.cell rfl
          have r1 : wr.cell? ⟨q21, 0, none⟩ = some (.slice pr nr kr) := RR.out.b24.cell rfl
          have r2 : wr.cell? ⟨q21, 1, none⟩ = some (.int .i64 s3.now) := RR.out.b24.cell rfl
          go_wp2_with fail
          refine (sameG_yes pp np kp s3.now Hp pr nr kr Hr wr PG_p.out.h.grz RR.out.gz.1 F_p.out.1 F_r.out.1 (F_p.out.2.1.trans F_r.out.2.1.symm) (by have h1 := HS3.out.g; rw [← F_p.out.2.1, List.length_map, F_p.out.1] at h1; omega)).mono ?_
          rintro e w28 ⟨rfl, hb⟩
          replace LL := mkH (bT LL.out hb)
          replace PA := mkH (PA.out.keep hb)
          replace PG_p := mkH (PG_p.out.keep hb)
          replace PC_p := mkH (PC_p.out.keep hb)
          replace PW := mkH (PW.out.keep hb)
          replace RR := mkH (RR.out.keep hb)
          clear hb cp1 cp2 r1 r2 o1
          dsimp only
          go_wp2_with (first | refine wl_ldg ty50 (.tmp 17) (by first | rfl | simp [Region.wanted, yielded]) rfl rfl (cx (.slice vap vnp vcp) s3.cur s3.m) (cx_len HS3.out.m) (range_blk PC_p.out.b) ?_ | refine wl_ldg ty50 (.tmp 22) (by first | rfl | simp [Region.wanted, yielded]) rfl rfl (cx (.slice var vnr vcr) s3.cur s3.m) (cx_len HS3.out.m) (range_blk RR.out.b50) ?_ | fail)
          go_at_call 27
          refine (scross_yes vap vnp vcp Fp var vnr vcr Fr s3.cur s3.m HS3.out.m w28 PC_p.out.l.ez RR.out.gz.2 F_p.out.2.2.1 F_r.out.2.2.1 (F_p.out.2.2.2.trans F_r.out.2.2.2.symm) (by have h1 := HS3.out.e; rw [← F_p.out.2.2.2, List.length_map, F_p.out.2.2.1] at h1; omega)).mono ?_
          rintro e w29 ⟨rfl, hb⟩
          replace LL := mkH (bT LL.out hb)
          replace PA := mkH (PA.out.keep hb)
          replace PG_p := mkH (PG_p.out.keep hb)
          replace PC_p := mkH (PC_p.out.keep hb)
          replace PW := mkH (PW.out.keep hb)
          replace RR := mkH (RR.out.keep hb)
          clear hb
          dsimp only
          have a1 : w29.cell? ⟨q11, 0, none⟩ = some (.slice pa na ka) := PA.out.b.cell rfl
          have a2 : w29.cell? ⟨q11, 1, none⟩ = some (.int .i64 nn) := PA.out.b.cell rfl
          have a3 : w29.cell? ⟨q19, 0, none⟩ = some (.slice pw nw kw) := PW.out.b.cell rfl
          have a4 : w29.cell? ⟨q19, 1, none⟩ = some (.int .i64 nn) := PW.out.b.cell rfl
          go_wp2_with fail
          go_at_call 11
          refine (sameG_yes pa na ka nn Ha pw nw kw Hw w29 PA.out.h.grz PW.out.h.grz FA.out.1 FW.out.1 (FA.out.2.1.trans FW.out.2.1.symm) (by have := FA.out.2.2; omega)).mono ?_
          rintro e w30 ⟨rfl, hb⟩
          replace LL := mkH (bT LL.out hb)
          replace PA := mkH (PA.out.keep hb)
          replace PG_p := mkH (PG_p.out.keep hb)
          replace PC_p := mkH (PC_p.out.keep hb)
          replace PW := mkH (PW.out.keep hb)
          replace RR := mkH (RR.out.keep hb)
          clear hb a1 a2 a3 a4
          dsimp only
          go_wp2
          go_ret
          exact ⟨rfl, LL.out⟩
theorem groveKeeps_walk (ao : Option Addr) (n c : Nat) (now tt : Int) (G : List Nr) (ea : Option Addr) (en ec : Nat) (E : List Er) (cur : Int) (was made m : List Int) (w : World) (HG : Hid (Grz w ao G)) (hn : G.length = n) (hc : n ≤ c) (HR : Hid (Nz w ⟨now, 0, ea, en, ec, E, cur, was, made⟩)) (hm : Mw m) (hbig : ∀ d ∈ G.map Nr.d, nsum d.ed + osum d.ed + d.ed.length ≤ 1048576) (hn9 : n ≤ 1048576) (hbx : nsum (E.map Er.d) + osum (E.map Er.d) + en ≤ 1048576) :
    Calls Try.prog 9 #[.agg #[.slice ao n c, .int .i64 now], .agg (ada (.slice ea en ec) cur was made), .int .i64 tt, .agg (mk m)] w fun e w' => e = .returned (.bool true) ∧ Below w.heap.size w w' := groveKeeps_walk' zm rfl z50 ao n c now tt G ea en ec E cur was made m w HG hn hc HR hm hbig hn9 hbx
end Go.Proofs.Ytaahklapoppgaaa
