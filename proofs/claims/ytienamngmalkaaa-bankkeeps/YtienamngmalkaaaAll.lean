/- quoinref15.All: a bank in memory of its own. -/
import Derived.Test.YtienamngmalkaaaRb1
namespace Go.Proofs.Ytienamngmalkaaa
open Go.RowKit

set_option maxRecDepth 8000
/-- k registers are copied -/
structure Ald (w : World) (L : List Rg) (P : List Ct) (k : Nat) (W : World) (N : List Rg) : Prop where
  len : N.length = k
  fl : Fl N (P.take k)
  own : Rwz (w.heap.size + 1 + 1 + 1) W (rows N (P.take k))
  b1 : Blk W w.heap.size 28 (bk L)
  b2 : Blk W (w.heap.size + 1) 28 (bk zb)
  b3 : Blk W (w.heap.size + 1 + 1) 28 (bk (N ++ zb.drop k))
  bel : Below w.heap.size w W
theorem Ald.keep {w : World} {L : List Rg} {P : List Ct} {k : Nat} {W W' : World} {N : List Rg} (h : Ald w L P k W N) (hb : Below W.heap.size W W') : Ald w L P k W' N :=
  ⟨h.len, h.fl, h.own.keep hb, h.b1.keep hb, h.b2.keep hb, h.b3.keep hb, bT h.bel hb⟩
theorem Ald.next {w : World} {L : List Rg} {P : List Ct} {k : Nat} {W W' : World} {N : List Rg} (h : Ald w L P k W N) (hk : k < 37) {r : Rg} {c : Ct} (hc : P[k]? = some c) (hrd : Rd w r c)
    {a' : Option Addr} {c' : Nat} (hb : Below W.heap.size W W') (ho : W'.ownsRow W.heap.size 5 1 (.slice a' r.n c') r.n (bv c.t)) : Ald w L P (k + 1) (putr W' (w.heap.size + 1 + 1) k r.s r.l (.slice a' r.n c')) (N ++ [⟨r.s, r.l, a', r.n, c'⟩]) := by
  have hPk : P.take (k + 1) = P.take k ++ [c] := by
    have h1 := (List.getElem?_eq_some_iff.1 hc).1
    rw [List.take_succ_eq_append_getElem h1, (List.getElem?_eq_some_iff.1 hc).2]
  have hl : r.n = c.t.length := hrd.t.len.symm
  refine ⟨by simp [h.len], ?_, ?_, (h.b1.keep hb).putr_off (by omega) _ _ _, (h.b2.keep hb).putr_off (by omega) _ _ _, ?_, below_putr (bT h.bel hb) (by omega) _ _ _⟩
  · rw [hPk]; exact h.fl.snoc hrd.s hrd.l hl
  · rw [hPk, rows_snoc h.fl.1]
    exact (h.own.new hb ho).putr (by omega) _ _ _
  · have h1 := (h.b3.keep hb).putr (k := k) ⟨r.s, r.l, a', r.n, c'⟩
    have e : (N ++ zb.drop k).set k ⟨r.s, r.l, a', r.n, c'⟩ = N ++ [⟨r.s, r.l, a', r.n, c'⟩] ++ zb.drop (k + 1) := by
      have hd : zb.drop k = zr :: zb.drop (k + 1) := by
        have h1 : k < zb.length := hk
        rw [List.drop_eq_getElem_cons h1]
        congr 1
        show (List.replicate 37 zr)[k]'h1 = zr
        exact List.getElem_replicate _
      rw [hd, List.set_append_right _ _ (by rw [h.len]; exact Nat.le_refl _), h.len, Nat.sub_self]
      simp
    rw [e] at h1
    exact h1
set_option maxHeartbeats 4000000 in
theorem all_any (L : List Rg) (P : List Ct) (w : World) (HR : Hid (Rdb w L P)) :
    Calls Try.prog 20 #[.agg (bk L)] w fun e w' => ∃ N, e = .returned (.agg (bk N)) ∧ New w w' N P := by
  have hz := z28
  obtain ⟨hL, hP, hrd⟩ := HR.out
  have HD := Hid.mk' hrd
  clear hrd
  generalize hW3 : ((w.alloc (.cells (bk L) 28)).alloc (.cells (bk zb) 28)).alloc (.cells (bk zb) 28) = W3
  have A0 : Hid (Ald w L P 0 W3 []) := by
    subst hW3
    refine ⟨rfl, ⟨rfl, fun k r c h => by simp at h⟩, Rwz.nil (by simp), ((Blk.new w 28 _).keep (bAlloc (Below.refl _ _) _)).keep (bAlloc (Below.refl _ _) _), ?_, ?_, bAlloc (bAlloc (bAlloc (Below.refl _ _) _) _) _⟩
    · have := (Blk.new (w.alloc (.cells (bk L) 28)) 28 (bk zb)).keep (bAlloc (Below.refl _ _) (.cells (bk zb) 28))
      rwa [World.size_alloc] at this
    · have := Blk.new ((w.alloc (.cells (bk L) 28)).alloc (.cells (bk zb) 28)) 28 (bk zb)
      rwa [World.size_alloc, World.size_alloc] at this
  go_enter Try.func20, Try.ntmps20
  obtain ⟨x0, h0⟩ : ∃ r, L[0]? = some r := ⟨_, List.getElem?_eq_getElem (by omega)⟩
  obtain ⟨y0, k0⟩ : ∃ r, P[0]? = some r := ⟨_, List.getElem?_eq_getElem (by omega)⟩
  have D0 := Hid.mk' (HD.out 0 _ _ h0 k0)
  have E0 := Hid.mk' (And.intro h0 k0)
  obtain ⟨p0, p1, p2⟩ := A0.out.b1.rg h0
  change W3.cell? ⟨w.heap.size, 0, none⟩ = _ at p0
  change W3.cell? ⟨w.heap.size, 1, none⟩ = _ at p1
  change W3.cell? ⟨w.heap.size, 2, none⟩ = _ at p2
  obtain ⟨s0, l0, a0, n0, c0⟩ := x0
  dsimp only at p0 p1 p2
  have C0 := Hid.mk' (copy_any s0 l0 a0 n0 c0 y0.t W3 (D0.out.t.keep A0.out.bel) (by have := D0.out.n; dsimp only at this; omega))
  clear h0 k0
  go_wp2_with fail
  clear hW3
  refine C0.out.mono ?_
  rintro e w05 ⟨b0, d0, rfl, hO, hb⟩
  have A1 := Hid.mk' (A0.out.next (by decide) E0.out.2 D0.out hb hO)
  have AK := Hid.mk' (A0.out.keep hb)
  obtain ⟨y, hy⟩ : ∃ y, ([] ++ zb.drop 0)[0]? = some y := ⟨_, List.getElem?_eq_getElem (by decide)⟩
  obtain ⟨e0, e1, e2⟩ := AK.out.b3.rg hy
  change w05.cell? ⟨w.heap.size + 1 + 1, 0, none⟩ = _ at e0
  change w05.cell? ⟨w.heap.size + 1 + 1, 1, none⟩ = _ at e1
  change w05.cell? ⟨w.heap.size + 1 + 1, 2, none⟩ = _ at e2
  have f0 := AK.out.b3.frozen 0
  have f1 := AK.out.b3.frozen 1
  have f2 := AK.out.b3.frozen 2
  clear hy hO hb AK A0 C0 p0 p1 p2 D0 E0
  obtain ⟨V1, hV1⟩ : ∃ W, ((w05.setCell ⟨w.heap.size + 1 + 1, 0, none⟩ (.bool s0)).setCell ⟨w.heap.size + 1 + 1, 1, none⟩ (.bool l0)).setCell ⟨w.heap.size + 1 + 1, 2, none⟩ (.slice b0 n0 d0) = W := ⟨_, rfl⟩
  change Hid (Ald w L P 1 (((w05.setCell ⟨w.heap.size + 1 + 1, 0, none⟩ (.bool s0)).setCell ⟨w.heap.size + 1 + 1, 1, none⟩ (.bool l0)).setCell ⟨w.heap.size + 1 + 1, 2, none⟩ (.slice b0 n0 d0)) _) at A1
  rw [hV1] at A1
  obtain ⟨x1, h1⟩ : ∃ r, L[1]? = some r := ⟨_, List.getElem?_eq_getElem (by omega)⟩
  obtain ⟨y1, k1⟩ : ∃ r, P[1]? = some r := ⟨_, List.getElem?_eq_getElem (by omega)⟩
  have D1 := Hid.mk' (HD.out 1 _ _ h1 k1)
  have E1 := Hid.mk' (And.intro h1 k1)
  obtain ⟨p0, p1, p2⟩ := A1.out.b1.rg h1
  change V1.cell? ⟨w.heap.size, 3, none⟩ = _ at p0
  change V1.cell? ⟨w.heap.size, 4, none⟩ = _ at p1
  change V1.cell? ⟨w.heap.size, 5, none⟩ = _ at p2
  obtain ⟨s1, l1, a1, n1, c1⟩ := x1
  dsimp only at p0 p1 p2
  have C1 := Hid.mk' (copy_any s1 l1 a1 n1 c1 y1.t V1 (D1.out.t.keep A1.out.bel) (by have := D1.out.n; dsimp only at this; omega))
  clear h1 k1
  go_wp2_with fail

  refine C1.out.mono ?_
  rintro e w15 ⟨b1, d1, rfl, hO, hb⟩
  have A2 := Hid.mk' (A1.out.next (by decide) E1.out.2 D1.out hb hO)
  have AK := Hid.mk' (A1.out.keep hb)
  obtain ⟨y, hy⟩ : ∃ y, ([⟨s0, l0, b0, n0, d0⟩] ++ zb.drop 1)[1]? = some y := ⟨_, List.getElem?_eq_getElem (by exact Nat.lt_of_lt_of_eq (show 1 < 37 by decide) rfl)⟩
  obtain ⟨e0, e1, e2⟩ := AK.out.b3.rg hy
  change w15.cell? ⟨w.heap.size + 1 + 1, 3, none⟩ = _ at e0
  change w15.cell? ⟨w.heap.size + 1 + 1, 4, none⟩ = _ at e1
  change w15.cell? ⟨w.heap.size + 1 + 1, 5, none⟩ = _ at e2
  have f0 := AK.out.b3.frozen 3
  have f1 := AK.out.b3.frozen 4
  have f2 := AK.out.b3.frozen 5
  clear hy hO hb AK A1 C1 p0 p1 p2 D1 E1
  obtain ⟨V2, hV2⟩ : ∃ W, ((w15.setCell ⟨w.heap.size + 1 + 1, 3, none⟩ (.bool s1)).setCell ⟨w.heap.size + 1 + 1, 4, none⟩ (.bool l1)).setCell ⟨w.heap.size + 1 + 1, 5, none⟩ (.slice b1 n1 d1) = W := ⟨_, rfl⟩
  change Hid (Ald w L P 2 (((w15.setCell ⟨w.heap.size + 1 + 1, 3, none⟩ (.bool s1)).setCell ⟨w.heap.size + 1 + 1, 4, none⟩ (.bool l1)).setCell ⟨w.heap.size + 1 + 1, 5, none⟩ (.slice b1 n1 d1)) _) at A2
  rw [hV2] at A2
  go_wp2_with fail
  clear hV1 hV2
  go_loopg [4] 9 (fun m x4 wx => ∃ i : Nat, x4 = .int .i64 (i : Int) ∧ i + m = 9 ∧ ∃ N, Hid (Ald w L P (2 + i) wx N))
  case atStart => exact ⟨0, rfl, rfl, _, A2.out⟩
  case round =>
    obtain ⟨i, rfl, him, Ni, AI⟩ := hrel
    by_cases hi : i < 9
    · have hi' : (i : Int) < 9 := by omega
      have hi0 : (0 : Int) ≤ (i : Int) := by omega
      have hbig : 3 * (2 + i) = 6 + i * 3 := by omega
      obtain ⟨r, hr⟩ : ∃ r, L[2 + i]? = some r := ⟨_, List.getElem?_eq_getElem (by omega)⟩
      obtain ⟨c, hc⟩ : ∃ r, P[2 + i]? = some r := ⟨_, List.getElem?_eq_getElem (by omega)⟩
      have DD := Hid.mk' (HD.out _ _ _ hr hc)
      have HRC := Hid.mk' hc
      obtain ⟨p0, p1, p2⟩ := AI.out.b1.rg hr
      rw [hbig] at p0 p1 p2
      obtain ⟨rs, rgl, ra, rn, rc⟩ := r
      dsimp only at p0 p1 p2
      have CA := Hid.mk' (copy_any rs rgl ra rn rc c.t wr (DD.out.t.keep AI.out.bel) (by have := DD.out.n; dsimp only at this; omega))
      clear hr hc
      go_wp2_with fail
      refine CA.out.mono ?_
      rintro e w5 ⟨a5, c5, rfl, hO5, hb5⟩
      have AJ := Hid.mk' (AI.out.next (by omega) HRC.out DD.out hb5 hO5)
      have AK := Hid.mk' (AI.out.keep hb5)
      obtain ⟨y, hy⟩ : ∃ y, (Ni ++ zb.drop (2 + i))[2 + i]? = some y := ⟨_, List.getElem?_eq_getElem (by rw [List.length_append, AK.out.len, List.length_drop, show zb.length = 37 from rfl]; omega)⟩
      obtain ⟨e0, e1, e2⟩ := AK.out.b3.rg hy
      have f0 := AK.out.b3.frozen (6 + i * 3)
      have f1 := AK.out.b3.frozen (6 + i * 3 + 1)
      have f2 := AK.out.b3.frozen (6 + i * 3 + 2)
      unfold putr at AJ
      rw [hbig] at e0 e1 e2 AJ
      clear hbig hy hO5 hb5 AK AI CA p0 p1 p2
      go_wp2
      go_roundg (gk - 1)
      case rel => exact ⟨i + 1, by go_num, by omega, _, by rw [show 2 + (i + 1) = 2 + i + 1 by omega]; exact AJ.out⟩
      case measure => omega
    · have hi' : ¬ (i : Int) < 9 := by omega
      obtain rfl : i = 9 := by omega
      clear hi him
      have A11 : Hid (Ald w L P 11 wr Ni) := AI.out
      clear AI
      go_wp2_with fail
      go_loopg [5] 26 (fun m x5 wx => ∃ i : Nat, x5 = .int .i64 (i : Int) ∧ i + m = 26 ∧ ∃ N, Hid (Ald w L P (11 + i) wx N))
      case atStart => exact ⟨0, rfl, rfl, _, A11.out⟩
      case round =>
        obtain ⟨i, rfl, him, Ni, AI⟩ := hrel
        by_cases hi : i < 26
        · have hi' : (i : Int) < 26 := by omega
          have hi0 : (0 : Int) ≤ (i : Int) := by omega
          have hbig : 3 * (11 + i) = 33 + i * 3 := by omega
          obtain ⟨r, hr⟩ : ∃ r, L[11 + i]? = some r := ⟨_, List.getElem?_eq_getElem (by omega)⟩
          obtain ⟨c, hc⟩ : ∃ r, P[11 + i]? = some r := ⟨_, List.getElem?_eq_getElem (by omega)⟩
          have DD := Hid.mk' (HD.out _ _ _ hr hc)
          have HRC := Hid.mk' hc
          obtain ⟨p0, p1, p2⟩ := AI.out.b1.rg hr
          rw [hbig] at p0 p1 p2
          obtain ⟨rs, rgl, ra, rn, rc⟩ := r
          dsimp only at p0 p1 p2
          have CA := Hid.mk' (copy_any rs rgl ra rn rc c.t wr (DD.out.t.keep AI.out.bel) (by have := DD.out.n; dsimp only at this; omega))
          clear hr hc
          go_wp2_with fail
          refine CA.out.mono ?_
          rintro e w5 ⟨a5, c5, rfl, hO5, hb5⟩
          have AJ := Hid.mk' (AI.out.next (by omega) HRC.out DD.out hb5 hO5)
          have AK := Hid.mk' (AI.out.keep hb5)
          obtain ⟨y, hy⟩ : ∃ y, (Ni ++ zb.drop (11 + i))[11 + i]? = some y := ⟨_, List.getElem?_eq_getElem (by rw [List.length_append, AK.out.len, List.length_drop, show zb.length = 37 from rfl]; omega)⟩
          obtain ⟨e0, e1, e2⟩ := AK.out.b3.rg hy
          have f0 := AK.out.b3.frozen (33 + i * 3)
          have f1 := AK.out.b3.frozen (33 + i * 3 + 1)
          have f2 := AK.out.b3.frozen (33 + i * 3 + 2)
          unfold putr at AJ
          rw [hbig] at e0 e1 e2 AJ
          clear hbig hy hO5 hb5 AK AI CA p0 p1 p2
          go_wp2
          go_roundg (gk - 1)
          case rel => exact ⟨i + 1, by go_num, by omega, _, by rw [show 11 + (i + 1) = 11 + i + 1 by omega]; exact AJ.out⟩
          case measure => omega
        · have hi' : ¬ (i : Int) < 26 := by omega
          obtain rfl : i = 26 := by omega
          clear hi him
          have A37 : Hid (Ald w L P 37 wr Ni) := AI.out
          clear AI
          have hln := A37.out.len
          have BN : Hid (Blk wr (w.heap.size + 1 + 1) 28 (bk Ni)) := by
            have h := A37.out.b3
            rw [show zb.drop 37 = [] from rfl, List.append_nil] at h
            exact h
          have BZ : Hid (Blk wr (w.heap.size + 1) 28 (bk zb)) := A37.out.b2
          have BP := Hid.mk' (Blk.put28 hln rfl BZ.out)
          have hlv := ld28 hln BP.out
          have NW : Hid (New w (put28 wr (w.heap.size + 1) Ni) Ni P) := by
            have e : P.take 37 = P := List.take_of_length_le (by omega)
            have h1 := A37.out.fl
            have h2 := A37.out.own
            rw [e] at h1 h2
            exact ⟨hln, h1, (Rwz.put28 h2 (by omega) Ni).rws (by omega) (below_put28 A37.out.bel (by omega) Ni)⟩
          go_wp2_with (first | (refine wl_load28 (.tmp 3) rfl rfl rfl hln BN.out ?_) | (refine wl_store28 (.tmp 2) (.tmp 38) rfl rfl rfl rfl hln rfl BZ.out ?_))
          generalize put28 wr (w.heap.size + 1) Ni = WP at *
          exact bodyPost_ret (v := .agg (bk Ni)) (by simp [results, Try.results20, asAddr, hlv]) rfl ⟨_, rfl, NW.out⟩
end Go.Proofs.Ytienamngmalkaaa
