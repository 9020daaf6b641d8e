/- bank.apart: every register gets a text of its own. -/
import Derived.Test.YtienamngmalkaaaIx
import Derived.Deep.CutRange
namespace Go.Proofs.Ytienamngmalkaaa
open Go.RowKit

set_option maxRecDepth 8000
theorem bD {w W : World} (h : Below w.drew.heap.size w.drew W) : Below w.heap.size w W := ⟨h.os, h.tape, h.output, h.size, h.block⟩
theorem Rwz.setCells {b : Nat} {R : List Rw} {B : Nat} (hB : B < b) : ∀ (vs : List Value) (o : Nat) {W : World}, Rwz b W R → Rwz b (W.setCells B o vs) R
  | [], _, _, h => h
  | v :: r, o, _, h => Rwz.setCells hB r (o + 1) (h.set hB v)
theorem Rwz.put28 {b : Nat} {W : World} {R : List Rw} {B : Nat} (h : Rwz b W R) (hB : B < b) (L : List Rg) : Rwz b (Go.Proofs.Ytienamngmalkaaa.put28 W B L) R := h.setCells hB _ _
/-- a new bank's registers -/
structure New (w W : World) (N : List Rg) (P : List Ct) : Prop where
  len : N.length = 37
  fl : Fl N P
  own : Rws w W (rows N P)
/-- k registers are done -/
structure Apd (w : World) (L : List Rg) (P : List Ct) (k : Nat) (W : World) (N : List Rg) : Prop where
  len : N.length = k
  fl : Fl N (P.take k)
  own : Rwz (w.heap.size + 1 + 1) W (rows N (P.take k))
  b1 : Blk W w.heap.size 28 (bk (N ++ L.drop k))
  b2 : Blk W (w.heap.size + 1) 28 (bk zb)
  bel : Below w.heap.size w W
theorem Apd.keep {w : World} {L : List Rg} {P : List Ct} {k : Nat} {W W' : World} {N : List Rg} (h : Apd w L P k W N) (hb : Below W.heap.size W W') : Apd w L P k W' N :=
  ⟨h.len, h.fl, h.own.keep hb, h.b1.keep hb, h.b2.keep hb, bT h.bel hb⟩
theorem Apd.next {w : World} {L : List Rg} {P : List Ct} {k : Nat} {W W' : World} {N : List Rg} (h : Apd w L P k W N) {r : Rg} {c : Ct} (hr : L[k]? = some r) (hc : P[k]? = some c) (hrd : Rd w r c)
    {a' : Option Addr} {c' : Nat} (hb : Below W.heap.size W W') (ho : W'.ownsRow W.heap.size 5 1 (.slice a' r.n c') r.n (bv c.t)) : Apd w L P (k + 1) (putr W' w.heap.size k r.s r.l (.slice a' r.n c')) (N ++ [⟨r.s, r.l, a', r.n, c'⟩]) := by
  have hPk : P.take (k + 1) = P.take k ++ [c] := by
    have h1 := (List.getElem?_eq_some_iff.1 hc).1
    rw [List.take_succ_eq_append_getElem h1, (List.getElem?_eq_some_iff.1 hc).2]
  have hl : r.n = c.t.length := hrd.t.len.symm
  refine ⟨by simp [h.len], ?_, ?_, ?_, (h.b2.keep hb).putr_off (by omega) _ _ _, below_putr (bT h.bel hb) (Nat.le_refl _) _ _ _⟩
  · rw [hPk]; exact h.fl.snoc hrd.s hrd.l hl
  · rw [hPk, rows_snoc h.fl.1]
    exact (h.own.new hb ho).putr (by omega) _ _ _
  · have h1 := (h.b1.keep hb).putr (k := k) ⟨r.s, r.l, a', r.n, c'⟩
    have e : (N ++ L.drop k).set k ⟨r.s, r.l, a', r.n, c'⟩ = N ++ [⟨r.s, r.l, a', r.n, c'⟩] ++ L.drop (k + 1) := by
      have hd : L.drop k = r :: L.drop (k + 1) := by
        have h1 := (List.getElem?_eq_some_iff.1 hr).1
        rw [List.drop_eq_getElem_cons h1, (List.getElem?_eq_some_iff.1 hr).2]
      rw [hd, List.set_append_right _ _ (by rw [h.len]; exact Nat.le_refl _), h.len, Nat.sub_self]
      simp
    rw [e] at h1
    exact h1
theorem Apd.two {w : World} {L : List Rg} {P : List Ct} {W W3 W4 : World} (h : Apd w L P 0 W []) {r0 r1 : Rg} {y0 y1 : Ct} (h0 : L[0]? = some r0) (h1 : L[1]? = some r1) (k0 : P[0]? = some y0) (k1 : P[1]? = some y1) (d0 : Rd w r0 y0) (d1 : Rd w r1 y1)
    {a3 a4 : Option Addr} {c3 c4 : Nat} (b3 : Below W.heap.size W W3) (o3 : W3.ownsRow W.heap.size 5 1 (.slice a3 r0.n c3) r0.n (bv y0.t)) (b4 : Below W3.heap.size W3 W4) (o4 : W4.ownsRow W3.heap.size 5 1 (.slice a4 r1.n c4) r1.n (bv y1.t)) :
    Apd w L P 2 (putr (putr W4 w.heap.size 0 r0.s r0.l (.slice a3 r0.n c3)) w.heap.size 1 r1.s r1.l (.slice a4 r1.n c4)) [⟨r0.s, r0.l, a3, r0.n, c3⟩, ⟨r1.s, r1.l, a4, r1.n, c4⟩] := by
  match L, P, h0, h1, k0, k1 with
  | x0 :: x1 :: L, z0 :: z1 :: P, h0, h1, k0, k1 =>
    simp at h0 h1 k0 k1
    subst h0 h1 k0 k1
    have f1 := (h.fl.snoc (r := ⟨x0.s, x0.l, a3, x0.n, c3⟩) (c := z0) d0.s d0.l d0.t.len.symm).snoc (r := ⟨x1.s, x1.l, a4, x1.n, c4⟩) (c := z1) d1.s d1.l d1.t.len.symm
    have g1 := (((h.own.new b3 o3).new b4 o4).putr (B := w.heap.size) (k := 0) (by omega) x0.s x0.l (.slice a3 x0.n c3)).putr (B := w.heap.size) (k := 1) (by omega) x1.s x1.l (.slice a4 x1.n c4)
    have e1 := (((h.b1.keep b3).keep b4).putr (k := 0) ⟨x0.s, x0.l, a3, x0.n, c3⟩).putr (k := 1) ⟨x1.s, x1.l, a4, x1.n, c4⟩
    exact ⟨rfl, f1, g1, e1, (((h.b2.keep b3).keep b4).putr_off (by omega) _ _ _).putr_off (by omega) _ _ _, below_putr (below_putr (bT (bT h.bel b3) b4) (Nat.le_refl _) _ _ _) (Nat.le_refl _) _ _ _⟩
set_option maxHeartbeats 4000000 in
theorem apart_any (L : List Rg) (P : List Ct) (w : World) (HR : Hid (Rdb w L P)) :
    Calls Try.prog 33 #[.agg (bk L)] w fun e w' => ∃ N, e = .returned (.agg (bk N)) ∧ New w w' N P := by
  have hz := z28
  obtain ⟨hL, hP, hrd⟩ := HR.out
  have HD := Hid.mk' hrd
  clear hrd
  generalize hW2 : (w.alloc (.cells (bk L) 28)).alloc (.cells (bk zb) 28) = W2
  have A0 : Hid (Apd w L P 0 W2 []) := by
    subst hW2
    refine ⟨rfl, ⟨rfl, fun k r c h => by simp at h⟩, Rwz.nil (by simp), (Blk.new w 28 _).keep (bAlloc (Below.refl _ _) _), ?_, bAlloc (bAlloc (Below.refl _ _) _) _⟩
    have := Blk.new (w.alloc (.cells (bk L) 28)) 28 (bk zb)
    rwa [World.size_alloc] at this
  obtain ⟨x0, h0⟩ : ∃ r, L[0]? = some r := ⟨_, List.getElem?_eq_getElem (by omega)⟩
  obtain ⟨x1, h1⟩ : ∃ r, L[1]? = some r := ⟨_, List.getElem?_eq_getElem (by omega)⟩
  obtain ⟨y0, k0⟩ : ∃ r, P[0]? = some r := ⟨_, List.getElem?_eq_getElem (by omega)⟩
  obtain ⟨y1, k1⟩ : ∃ r, P[1]? = some r := ⟨_, List.getElem?_eq_getElem (by omega)⟩
  have D0 := Hid.mk' (HD.out 0 _ _ h0 k0)
  have D1 := Hid.mk' (HD.out 1 _ _ h1 k1)
  obtain ⟨s0, l0, a0, n0, c0⟩ := x0
  obtain ⟨s1, l1, a1, n1, c1⟩ := x1
  obtain ⟨p0, p1, p2⟩ := A0.out.b1.rg (k := 0) h0
  obtain ⟨q0, q1, q2⟩ := A0.out.b1.rg (k := 1) h1
  change W2.cell? ⟨w.heap.size, 0, none⟩ = _ at p0
  change W2.cell? ⟨w.heap.size, 1, none⟩ = _ at p1
  change W2.cell? ⟨w.heap.size, 2, none⟩ = _ at p2
  change W2.cell? ⟨w.heap.size, 3, none⟩ = _ at q0
  change W2.cell? ⟨w.heap.size, 4, none⟩ = _ at q1
  change W2.cell? ⟨w.heap.size, 5, none⟩ = _ at q2
  dsimp only at p0 p1 p2 q0 q1 q2
  have HC : Hid (∀ W, Below W2.heap.size W2 W → W.cell? ⟨w.heap.size, 0, none⟩ = some (.bool s0) ∧ W.cell? ⟨w.heap.size, 1, none⟩ = some (.bool l0) ∧ W.cell? ⟨w.heap.size, 2, none⟩ = some (.slice a0 n0 c0) ∧ W.cell? ⟨w.heap.size, 3, none⟩ = some (.bool s1) ∧ W.cell? ⟨w.heap.size, 4, none⟩ = some (.bool l1) ∧ W.cell? ⟨w.heap.size, 5, none⟩ = some (.slice a1 n1 c1)) := fun W hW =>
    have e0 := (A0.out.b1.keep hW).rg (k := 0) h0
    have e1 := (A0.out.b1.keep hW).rg (k := 1) h1
    ⟨e0.1, e0.2.1, e0.2.2, e1.1, e1.2.1, e1.2.2⟩
  have FZ := Hid.mk' (fun W (hW : Below W2.heap.size W2 W) => (A0.out.b1.keep hW).frozen)
  have fz := FZ.out W2 (Below.refl _ _)
  have C0 := Hid.mk' (fun W (hW : Below W2.heap.size W2 W) => alone_any s0 l0 a0 n0 c0 y0.t W (D0.out.t.keep (bT A0.out.bel hW)) (by have := D0.out.n; dsimp only at this; omega))
  have C1 := Hid.mk' (fun W (hW : Below W2.heap.size W2 W) => alone_any s1 l1 a1 n1 c1 y1.t W (D1.out.t.keep (bT A0.out.bel hW)) (by have := D1.out.n; dsimp only at this; omega))
  have HBL : Hid (Blk W2 w.heap.size 28 (bk L)) := A0.out.b1
  generalize hZ : bk zb = Z at *
  go_enter Try.func33, Try.ntmps33
  go_wp2_with fail
  clear hW2
  go_cut [7] from 7 to 14 (fun x7 wx => x7 = .pointer (some ⟨w.heap.size, 0, none⟩) ∧ ∃ N, Apd w L P 2 wx N)
  case first =>
    go_region_law (first
      | ((try go_simp); go_at_call_of 26 (Value.agg #[Value.bool s0, Value.bool l0, Value.slice a0 n0 c0]); refine (C0.out W2.drew (Below.refl _ _).drew).mono ?_; rintro e w3 ⟨a3, c3, rfl, hO3, hb3⟩; (have N3 := Hid.mk' (bD hb3)); (have O3 := Hid.mk' hO3); clear hO3 hb3 p0 p1 p2 q0 q1 q2 fz; (obtain ⟨p0, p1, p2, q0, q1, q2⟩ := HC.out _ N3.out); (have fz := FZ.out _ N3.out))
      | ((try go_simp); go_at_call_of 26 (Value.agg #[Value.bool s1, Value.bool l1, Value.slice a1 n1 c1]); refine (C1.out w3 N3.out).mono ?_; rintro e w4 ⟨a4, c4, rfl, hO4, hb4⟩; (have N4 := Hid.mk' (bT N3.out hb4)); (have H4 := Hid.mk' hb4); (have O4 := Hid.mk' hO4); clear hO4 hb4 p0 p1 p2 q0 q1 q2 fz; (obtain ⟨p0, p1, p2, q0, q1, q2⟩ := HC.out _ N4.out); (have fz := FZ.out _ N4.out))
      | fail)
    all_goals
      have A9 := Hid.mk' (A0.out.two h0 h1 k0 k1 D0.out D1.out N3.out O3.out H4.out O4.out)
      go_wp2_with fail
      go_meet
      exact ⟨rfl, _, A9.out⟩
  case rest =>
    obtain ⟨rfl, N2, hA2⟩ := hcut
    have A2 := Hid.mk' hA2
    clear hA2 C0 C1 D0 D1 h0 h1 k0 k1 HC FZ fz HBL A0 p0 p1 p2 q0 q1 q2
    obtain ⟨M9, hM9⟩ : ∃ M, M = (L.drop 2).take 9 := ⟨_, rfl⟩
    have hl9 : M9.length = 9 := by rw [hM9]; simp; omega
    have B9 : Hid (Blk wc w.heap.size 28 (bk (N2 ++ M9 ++ L.drop 11))) := by
      have h := A2.out.b1
      have e : L.drop 2 = M9 ++ L.drop 11 := by
        rw [hM9]
        have := List.take_append_drop 9 (L.drop 2)
        rw [List.drop_drop] at this
        exact this.symm
      rw [e, ← List.append_assoc] at h
      exact h
    have HM9 : Hid (∀ i, i < 9 → M9[i]? = L[2 + i]?) := fun i hi => by rw [hM9, List.getElem?_take_of_lt hi, List.getElem?_drop]
    clear hM9
    go_wp2_with (refine wl_load25 (.tmp 15) rfl rfl rfl N2 M9 (L.drop 11) A2.out.len hl9 B9.out ?_)
    go_loopg [17] 9 (fun m x17 wx => ∃ i : Nat, x17 = .int .i64 (i : Int) ∧ i + m = 9 ∧ ∃ N, Hid (Apd w L P (2 + i) wx N))
    case atStart => exact ⟨0, rfl, rfl, N2, A2.out⟩
    case round =>
      obtain ⟨i, rfl, him, Ni, AI⟩ := hrel
      clear A2 B9
      by_cases hi : i < 9
      · have hi' : (i : Int) < 9 := by omega
        obtain ⟨r, hr⟩ : ∃ r, L[2 + i]? = some r := ⟨_, List.getElem?_eq_getElem (by omega)⟩
        obtain ⟨c, hc⟩ : ∃ r, P[2 + i]? = some r := ⟨_, List.getElem?_eq_getElem (by omega)⟩
        have D := Hid.mk' (HD.out _ _ _ hr hc)
        have hix := ix25 hl9 (show M9[i]? = some r by rw [HM9.out i hi]; exact hr)
        have HRC := Hid.mk' (And.intro hr hc)
        obtain ⟨rs, rgl, ra, rn, rc⟩ := r
        dsimp only at hix
        have CA := Hid.mk' (alone_any rs rgl ra rn rc c.t (wr.alloc (.cells #[.bool rs, .bool rgl, .slice ra rn rc] 24)) (D.out.t.keep (bT AI.out.bel (bAlloc (Below.refl _ _) _))) (by have := D.out.n; dsimp only at this; omega))
        clear hr hc
        go_wp2_with fail
        refine CA.out.mono ?_
        rintro e w5 ⟨a5, c5, rfl, hO5, hb5⟩
        have hbig : 3 * (2 + i) = 6 + i * 3 := by omega
        have AJ := Hid.mk' ((AI.out.keep (bAlloc (Below.refl _ _) (.cells #[.bool rs, .bool rgl, .slice ra rn rc] 24))).next HRC.out.1 HRC.out.2 D.out hb5 hO5)
        have AK := Hid.mk' ((AI.out.keep (bAlloc (Below.refl _ _) (.cells #[.bool rs, .bool rgl, .slice ra rn rc] 24))).keep hb5)
        obtain ⟨y, hy⟩ : ∃ y, (Ni ++ L.drop (2 + i))[2 + i]? = some y := ⟨_, List.getElem?_eq_getElem (by simp [AK.out.len]; omega)⟩
        obtain ⟨e0, e1, e2⟩ := AK.out.b1.rg hy
        have f0 := AK.out.b1.frozen (6 + i * 3)
        have f1 := AK.out.b1.frozen (6 + i * 3 + 1)
        have f2 := AK.out.b1.frozen (6 + i * 3 + 2)
        unfold putr at AJ
        rw [hbig] at e0 e1 e2 AJ
        clear hbig hy hO5 hb5 AK AI CA
        go_wp2
        go_roundg (gk - 1)
        case rel => exact ⟨i + 1, by go_num, by omega, _, by rw [show 2 + (i + 1) = 2 + i + 1 by omega]; exact AJ.out⟩
        case measure => omega
      · have hi' : ¬ (i : Int) < 9 := by omega
        obtain rfl : i = 9 := by omega
        clear hi him
        have A11 : Hid (Apd w L P 11 wr Ni) := AI.out
        clear AI
        obtain ⟨M26, hM26⟩ : ∃ M, M = L.drop 11 := ⟨_, rfl⟩
        have hl26 : M26.length = 26 := by rw [hM26]; simp; omega
        have B26 : Hid (Blk wr w.heap.size 28 (bk (Ni ++ M26))) := by rw [hM26]; exact A11.out.b1
        have HM26 : Hid (∀ i, i < 26 → M26[i]? = L[11 + i]?) := fun i _ => by rw [hM26, List.getElem?_drop]
        clear hM26
        go_wp2_with (refine wl_load26 (.tmp 27) rfl rfl rfl Ni M26 A11.out.len hl26 B26.out ?_)
        go_loopg [29] 26 (fun m x29 wx => ∃ i : Nat, x29 = .int .i64 (i : Int) ∧ i + m = 26 ∧ ∃ N, Hid (Apd w L P (11 + i) wx N))
        case atStart => exact ⟨0, rfl, rfl, Ni, A11.out⟩
        case round =>
          obtain ⟨i, rfl, him, Ni, AI⟩ := hrel
          clear A11 B26
          by_cases hi : i < 26
          · have hi' : (i : Int) < 26 := by omega
            obtain ⟨r, hr⟩ : ∃ r, L[11 + i]? = some r := ⟨_, List.getElem?_eq_getElem (by omega)⟩
            obtain ⟨c, hc⟩ : ∃ r, P[11 + i]? = some r := ⟨_, List.getElem?_eq_getElem (by omega)⟩
            have D := Hid.mk' (HD.out _ _ _ hr hc)
            have hix := ix26 hl26 (show M26[i]? = some r by rw [HM26.out i hi]; exact hr)
            have HRC := Hid.mk' (And.intro hr hc)
            obtain ⟨rs, rgl, ra, rn, rc⟩ := r
            dsimp only at hix
            have CA := Hid.mk' (alone_any rs rgl ra rn rc c.t (wr.alloc (.cells #[.bool rs, .bool rgl, .slice ra rn rc] 24)) (D.out.t.keep (bT AI.out.bel (bAlloc (Below.refl _ _) _))) (by have := D.out.n; dsimp only at this; omega))
            clear hr hc
            go_wp2_with fail
            refine CA.out.mono ?_
            rintro e w5 ⟨a5, c5, rfl, hO5, hb5⟩
            have hbig : 3 * (11 + i) = 33 + i * 3 := by omega
            have AJ := Hid.mk' ((AI.out.keep (bAlloc (Below.refl _ _) (.cells #[.bool rs, .bool rgl, .slice ra rn rc] 24))).next HRC.out.1 HRC.out.2 D.out hb5 hO5)
            have AK := Hid.mk' ((AI.out.keep (bAlloc (Below.refl _ _) (.cells #[.bool rs, .bool rgl, .slice ra rn rc] 24))).keep hb5)
            obtain ⟨y, hy⟩ : ∃ y, (Ni ++ L.drop (11 + i))[11 + i]? = some y := ⟨_, List.getElem?_eq_getElem (by simp [AK.out.len]; omega)⟩
            obtain ⟨e0, e1, e2⟩ := AK.out.b1.rg hy
            have f0 := AK.out.b1.frozen (33 + i * 3)
            have f1 := AK.out.b1.frozen (33 + i * 3 + 1)
            have f2 := AK.out.b1.frozen (33 + i * 3 + 2)
            unfold putr at AJ
            rw [hbig] at e0 e1 e2 AJ
            clear hbig hy hO5 hb5 AK AI CA
            go_wp2
            go_roundg (gk - 1)
            case rel => exact ⟨i + 1, by go_num, by omega, _, by rw [show 11 + (i + 1) = 11 + i + 1 by omega]; exact AJ.out⟩
            case measure => omega
          · have hi' : ¬ (i : Int) < 26 := by omega
            obtain rfl : i = 26 := by omega
            clear hi him
            have AZ : Hid (Apd w L P 37 wr Ni) := AI.out
            clear AI
            have hln := AZ.out.len
            have BN : Hid (Blk wr w.heap.size 28 (bk Ni)) := by
              have h := AZ.out.b1
              rw [List.drop_eq_nil_of_le (by omega), List.append_nil] at h
              exact h
            have BZ : Hid (Blk wr (w.heap.size + 1) 28 (bk zb)) := AZ.out.b2
            have BP := Hid.mk' (Blk.put28 hln rfl BZ.out)
            have hlv := ld28 hln BP.out
            have NW : Hid (New w (put28 wr (w.heap.size + 1) Ni) Ni P) := by
              have e : P.take 37 = P := List.take_of_length_le (by omega)
              have h1 := AZ.out.fl
              have h2 := AZ.out.own
              rw [e] at h1 h2
              exact ⟨hln, h1, (Rwz.put28 h2 (by omega) Ni).rws (by omega) (below_put28 AZ.out.bel (by omega) Ni)⟩
            go_wp2_with (first | (refine wl_load28 (.tmp 1) rfl rfl rfl hln BN.out ?_) | (refine wl_store28 (.tmp 2) (.tmp 39) rfl rfl rfl rfl hln rfl BZ.out ?_))
            generalize put28 wr (w.heap.size + 1) Ni = WP at *
            exact bodyPost_ret (v := .agg (bk Ni)) (by simp [results, Try.results33, asAddr, hlv]) rfl ⟨_, rfl, NW.out⟩
end Go.Proofs.Ytienamngmalkaaa
