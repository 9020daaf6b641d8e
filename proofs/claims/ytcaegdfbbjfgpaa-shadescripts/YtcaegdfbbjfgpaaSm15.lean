/- The walk of quoinlaw02.ShadeScripts. -/
import Derived.Test.YtcaegdfbbjfgpaaSm14
import Derived.Test.YtcaegdfbbjfgpaaAm18
namespace Go.Proofs.Ytcaegdfbbjfgpaa
open Go.RowKit

/-- a step of the script -/
structure Stp where
  kd : Int
  a : Int
  b : Int
  at' : Int
  p : Pc
  lx : Option Addr
  lz : Nat
  L : List Pc
/-- numbers that fit -/
def Stp.ok (s : Stp) : Prop := (-9223372036854775808 ≤ s.kd ∧ s.kd ≤ 9223372036854775807) ∧ (-9223372036854775808 ≤ s.a ∧ s.a ≤ 9223372036854775807) ∧ (-9223372036854775808 ≤ s.b ∧ s.b ≤ 9223372036854775807) ∧ s.L.length ≤ 4611686018427387904
/-- the script, read -/
def Scr (W : World) (so : Option Addr) (S : List Stp) : Prop := S = [] ∨ ∃ b off, so = some ⟨b, off, none⟩ ∧ ∀ i s, S[i]? = some s → (W.cell? ⟨b, off + i * 9, none⟩ = some (.int .i64 s.kd) ∧ W.cell? ⟨b, off + i * 9 + 1, none⟩ = some (.int .i64 s.a) ∧ W.cell? ⟨b, off + i * 9 + 2, none⟩ = some (.int .i64 s.b) ∧ W.cell? ⟨b, off + i * 9 + 3, none⟩ = some (.int .i64 s.at') ∧ W.cell? ⟨b, off + i * 9 + 4, none⟩ = some (.int .i64 s.p.s) ∧ W.cell? ⟨b, off + i * 9 + 5, none⟩ = some (.int .i64 s.p.o) ∧ W.cell? ⟨b, off + i * 9 + 6, none⟩ = some (.int .i64 s.p.l) ∧ W.cell? ⟨b, off + i * 9 + 7, none⟩ = some (.int .i64 s.p.n) ∧ W.cell? ⟨b, off + i * 9 + 8, none⟩ = some (.slice s.lx s.L.length s.lz)) ∧ Rdb W (.slice s.lx s.L.length s.lz) s.L ∧ s.ok
theorem Scr.keep {W W' : World} {so : Option Addr} {S : List Stp} (h : Scr W so S) (hb : Below W.heap.size W W') : Scr W' so S := by
  rcases h with h | ⟨b, off, e, h⟩
  · exact .inl h
  · refine .inr ⟨b, off, e, fun i s hs => ?_⟩
    obtain ⟨⟨h0, h1, h2, h3, h4, h5, h6, h7, h8⟩, hr, ho⟩ := h i s hs
    have k : ∀ {o : Nat} {v : Value}, W.cell? ⟨b, o, none⟩ = some v → W'.cell? ⟨b, o, none⟩ = some v := fun hv => by rw [hb.cell (p := ⟨b, _, none⟩) (cell_lt hv)]; exact hv
    exact ⟨⟨k h0, k h1, k h2, k h3, k h4, k h5, k h6, k h7, k h8⟩, hr.keep hb, ho⟩
/-- the trees that a step made -/
def Mk (W : World) (g1 g2 : Nat) (Qs : List Tr) : Prop := ∀ j T, Qs[j]? = some T → Gt T ∧ ∃ x l, W.cell? ⟨g1, j, none⟩ = some (.pointer x) ∧ W.cell? ⟨g2, j, none⟩ = some l ∧ At W T x ∧ Ow W l T
theorem Mk.keep {W W' : World} {g1 g2 : Nat} {Qs : List Tr} (h : Mk W g1 g2 Qs) (hb : Below W.heap.size W W') : Mk W' g1 g2 Qs := fun j T hj => by
  obtain ⟨gT, x, l, h1, h2, h3, h4⟩ := h j T hj
  exact ⟨gT, x, l, by rw [hb.cell (p := ⟨g1, j, none⟩) (cell_lt h1)]; exact h1, by rw [hb.cell (p := ⟨g2, j, none⟩) (cell_lt h2)]; exact h2, h3.keep hb, h4.keep hb⟩
theorem Mk.grown {w w' : World} {g1 g2 : Nat} {Qs : List Tr} {base e size n : Nat} {v : Value} {xs : List Value} (h : Mk w g1 g2 Qs) (ho : w.ownsRow base e size v n xs) (he : e ≠ 116) (he2 : e ≠ 72) (hg : w.grownBy w' v.ownBlock) (n1 : v.ownBlock ≠ some g1) (n2 : v.ownBlock ≠ some g2) : Mk w' g1 g2 Qs := fun j T hj => by
  obtain ⟨gT, x, l, h1, h2, h3, h4⟩ := h j T hj
  refine ⟨gT, x, l, ?_, ?_, At.grown ho he hg h3, h4.grown ho he2 hg⟩
  · rw [World.cell?_of_block (a := ⟨g1, j, none⟩) (hg.block g1 (cell_lt h1) (fun e => n1 e.symm))]; exact h1
  · rw [World.cell?_of_block (a := ⟨g2, j, none⟩) (hg.block g2 (cell_lt h2) (fun e => n2 e.symm))]; exact h2
theorem Blk.nine {W : World} {B e : Nat} {v0 v1 v2 v3 v4 v5 v6 v7 v8 : Value} (h : Blk W B e #[v0, v1, v2, v3, v4, v5, v6, v7, v8]) : W.cell? ⟨B, 0, none⟩ = some v0 ∧ W.cell? ⟨B, 1, none⟩ = some v1 ∧ W.cell? ⟨B, 2, none⟩ = some v2 ∧ W.cell? ⟨B, 3, none⟩ = some v3 ∧ W.cell? ⟨B, 4, none⟩ = some v4 ∧ W.cell? ⟨B, 5, none⟩ = some v5 ∧ W.cell? ⟨B, 6, none⟩ = some v6 ∧ W.cell? ⟨B, 7, none⟩ = some v7 ∧ W.cell? ⟨B, 8, none⟩ = some v8 :=
  ⟨h.cell rfl, h.cell rfl, h.cell rfl, h.cell rfl, h.cell rfl, h.cell rfl, h.cell rfl, h.cell rfl, h.cell rfl⟩
theorem st_start (w : World) (base : Nat) (hb : base ≤ w.heap.size) : St ((w.alloc (.cells #[.pointer none] 26)).alloc (.cells #[.slice none 0 0] 37)) base (.slice (some ⟨w.heap.size, 0, none⟩) 1 1) (.slice (some ⟨w.heap.size + 1, 0, none⟩) 1 1) [(Tr.mk none, none, .slice none 0 0)] := by
  refine ⟨(own_lit1 w base 26 _ hb).alloc _, ?_, ?_⟩
  · have := own_lit1 (w.alloc (.cells #[.pointer none] 26)) base 37 (.slice none 0 0) (by simp; omega)
    simp only [World.size_alloc] at this
    exact this
  · intro x hx
    simp at hx
    subst hx
    exact ⟨Gt.nil, rfl, rdr_nil _⟩

set_option maxRecDepth 100000 in
set_option maxHeartbeats 16000000 in
theorem scripts_walk (so : Option Addr) (sn sc : Nat) (S : List Stp) (w : World) (hsn : Hid (sn = S.length)) (hS : Hid (Scr w so S)) :
    Calls Try.prog 3 #[.slice so sn sc] w fun e w' => e = .returned (.bool true) ∧ Below w.heap.size w w' := by
  obtain ⟨it, hit, ht0, ht1, ht2⟩ := info_parts info26
  obtain ⟨ib, hib, hb0, hb1, hb2⟩ := info_parts info37
  go_enter Try.func3, Try.ntmps3
  go_wp2_with fail
  refine (alive_any _).mono ?_
  rintro e w1 ⟨rfl, hbb1⟩
  have B1 := Hid.mk' hbb1
  clear hbb1
  go_upto_region 6 with fail
  have S2 := Hid.mk' (st_start (w1.alloc (.cells #[.pointer none] 26)) w.heap.size (by have := B1.out.size; simp; omega))
  have B2 := Hid.mk' (bAlloc (bAlloc (bAlloc B1.out (.cells #[.pointer none] 26)) (.cells #[.pointer none] 26)) (.cells #[.slice none 0 0] 37))
  simp only [World.size_alloc] at S2
  generalize hV2 : ((w1.alloc (.cells #[.pointer none] 26)).alloc (.cells #[.pointer none] 26)).alloc (.cells #[.slice none 0 0] 37) = V2 at *
  clear hV2
  go_wp2
  go_loopg [4, 5, 6] 300 (fun g x4 x5 x6 wr => ∃ (i : Nat) (Ts : List (Tr × Option Addr × Value)), i + g = 300 ∧ x6 = .int .i64 (i : Int) ∧ 1 ≤ Ts.length ∧ Ts.length ≤ 1 + 2 * i ∧ St wr w.heap.size x4 x5 Ts ∧ Below w.heap.size w wr)
  case atStart => exact ⟨0, _, by omega, rfl, by simp, by simp, S2.out, B2.out⟩
  case round =>
    obtain ⟨i, Ts, hig, rfl, hl1, hl2, hst, hbr⟩ := hrel
    have ST := Hid.mk' hst
    have BR := Hid.mk' hbr
    clear hst hbr S2 B2
    by_cases hlt : i < sn ∧ i < 300
    · have hls : i < S.length := by have := hsn.out; omega
      rcases hp : S[i]? with _ | ⟨kd, sa, sb, sat, ⟨ps, po, pl, pn⟩, lx, lz, L⟩
      · have := List.getElem?_eq_none_iff.1 hp; omega
      rcases hS.out.keep BR.out with e | ⟨b, off, rfl, hcell⟩
      · rw [e] at hls; simp at hls
      obtain ⟨⟨y0, y1, y2, y3, y4, y5, y6, y7, y8⟩, hRd, hok⟩ := hcell i _ hp
      have RD := Hid.mk' hRd
      have OK := Hid.mk' hok
      dsimp only at y0 y1 y2 y3 y4 y5 y6 y7 y8 RD OK
      obtain ⟨ln, hln⟩ : ∃ n, n = L.length := ⟨_, rfl⟩
      rw [← hln] at y8 RD
      have HLN := Hid.mk' hln
      have i0 : (0 : Int) ≤ (i : Int) := by omega
      have i1 : (i : Int) < (sn : Int) := by omega
      have i2 : (i : Int) < 300 := by omega
      clear hcell hp hRd hok hln
      go_upto_region 10 with fail
      have KB := Hid.mk' (Blk.new wr 35 #[.int .i64 kd, .int .i64 sa, .int .i64 sb, .int .i64 sat, .int .i64 ps, .int .i64 po, .int .i64 pl, .int .i64 pn, .slice lx ln lz])
      have C3 := Hid.mk' (bAlloc (Below.refl wr.heap.size wr) (.cells #[.int .i64 kd, .int .i64 sa, .int .i64 sb, .int .i64 sat, .int .i64 ps, .int .i64 po, .int .i64 pl, .int .i64 pn, .slice lx ln lz] 35))
      generalize hV3 : wr.alloc (.cells #[.int .i64 kd, .int .i64 sa, .int .i64 sb, .int .i64 sat, .int .i64 ps, .int .i64 po, .int .i64 pl, .int .i64 pn, .slice lx ln lz] 35) = V3 at *
      clear hV3 y0 y1 y2 y3 y4 y5 y6 y7 y8
      obtain ⟨qs, hqs⟩ : ∃ q, q = wr.heap.size := ⟨_, rfl⟩
      rw [← hqs] at KB ⊢
      clear hqs
      have S3 := Hid.mk' (ST.out.keep C3.out)
      have B3 := Hid.mk' (bT BR.out C3.out)
      have R3 := Hid.mk' (RD.out.keep C3.out)
      clear ST BR RD C3
      obtain ⟨⟨T0, a0, l0⟩, h00⟩ : ∃ x, Ts[0]? = some x := ⟨_, List.getElem?_eq_getElem (by omega)⟩
      obtain ⟨gt, ct, gb, cb, e4, e5, -, -, -, -, -⟩ := S3.out.at h00
      subst e4 e5
      clear h00
      obtain ⟨tn, htn⟩ : ∃ n, n = Ts.length := ⟨_, rfl⟩
      rw [← htn] at S3 hl1 hl2 ⊢
      have HTN := Hid.mk' htn
      clear htn
      obtain ⟨ka, hka⟩ : ∃ k, k = pk sa tn := ⟨_, rfl⟩
      obtain ⟨kb, hkb⟩ : ∃ k, k = pk sb tn := ⟨_, rfl⟩
      have hka2 : ka < tn := by rw [hka]; exact pk_lt sa (by omega)
      have hkb2 : kb < tn := by rw [hkb]; exact pk_lt sb (by omega)
      have PA : Hid (∀ W, Calls Try.prog 10 #[.int .i64 sa, .int .i64 (tn : Int)] W fun e w' => e = .returned (.int .i64 (ka : Int)) ∧ Below W.heap.size W w') := fun W => by
        refine (place_pk sa tn W OK.out.2.1.1 OK.out.2.1.2 (by omega) (by omega)).mono ?_
        rintro e w' ⟨rfl, rfl⟩
        exact ⟨by rw [hka], Below.refl _ _⟩
      have PB : Hid (∀ W, Calls Try.prog 10 #[.int .i64 sb, .int .i64 (tn : Int)] W fun e w' => e = .returned (.int .i64 (kb : Int)) ∧ Below W.heap.size W w') := fun W => by
        refine (place_pk sb tn W OK.out.2.2.1.1 OK.out.2.2.1.2 (by omega) (by omega)).mono ?_
        rintro e w' ⟨rfl, rfl⟩
        exact ⟨by rw [hkb], Below.refl _ _⟩
      clear hka hkb
      obtain ⟨n0, n1, n2, n3, n4, n5, n6, n7, n8⟩ := KB.out.nine
      go_region_held3 (fun w' => w'.cell? ⟨qs, 1, none⟩ = some (.int .i64 sa) ∧ w'.cell? ⟨qs, 2, none⟩ = some (.int .i64 sb)) (first | assumption | simp [*, go_sem])
        (first | (go_at_call_of 10 (Value.int .i64 sa); refine (PA.out _).mono ?_; rintro e w4 ⟨rfl, hb4⟩; (have N4 := Hid.mk' (bD hb4)); clear hb4 n0 n1 n2 n3 n4 n5 n6 n7 n8; (obtain ⟨n0, n1, n2, n3, n4, n5, n6, n7, n8⟩ := (KB.out.keep N4.out).nine))
               | (go_at_call_of 10 (Value.int .i64 sb); refine (PB.out _).mono ?_; rintro e w5 ⟨rfl, hb5⟩; (have N5 := Hid.mk' (bT N4.out hb5)); clear hb5 n0 n1 n2 n3 n4 n5 n6 n7 n8; (obtain ⟨n0, n1, n2, n3, n4, n5, n6, n7, n8⟩ := (KB.out.keep N5.out).nine)))
      have S5 := Hid.mk' (S3.out.keep N5.out)
      have B5 := Hid.mk' (bT B3.out N5.out)
      have R5 := Hid.mk' (R3.out.keep N5.out)
      have K5 := Hid.mk' (KB.out.keep N5.out)
      clear S3 B3 R3 KB N4 N5 PA PB
      obtain ⟨⟨ta, aa, la⟩, hta⟩ : ∃ x, Ts[ka]? = some x := ⟨_, List.getElem?_eq_getElem (by have := HTN.out; omega)⟩
      obtain ⟨⟨tb, ab, lb⟩, htb⟩ : ∃ x, Ts[kb]? = some x := ⟨_, List.getElem?_eq_getElem (by have := HTN.out; omega)⟩
      obtain ⟨_, _, _, _, e4, e5, ca1, ca2, ga, aA, oA⟩ := S5.out.at hta
      cases e4
      cases e5
      obtain ⟨_, _, _, _, e4, e5, cb1, cb2, gB, aB, oB⟩ := S5.out.at htb
      cases e4
      cases e5
      obtain ⟨la1, la2, la3, e4, hla, -, -⟩ := oA.rdr
      subst e4
      obtain ⟨lb1, lb2, lb3, e4, hlb, -, -⟩ := oB.rdr
      subst e4
      rw [rowsT_length] at hla hlb
      subst hla hlb
      have GA := Hid.mk' ga
      have GB := Hid.mk' gB
      have HA := Hid.mk' aA
      have HB := Hid.mk' aB
      have OA := Hid.mk' oA
      have OB := Hid.mk' oB
      have za := ga.sz
      have zb := gB.sz
      have zl : ln ≤ 4611686018427387904 := by have := HLN.out; have := (show L.length ≤ 4611686018427387904 from OK.out.2.2.2); omega
      have w1' : IntKind.i64.wrap ((ta.size : Int) + (tb.size : Int)) = (ta.size : Int) + (tb.size : Int) := by rw [IntKind.wrap_i64]; omega
      have w2' : IntKind.i64.wrap ((ta.size : Int) + (tb.size : Int) + (ln : Int)) = (ta.size : Int) + (tb.size : Int) + (ln : Int) := by rw [IntKind.wrap_i64]; omega
      have k0 : (0 : Int) ≤ (ka : Int) := by omega
      have k1 : (ka : Int) < (Ts.length : Int) := by omega
      have k2 : (0 : Int) ≤ (kb : Int) := by omega
      have k3 : (kb : Int) < (Ts.length : Int) := by omega
      clear ga gB aA aB oA oB hta htb
      by_cases hsum : (5000 : Int) < (ta.size : Int) + (tb.size : Int) + (ln : Int)
      · go_wp2
        go_region
        go_wp2
        go_roundg (gk - 1)
        case measure => omega
        case rel => exact ⟨i + 1, Ts, by omega, by go_num, hl1, by omega, S5.out.keep (Below.refl _ _).drew, B5.out.drew⟩
      · have hsum2 : ta.size + tb.size + ln ≤ 5000 := by omega
        go_wp2
        go_region
        go_upto_region 12 with fail
        have S7 := Hid.mk' (S5.out.keep (Below.refl _ _).drew)
        have B7 := Hid.mk' B5.out.drew
        have R7 := Hid.mk' (R5.out.keep (Below.refl _ _).drew)
        have K7 := Hid.mk' (K5.out.keep (Below.refl _ _).drew)
        have A7 := Hid.mk' (HA.out.keep (Below.refl _ _).drew)
        have A7b := Hid.mk' (HB.out.keep (Below.refl _ _).drew)
        have O7 := Hid.mk' (OA.out.keep (Below.refl _ _).drew)
        have O7b := Hid.mk' (OB.out.keep (Below.refl _ _).drew)
        have bc := Below.cell (Below.refl w5.heap.size w5).drew (p := ⟨gt, ka, none⟩) (cell_lt ca1)
        rw [← bc] at ca1
        have bc := Below.cell (Below.refl w5.heap.size w5).drew (p := ⟨gb, ka, none⟩) (cell_lt ca2)
        rw [← bc] at ca2
        have bc := Below.cell (Below.refl w5.heap.size w5).drew (p := ⟨gt, kb, none⟩) (cell_lt cb1)
        rw [← bc] at cb1
        have bc := Below.cell (Below.refl w5.heap.size w5).drew (p := ⟨gb, kb, none⟩) (cell_lt cb2)
        rw [← bc] at cb2
        clear bc S5 B5 R5 K5 HA HB OA OB n0 n1 n2 n3 n4 n5 n6 n7 n8
        generalize w5.drew = V5 at *
        obtain ⟨n0, n1, n2, n3, n4, n5, n6, n7, n8⟩ := K7.out.nine
        have MD := Hid.mk' (fun W (hW : Below V5.heap.size V5 W) => made_any kd sa sb sat ps po pl pn (.slice lx ln lz) aa ab (.slice la1 ta.size la3) (.slice lb1 tb.size lb3) ta tb L W OK.out.1 GA.out GB.out (by have := HLN.out; omega) (R7.out.keep hW) (A7.out.keep hW) (A7b.out.keep hW) (O7.out.keep hW).rdr (O7b.out.keep hW).rdr)
        have HC : Hid (∀ W, Below V5.heap.size V5 W → (W.cell? ⟨gt, ka, none⟩ = some (.pointer aa) ∧ W.cell? ⟨gb, ka, none⟩ = some (.slice la1 ta.size la3) ∧ W.cell? ⟨gt, kb, none⟩ = some (.pointer ab) ∧ W.cell? ⟨gb, kb, none⟩ = some (.slice lb1 tb.size lb3)) ∧ Blk W qs 35 #[.int .i64 kd, .int .i64 sa, .int .i64 sb, .int .i64 sat, .int .i64 ps, .int .i64 po, .int .i64 pl, .int .i64 pn, .slice lx ln lz]) := fun W hW => ⟨⟨by rw [hW.cell (p := ⟨gt, ka, none⟩) (cell_lt ca1)]; exact ca1, by rw [hW.cell (p := ⟨gb, ka, none⟩) (cell_lt ca2)]; exact ca2, by rw [hW.cell (p := ⟨gt, kb, none⟩) (cell_lt cb1)]; exact cb1, by rw [hW.cell (p := ⟨gb, kb, none⟩) (cell_lt cb2)]; exact cb2⟩, K7.out.keep hW⟩
        go_region_held3 (fun w' => w'.cell? ⟨gt, ka, none⟩ = some (.pointer aa) ∧ w'.cell? ⟨gb, ka, none⟩ = some (.slice la1 ta.size la3) ∧ w'.cell? ⟨gt, kb, none⟩ = some (.pointer ab) ∧ w'.cell? ⟨gb, kb, none⟩ = some (.slice lb1 tb.size lb3) ∧ w'.cell? ⟨qs, 0, none⟩ = some (.int .i64 kd) ∧ w'.cell? ⟨qs, 1, none⟩ = some (.int .i64 sa) ∧ w'.cell? ⟨qs, 2, none⟩ = some (.int .i64 sb) ∧ w'.cell? ⟨qs, 3, none⟩ = some (.int .i64 sat) ∧ w'.cell? ⟨qs, 4, none⟩ = some (.int .i64 ps) ∧ w'.cell? ⟨qs, 5, none⟩ = some (.int .i64 po) ∧ w'.cell? ⟨qs, 6, none⟩ = some (.int .i64 pl) ∧ w'.cell? ⟨qs, 7, none⟩ = some (.int .i64 pn) ∧ w'.cell? ⟨qs, 8, none⟩ = some (.slice lx ln lz)) (first | assumption | simp [*, go_sem])
          (first | (go_at_call 11; refine (MD.out _ (Below.refl _ _).drew).mono ?_; rintro e w6 ⟨m2, g1, g2, f, Qs, hq1, hq2, rfl, hmk, hg12, hb6⟩; (have N6 := Hid.mk' (bD hb6)); (have MK := Hid.mk' (show Mk w6 g1 g2 Qs from hmk)); (have G12 := Hid.mk' hg12); (have HQ1 := Hid.mk' hq1); clear hmk hg12 hb6 hq1 n0 n1 n2 n3 n4 n5 n6 n7 n8 ca1 ca2 cb1 cb2; (obtain ⟨⟨ca1, ca2, cb1, cb2⟩, kk⟩ := HC.out _ N6.out); (obtain ⟨n0, n1, n2, n3, n4, n5, n6, n7, n8⟩ := kk.nine)))
        have S8 := Hid.mk' (S7.out.keep N6.out)
        have B8 := Hid.mk' (bT B7.out N6.out)
        have GE : Hid ((gt < V5.heap.size ∧ gb < V5.heap.size) ∧ (V5.heap.size ≤ g1 ∧ V5.heap.size ≤ g2)) := ⟨⟨(S7.out.t.lt gt rfl).2, (S7.out.b.lt gb rfl).2⟩, G12.out⟩
        clear S7 B7 R7 K7 A7 A7b O7 O7b MD HC N6 G12 n0 n1 n2 n3 n4 n5 n6 n7 n8 ca1 ca2 cb1 cb2 kk
        go_wp2
        obtain ⟨go, hgo⟩ : ∃ g, g = gk - 1 := ⟨_, rfl⟩
        go_loopg [4, 5, 14] m2 (fun g x4 x5 x14 wx => ∃ (j : Nat) (Us : List (Tr × Option Addr × Value)), j + g = m2 ∧ x14 = .int .i64 (j : Int) ∧ 1 ≤ Us.length ∧ Us.length ≤ Ts.length + j ∧ St wx w.heap.size x4 x5 Us ∧ Below w.heap.size w wx ∧ Mk wx g1 g2 Qs ∧ (x4.ownBlock ≠ some g1 ∧ x4.ownBlock ≠ some g2) ∧ (x5.ownBlock ≠ some g1 ∧ x5.ownBlock ≠ some g2))
        case atStart => exact ⟨0, Ts, by omega, rfl, hl1, by omega, S8.out, B8.out, MK.out, ⟨by have := GE.out; simp [Value.ownBlock]; omega, by have := GE.out; simp [Value.ownBlock]; omega⟩, ⟨by have := GE.out; simp [Value.ownBlock]; omega, by have := GE.out; simp [Value.ownBlock]; omega⟩⟩
        case round =>
          obtain ⟨j, Us, hjg, rfl, hu1, hu2, hst, hbx, hmk, hn4, hn5⟩ := hrel
          have ST := Hid.mk' hst
          have BX := Hid.mk' hbx
          have MX := Hid.mk' hmk
          have N4 := Hid.mk' hn4
          have N5 := Hid.mk' hn5
          clear hst hbx hmk hn4 hn5 S8 B8 MK GE
          by_cases hj : j < m2
          · obtain ⟨T, hT⟩ : ∃ T, Qs[j]? = some T := ⟨_, List.getElem?_eq_getElem (by have := HQ1.out; omega)⟩
            obtain ⟨gT, x, l, c1, c2, hAt, hOw⟩ := MX.out j T hT
            obtain ⟨l1, l2, l3, e, hl, -, -⟩ := hOw.rdr
            subst e
            rw [rowsT_length] at hl
            subst hl
            have GT := Hid.mk' gT
            have AT := Hid.mk' hAt
            have OW := Hid.mk' hOw
            clear gT hAt hOw hT
            have RW := Hid.mk' (fun W (hW : Below wr.heap.size wr W) => Rows_any T x W (by have := GT.out.sz; unfold Hid; omega) (AT.out.keep hW))
            have SR := Hid.mk' (fun W v (h1 : Rdr W v (rowsT T)) (hW : Below wr.heap.size wr W) => sameRows_any v (.slice l1 T.size l3) (rowsT T) W (by have := GT.out.sz; rw [rowsT_length]; omega) h1 (OW.out.keep hW).rdr)
            have HC : Hid (∀ W, Below wr.heap.size wr W → W.cell? ⟨g1, j, none⟩ = some (.pointer x) ∧ W.cell? ⟨g2, j, none⟩ = some (.slice l1 T.size l3)) := fun W hW => ⟨by rw [hW.cell (p := ⟨g1, j, none⟩) (cell_lt c1)]; exact c1, by rw [hW.cell (p := ⟨g2, j, none⟩) (cell_lt c2)]; exact c2⟩
            have j0 : (0 : Int) ≤ (j : Int) := by omega
            have j1 : (j : Int) < (m2 : Int) := by omega
            go_upto_region 18 with fail
            go_region_held3 (fun w' => w'.cell? ⟨g1, j, none⟩ = some (.pointer x) ∧ w'.cell? ⟨g2, j, none⟩ = some (.slice l1 T.size l3)) (first | assumption | simp [*, go_sem])
              (first | (go_at_call 13; refine (RW.out _ (Below.refl _ _).drew).mono ?_; rintro e y1 ⟨ra, rc, rfl, hown, hby⟩; (have Y1 := Hid.mk' (bD hby)); (have RR := Hid.mk' (own_rdr hown)); clear hown hby c1 c2; (obtain ⟨c1, c2⟩ := HC.out _ Y1.out))
                     | (go_at_call 12; refine (SR.out _ _ RR.out Y1.out).mono ?_; rintro e y2 ⟨rfl, hby⟩; (have Y2 := Hid.mk' (bT Y1.out hby)); clear hby c1 c2; (obtain ⟨c1, c2⟩ := HC.out _ Y2.out)))
            have S9 := Hid.mk' (ST.out.keep Y2.out)
            have B9 := Hid.mk' (bT BX.out Y2.out)
            have M9 := Hid.mk' (MX.out.keep Y2.out)
            have A9 := Hid.mk' (AT.out.keep Y2.out)
            have O9 := Hid.mk' (OW.out.keep Y2.out)
            clear ST BX MX AT OW RW SR HC Y1 RR
            by_cases hf0 : f = 0
            · subst hf0
              go_wp2_with (at_builtin; refine Rk.append_srv rfl (.tmp 106) (.tmp 111) 27 rfl w.heap.size 26 it (.agg #[.pointer none]) 1 8 Try.underlying27 hit ht0 ht1 ht2 rfl (by decide) u4 Us.length (Us.map fun x => .pointer x.2.1) rfl (S9.out.t.alloc _) (.slice (some ⟨y2.heap.size, 0, none⟩) 1 1) 1 [.pointer x] rfl (.inr ⟨⟨y2.heap.size, 0, none⟩, 1, rfl, fun k' u hk => lit_cells y2 _ 26 k' u hk⟩) rfl ?qd3 ?qd4 ?qd5 ?qd6 ?_)
              case qd3 => intro u hu; simp at hu; subst hu; rfl
              case qd4 => unfold maxLen; omega
              case qd5 => omega
              case qd6 => have := B9.out.size; simp; omega
              intro vt' y3 hown3 hgrow3 hfr3
              have SZ := Hid.mk' (S9.out.keep (bAlloc (Below.refl _ _) (.cells #[.pointer x] 26)))
              have AZ := Hid.mk' (A9.out.keep (bAlloc (Below.refl _ _) (.cells #[.pointer x] 26)))
              have OZ := Hid.mk' (O9.out.keep (bAlloc (Below.refl _ _) (.cells #[.pointer x] 26)))
              have G3 := Hid.mk' hgrow3
              have O3 := Hid.mk' hown3
              have LT : Hid (g1 < y2.heap.size ∧ g2 < y2.heap.size) := ⟨cell_lt c1, cell_lt c2⟩
              have NT := Hid.mk' (And.intro (fresh_ne (W := y2.alloc (.cells #[.pointer x] 26)) (by simpa using hfr3) (by have := LT.out; simp; omega) N4.out.1) (fresh_ne (W := y2.alloc (.cells #[.pointer x] 26)) (by simpa using hfr3) (by have := LT.out; simp; omega) N4.out.2))
              have M10 := Hid.mk' ((M9.out.keep (bAlloc (Below.refl _ _) (.cells #[.pointer x] 26))).grown SZ.out.t (by decide) (by decide) hgrow3 N4.out.1 N4.out.2)
              have d2 : y3.cell? ⟨g2, j, none⟩ = some (.slice l1 T.size l3) := by
                rw [World.cell?_of_block (a := ⟨g2, j, none⟩) (hgrow3.block g2 (by have := LT.out; simp; omega) (fun e => N4.out.2 e.symm))]
                exact alp c2 _
              have B10 : Hid (Below w.heap.size w y3) := (bAlloc B9.out _).grown hgrow3 (by have := B9.out.size; simp; omega) (fun k hk => (SZ.out.t.lt k hk).1)
              have OB := Hid.mk' (SZ.out.bkept hgrow3)
              have Z3 := Hid.mk' hgrow3.size
              clear c1 c2 hown3 hgrow3 hfr3 S9 A9 O9 M9
              go_wp2_with (at_builtin; refine Rk.append_srv rfl (.tmp 113) (.tmp 118) 28 rfl w.heap.size 37 ib (.slice none 0 0) 1 24 Try.underlying28 hib hb0 hb1 hb2 rfl (by decide) u5 Us.length (Us.map fun x => x.2.2) rfl (OB.out.alloc _) (.slice (some ⟨y3.heap.size, 0, none⟩) 1 1) 1 [.slice l1 T.size l3] rfl (.inr ⟨⟨y3.heap.size, 0, none⟩, 1, rfl, fun k' u hk => lit_cells y3 _ 37 k' u hk⟩) rfl ?qe3 ?qe4 ?qe5 ?qe6 ?_)
              case qe3 => intro u hu; simp at hu; subst hu; rfl
              case qe4 => unfold maxLen; omega
              case qe5 => omega
              case qe6 => have := B10.out.size; simp; omega
              intro vb' y4 hown4 hgrow4 hfr4
              have S11 := Hid.mk' (St.push SZ.out GT.out AZ.out OZ.out (grown_alloc G3.out (.cells #[.slice l1 T.size l3] 37)) (O3.out.alloc _) hgrow4 hown4)
              have M11 := Hid.mk' ((M10.out.keep (bAlloc (Below.refl _ _) (.cells #[.slice l1 T.size l3] 37))).grown (OB.out.alloc _) (by decide) (by decide) hgrow4 N5.out.1 N5.out.2)
              have B11 : Hid (Below w.heap.size w y4) := (bAlloc B10.out _).grown hgrow4 (by have := B10.out.size; simp; omega) (fun k hk => (OB.out.lt k hk).1)
              have NB := Hid.mk' (And.intro (fresh_ne (W := y3.alloc (.cells #[.slice l1 T.size l3] 37)) (by simpa using hfr4) (by have := LT.out; have := Z3.out; simp at this ⊢; omega) N5.out.1) (fresh_ne (W := y3.alloc (.cells #[.slice l1 T.size l3] 37)) (by simpa using hfr4) (by have := LT.out; have := Z3.out; simp at this ⊢; omega) N5.out.2))
              clear hown4 hgrow4 hfr4 SZ AZ OZ G3 O3 M10 OB d2
              go_wp2
              go_roundg (gk - 1)
              case measure => omega
              case rel => exact ⟨j + 1, Us ++ [(T, x, .slice l1 T.size l3)], by omega, by go_num, by simp, by simp; omega, S11.out, B11.out, M11.out, NT.out, NB.out⟩
            · have hfe : (f == 0) = false := by rw [beq_eq_false_iff_ne]; exact hf0
              go_wp2
              go_roundg (gk - 1)
              case measure => omega
              case rel => exact ⟨j + 1, Us, by omega, by go_num, hu1, by omega, S9.out, B9.out, M9.out, N4.out, N5.out⟩
          · have j1 : ¬ ((j : Int) < (m2 : Int)) := by omega
            go_wp2
            go_roundg go
            case measure => omega
            case rel => exact ⟨i + 1, Us, by omega, by go_num, hu1, by omega, ST.out, BX.out⟩
    · obtain ⟨⟨T0, a0, l0⟩, h00⟩ : ∃ x, Ts[0]? = some x := ⟨_, List.getElem?_eq_getElem (by omega)⟩
      obtain ⟨gt, ct, gb, cb, e4, e5, -, -, -, -, -⟩ := ST.out.at h00
      subst e4 e5
      clear h00
      by_cases hin : (i : Int) < (sn : Int)
      · have hi3 : ¬ ((i : Int) < 300) := by omega
        go_wp2
        go_loopg [15] Ts.length (fun g x15 wx => ∃ k : Nat, k + g = Ts.length ∧ x15 = .int .i64 (k : Int) ∧ Below wr.heap.size wr wx)
        case atStart => exact ⟨0, by omega, rfl, Below.refl _ _⟩
        case round =>
          obtain ⟨k, hkg, rfl, hbx⟩ := hrel
          have BX := Hid.mk' hbx
          clear hbx
          have SX := Hid.mk' (ST.out.keep BX.out)
          have BY := Hid.mk' (bT BR.out BX.out)
          by_cases hj : k < Ts.length
          · obtain ⟨⟨T, x, l⟩, hT⟩ : ∃ x, Ts[k]? = some x := ⟨_, List.getElem?_eq_getElem hj⟩
            obtain ⟨_, _, _, _, e4, e5, c1, c2, gT, hAt, hOw⟩ := SX.out.at hT
            cases e4
            cases e5
            obtain ⟨l1, l2, l3, e, hl, -, -⟩ := hOw.rdr
            subst e
            rw [rowsT_length] at hl
            subst hl
            have GT := Hid.mk' gT
            have AT := Hid.mk' hAt
            have OW := Hid.mk' hOw
            clear gT hAt hOw hT
            have RW := Hid.mk' (fun W (hW : Below wr.heap.size wr W) => Rows_any T x W (by have := GT.out.sz; unfold Hid; omega) (AT.out.keep hW))
            have SR := Hid.mk' (fun W v (h1 : Rdr W v (rowsT T)) (hW : Below wr.heap.size wr W) => sameRows_any v (.slice l1 T.size l3) (rowsT T) W (by have := GT.out.sz; rw [rowsT_length]; omega) h1 (OW.out.keep hW).rdr)
            have HC : Hid (∀ W, Below wr.heap.size wr W → W.cell? ⟨gt, k, none⟩ = some (.pointer x) ∧ W.cell? ⟨gb, k, none⟩ = some (.slice l1 T.size l3)) := fun W hW => ⟨by rw [hW.cell (p := ⟨gt, k, none⟩) (cell_lt c1)]; exact c1, by rw [hW.cell (p := ⟨gb, k, none⟩) (cell_lt c2)]; exact c2⟩
            have j0 : (0 : Int) ≤ (k : Int) := by omega
            have j1 : (k : Int) < (Ts.length : Int) := by omega
            go_upto_region 26 with fail
            go_region_held3 (fun w' => w'.cell? ⟨gt, k, none⟩ = some (.pointer x) ∧ w'.cell? ⟨gb, k, none⟩ = some (.slice l1 T.size l3)) (first | assumption | simp [*, go_sem])
              (first | (go_at_call 13; refine (RW.out _ (Below.refl _ _).drew).mono ?_; rintro e y1 ⟨ra, rc, rfl, hown, hby⟩; (have Y1 := Hid.mk' (bD hby)); (have RR := Hid.mk' (own_rdr hown)); clear hown hby c1 c2; (obtain ⟨c1, c2⟩ := HC.out _ Y1.out))
                     | (go_at_call 12; refine (SR.out _ _ RR.out Y1.out).mono ?_; rintro e y2 ⟨rfl, hby⟩; (have Y2 := Hid.mk' (bT Y1.out hby)); clear hby c1 c2; (obtain ⟨c1, c2⟩ := HC.out _ Y2.out)))
            go_wp2
            go_roundg (gk - 1)
            case measure => omega
            case rel => exact ⟨k + 1, by omega, by go_num, bT BX.out Y2.out⟩
          · have j1 : ¬ ((k : Int) < (Ts.length : Int)) := by omega
            go_wp2
            go_ret
            exact ⟨rfl, BY.out⟩
      · skip
        go_wp2
        go_loopg [15] Ts.length (fun g x15 wx => ∃ k : Nat, k + g = Ts.length ∧ x15 = .int .i64 (k : Int) ∧ Below wr.heap.size wr wx)
        case atStart => exact ⟨0, by omega, rfl, Below.refl _ _⟩
        case round =>
          obtain ⟨k, hkg, rfl, hbx⟩ := hrel
          have BX := Hid.mk' hbx
          clear hbx
          have SX := Hid.mk' (ST.out.keep BX.out)
          have BY := Hid.mk' (bT BR.out BX.out)
          by_cases hj : k < Ts.length
          · obtain ⟨⟨T, x, l⟩, hT⟩ : ∃ x, Ts[k]? = some x := ⟨_, List.getElem?_eq_getElem hj⟩
            obtain ⟨_, _, _, _, e4, e5, c1, c2, gT, hAt, hOw⟩ := SX.out.at hT
            cases e4
            cases e5
            obtain ⟨l1, l2, l3, e, hl, -, -⟩ := hOw.rdr
            subst e
            rw [rowsT_length] at hl
            subst hl
            have GT := Hid.mk' gT
            have AT := Hid.mk' hAt
            have OW := Hid.mk' hOw
            clear gT hAt hOw hT
            have RW := Hid.mk' (fun W (hW : Below wr.heap.size wr W) => Rows_any T x W (by have := GT.out.sz; unfold Hid; omega) (AT.out.keep hW))
            have SR := Hid.mk' (fun W v (h1 : Rdr W v (rowsT T)) (hW : Below wr.heap.size wr W) => sameRows_any v (.slice l1 T.size l3) (rowsT T) W (by have := GT.out.sz; rw [rowsT_length]; omega) h1 (OW.out.keep hW).rdr)
            have HC : Hid (∀ W, Below wr.heap.size wr W → W.cell? ⟨gt, k, none⟩ = some (.pointer x) ∧ W.cell? ⟨gb, k, none⟩ = some (.slice l1 T.size l3)) := fun W hW => ⟨by rw [hW.cell (p := ⟨gt, k, none⟩) (cell_lt c1)]; exact c1, by rw [hW.cell (p := ⟨gb, k, none⟩) (cell_lt c2)]; exact c2⟩
            have j0 : (0 : Int) ≤ (k : Int) := by omega
            have j1 : (k : Int) < (Ts.length : Int) := by omega
            go_upto_region 26 with fail
            go_region_held3 (fun w' => w'.cell? ⟨gt, k, none⟩ = some (.pointer x) ∧ w'.cell? ⟨gb, k, none⟩ = some (.slice l1 T.size l3)) (first | assumption | simp [*, go_sem])
              (first | (go_at_call 13; refine (RW.out _ (Below.refl _ _).drew).mono ?_; rintro e y1 ⟨ra, rc, rfl, hown, hby⟩; (have Y1 := Hid.mk' (bD hby)); (have RR := Hid.mk' (own_rdr hown)); clear hown hby c1 c2; (obtain ⟨c1, c2⟩ := HC.out _ Y1.out))
                     | (go_at_call 12; refine (SR.out _ _ RR.out Y1.out).mono ?_; rintro e y2 ⟨rfl, hby⟩; (have Y2 := Hid.mk' (bT Y1.out hby)); clear hby c1 c2; (obtain ⟨c1, c2⟩ := HC.out _ Y2.out)))
            go_wp2
            go_roundg (gk - 1)
            case measure => omega
            case rel => exact ⟨k + 1, by omega, by go_num, bT BX.out Y2.out⟩
          · have j1 : ¬ ((k : Int) < (Ts.length : Int)) := by omega
            go_wp2
            go_ret
            exact ⟨rfl, BY.out⟩
end Go.Proofs.Ytcaegdfbbjfgpaa
