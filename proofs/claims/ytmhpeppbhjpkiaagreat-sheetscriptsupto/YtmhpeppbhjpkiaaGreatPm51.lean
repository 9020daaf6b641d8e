/- SheetScripts, walked. -/
import Derived.Test.YtmhpeppbhjpkiaaGreatPm47
import Derived.Test.YtmhpeppbhjpkiaaGreatPm49
import Derived.Test.YtmhpeppbhjpkiaaGreatPm50
namespace Go.Proofs.YtmhpeppbhjpkiaaGreat
open Go.RowKit

/-- the other sheet's text -/
def oth : List UInt8 := [111, 116, 104, 101, 114]
/-- the state of the law's loop -/
structure Sst (w1 W : World) (kb sb sb2 : Nat) (a0 : Option Addr) (c0 : Nat) (O : List UInt8) (x1 : Option Addr) (d1 : Nat) (xr : Option Addr) (dr : Nat) (A : List UInt8) (t : Tr) (E : Int) (A2 : List UInt8) (t2 : Tr) (e2 : Int) (i : Nat) (qs : List Sq) : Prop where
  duo : Duo (Xk a0 x1) w1 W sb O A t E sb2 oth A2 t2 e2
  ko : Ko W w1.heap.size a0 c0 x1 d1 xr dr O A t
  box : Blk W kb 31 #[.slice a0 O.length c0, .slice x1 A.length d1, .slice xr t.size dr, .int .i64 E]
  kbl : w1.heap.size ≤ kb
  sz : t.size ≤ 524287
  tx : (txt O A t.list).length + qws (qs.drop i) ≤ 1048574
  ad : A.length + qws (qs.drop i) ≤ 1048576
  ed : 0 ≤ E ∧ E + 2 * (qeds (qs.drop i) : Int) ≤ 4611686018400000000
  o1 : (txt oth A2 t2.list).length ≤ 5 + i
  o2 : A2.length ≤ i
  o3 : 0 ≤ e2 ∧ e2 ≤ 2 * (i : Int)
theorem Sst.keep {w1 W W' : World} {kb sb sb2 : Nat} {a0 : Option Addr} {c0 : Nat} {O : List UInt8} {x1 : Option Addr} {d1 : Nat} {xr : Option Addr} {dr : Nat} {A : List UInt8} {t : Tr} {E : Int} {A2 : List UInt8} {t2 : Tr} {e2 : Int} {i : Nat} {qs : List Sq} (h : Sst w1 W kb sb sb2 a0 c0 O x1 d1 xr dr A t E A2 t2 e2 i qs) (hb : Below W.heap.size W W') : Sst w1 W' kb sb sb2 a0 c0 O x1 d1 xr dr A t E A2 t2 e2 i qs :=
  ⟨(h.duo.keep hb).mono fun _ hx => .inl hx, h.ko.keep hb, h.box.keep hb, h.kbl, h.sz, h.tx, h.ad, h.ed, h.o1, h.o2, h.o3⟩
/-- a step that changes nothing -/
theorem Sst.next {w1 W : World} {kb sb sb2 : Nat} {a0 : Option Addr} {c0 : Nat} {O : List UInt8} {x1 : Option Addr} {d1 : Nat} {xr : Option Addr} {dr : Nat} {A : List UInt8} {t : Tr} {E : Int} {A2 : List UInt8} {t2 : Tr} {e2 : Int} {i : Nat} {qs : List Sq} (h : Sst w1 W kb sb sb2 a0 c0 O x1 d1 xr dr A t E A2 t2 e2 i qs) {q : Sq} (hq : qs[i]? = some q) : Sst w1 W kb sb sb2 a0 c0 O x1 d1 xr dr A t E A2 t2 e2 (i + 1) qs := by
  have h1 := qws_drop hq
  have h2 := qeds_drop hq
  have h3 := h.tx
  have h4 := h.ad
  have h5 := h.ed
  have h6 := h.o1
  have h7 := h.o2
  have h8 := h.o3
  exact ⟨h.duo, h.ko, h.box, h.kbl, h.sz, by omega, by omega, ⟨h5.1, by omega⟩, by omega, by omega, ⟨h8.1, by omega⟩⟩
theorem row5 {W : World} {base g n m c : Nat} {xs : List Value} (h : W.ownsRow base 5 1 (.slice (some ⟨g, 0, none⟩) n c) m xs) : ∃ cs, W.heap[g]? = some (.cells cs 5 (0, 0)) := by
  rcases h.2 with ⟨e, _⟩ | ⟨g', cap, cur, e, h1, h2, _⟩
  · cases e
  · simp at e
    obtain ⟨rfl, -, -⟩ := e
    exact ⟨_, h2⟩
theorem own_prb {W : World} {base n c : Nat} {x : Option Addr} {xs : List Value} {b : Nat} (h : W.ownsRow base 5 1 (.slice x n c) n xs) (hp : Pr x b) : base ≤ b ∧ b < W.heap.size := by
  obtain ⟨a, rfl, rfl⟩ := hp
  rcases h.2 with ⟨e, _⟩ | ⟨g, cap, cur, e, h1, h2, _⟩
  · simp at e
  · simp at e
    obtain ⟨rfl, -, -⟩ := e
    exact ⟨h1, heap_lt h2⟩
set_option maxRecDepth 8000 in
set_option maxHeartbeats 16000000 in
theorem sheetScripts_walk (a1 : Option Addr) (c1 : Nat) (l1 : List UInt8) (as' : Option Addr) (cs' : Nat) (qs : List Sq) (w : World) (h1 : Hid (Ab.Rd w (.slice a1 l1.length c1) l1)) (h2 : Hid (Scs w as' qs)) (hz : l1.length + qws qs ≤ 1048574) (hE : qeds qs ≤ 1073741824) (hqs : qs.length ≤ 262144) :
    Calls Tryz.prog 3 #[.slice a1 l1.length c1, .slice as' qs.length cs'] w fun e w' => e = .returned (.bool true) ∧ Below w.heap.size w w' := by
  have kc := fun (w : World) (C : Array Value) (n c : Nat) => Lib.run_convert_bytes_const (P := Tryz.prog) w 22 5 C n c Tryz.underlying22 Tryz.underlying5
  have hl1 : (l1.length : Int) ≤ 1048576 := by omega
  have hql : (qs.length : Int) ≤ 262144 := by omega
  go_enter Tryz.func3, Tryz.ntmps3
  go_wp2_with fail
  refine (awake_any w).mono ?_
  rintro e w1 ⟨rfl, b1⟩
  have B1 := hid b1
  clear b1
  go_wp2_with fail
  refine (lent_any a1 c1 l1 w1 (by omega) (hid (h1.out.keep B1.out))).mono ?_
  rintro e w2 ⟨g, cap, rfl, hLn, b2⟩
  have LN := hid hLn
  have B2 := hid b2
  clear hLn b2
  dsimp only
  go_wp2_with fail
  refine (New_any (some ⟨g, 0, none⟩) cap l1 w2 (by omega) (hid (lent_rd LN.out))).mono ?_
  rintro e w3 ⟨sb, bb, vo, a, t, rfl, hS, hN, b3⟩
  have S3 := hid hS
  have N3 := hid hN
  have B3 := hid b3
  clear hS hN b3
  dsimp only
  go_wp2_with fail
  refine (New_any _ 5 oth _ (by decide) (rd_lit w3 oth _ _ 5 rfl)).mono ?_
  rintro e w5 ⟨sb2, bb2, vo2, a2, t2, rfl, hS, hN, b5⟩
  have B5 : Hid (Below w3.heap.size w3 w5) := (bAlloc (Below.refl _ _) _).trans (b5.mono (by simp))
  have S5 := hid (hS.low (base' := w3.heap.size) (by simp))
  have N5 := hid hN
  clear hS hN b5
  have L5 := hid (Ab.own_keep LN.out (bTl B3.out B5.out))
  have B15 : Hid (Below w1.heap.size w1 w5) := bT B2.out (bT B3.out B5.out)
  have D5 : Hid (Duo (fun b => b = g) w1 w5 sb l1 [] t 0 sb2 oth [] t2 0) := by
    obtain ⟨o1, o2, o3, o4⟩ := N3.out.ok (by omega)
    obtain ⟨p1, p2, p3, p4⟩ := N5.out.ok (by decide)
    have z1 := B2.out.size
    have z2 := B3.out.size
    have z3 := B5.out.size
    have s3 := S3.out.keep B5.out
    refine ⟨⟨bb, vo, _, a, bb2, vo2, _, a2, ⟨s3.low z1, ⟨o1, by omega⟩, o2⟩, ⟨S5.out.low (by omega), ⟨p1, by omega⟩, p2⟩, fun b k1 k2 => ?_, fun b hb => ?_⟩, B15.out⟩
    · have q1 := Sown.lt S3.out k1
      have q2 := Sown.lt S5.out k2
      omega
    · subst hb
      have q0 := L5.out.lt b rfl
      have q9 := LN.out.lt b rfl
      refine ⟨q0.2, fun k => ?_, fun k => ?_⟩
      · have q1 := Sown.lt S3.out k
        omega
      · have q1 := Sown.lt S5.out k
        omega
  clear S3 S5 B2 B3 B5 LN
  dsimp only
  go_wp2_with fail
  refine (whole_any g cap a1 c1 w1.heap.size l1 w5 (by omega) (hid ((h1.out.keep B1.out).keep B15.out)) L5).mono ?_
  rintro e w6 ⟨rfl, rfl⟩
  dsimp only
  go_wp2_with fail
  go_loopg [8, 39] l1.length (fun m x8 x39 wx => ∃ (j : Nat) (ys : List Value), x39 = .int .i64 (j : Int) ∧ j + m = l1.length ∧ Hid (wx.ownsRow w1.heap.size 5 1 (.slice (some ⟨g, 0, none⟩) (l1.length + 2) cap) (l1.length + 2) ys) ∧ Hid (∀ u ∈ ys, ∃ z, u = .int .u8 z) ∧ Hid (Duo (fun b => b = g) w1 wx sb l1 [] t 0 sb2 oth [] t2 0))
  case atStart => exact ⟨0, _, rfl, by omega, L5.out, mk_bytes l1, D5.out⟩
  case round =>
    clear L5 D5 B15
    obtain ⟨j, ys, rfl, hjm, HW, HU, HD⟩ := hrel
    obtain ⟨go, hgo⟩ : ∃ g, g = gk - 1 := ⟨_, rfl⟩
    by_cases hlt : j < l1.length
    · have hyl : ys.length = l1.length + 2 := by have := HW.out.1; omega
      obtain ⟨z, hz9⟩ : ∃ z, wr.cell? ⟨g, j, none⟩ = some (.int .u8 z) := by
        obtain ⟨z, hz⟩ := HU.out (ys[j]'(by omega)) (List.getElem_mem _)
        exact ⟨z, by rw [HW.out.cellAt j (by omega), List.getElem?_eq_getElem (by omega), hz]⟩
      have hf := HW.out.frozenAt j
      have hj0 : (0 : Int) ≤ (j : Int) := by omega
      have hj1 : (j : Int) < (l1.length : Int) := by omega
      have hw4 : IntKind.i64.wrap ((j : Int) + 1) = ((j + 1 : Nat) : Int) := by rw [IntKind.wrap_i64]; omega
      obtain ⟨cs5, h5⟩ := row5 HW.out
      have H5 := Hid.mk' h5
      have HL := Hid.mk' (HW.out.lt g rfl).1
      clear h5
      go_wp2
      go_roundg go
      case measure => omega
      case rel => exact ⟨j + 1, _, by go_num, by omega, (HW.out.stored j _).1, u8_set HU.out j _, HD.out.grown (HW.out.stored j _).2 rfl H5.out HL.out⟩
    · have hjn : ¬ (j : Int) < (l1.length : Int) := by omega
      clear hgo hjm hlt HW HU
      rename World => w6
      go_wp2_with fail
      refine (rNew_any a1 c1 l1 w6 (by omega) (hid ((h1.out.keep B1.out).keep HD.out.bel))).mono ?_
      rintro e w7 ⟨t', x0, d0, xr, dr, hN', rfl, hK, b7⟩
      have ht := N3.out.one hN'
      subst ht
      obtain ⟨o1, o2, o3, o4⟩ := N3.out.ok (by omega)
      obtain ⟨p1, p2, p3, p4⟩ := N5.out.ok (by decide)
      have zs := HD.out.bel.size
      have S8 : Hid (Sst w1 (w7.alloc (.cells #[.slice x0 l1.length d0, .slice none 0 0, .slice xr t.size dr, .int .i64 0] 31)) w7.heap.size sb sb2 x0 d0 l1 none 0 xr dr [] t 0 [] t2 0 0 qs) := by
        have D7 : Duo (Xk x0 none) w1 w7 sb l1 [] t 0 sb2 oth [] t2 0 := (HD.out.keep b7).mono fun b hx => by
          rcases hx with hx | ⟨a, e, _⟩
          · exact .inr (own_prb hK.o hx)
          · cases e
        have s1 := Tr.size_list t
        refine ⟨(D7.keep (bAlloc (Below.refl _ _) _)).mono fun _ hx => .inl hx, (hK.low zs).keep (bAlloc (Below.refl _ _) _), Blk.new _ _ _, Nat.le_trans zs b7.size, by omega, ?_, ?_, ⟨Int.le_refl _, ?_⟩, ?_, Nat.le_refl _, ⟨Int.le_refl _, by simp⟩⟩
        · rw [o3]; exact hz
        · show 0 + qws qs ≤ _; omega
        · show (0 : Int) + 2 * (qeds qs : Int) ≤ _; omega
        · rw [p3]; exact Nat.le_refl _
      obtain ⟨kb, hkb⟩ : ∃ kb, kb = w7.heap.size := ⟨_, rfl⟩
      rw [← hkb] at S8
      clear hN' hK b7 o1 o2 o3 o4 p1 p2 p3 p4 zs HD N3 N5 hjn
      dsimp only
      go_wp2_with fail
      rw [← hkb]
      generalize w7.alloc (.cells #[.slice x0 l1.length d0, .slice none 0 0, .slice xr t.size dr, .int .i64 0] 31) = w8 at *
      clear hkb
      go_loopg [10, 12, 13, 14, 15, 53] qs.length (fun m x10 x12 x13 x14 x15 x53 wx => ∃ (i : Nat) (wk : Int) (x1 : Option Addr) (d1 : Nat) (xr : Option Addr) (dr : Nat) (A : List UInt8) (t : Tr) (E : Int) (A2 : List UInt8) (t2 : Tr) (e2 : Int), x53 = .int .i64 (i : Int) ∧ x10 = .int .i64 wk ∧ i + m = qs.length ∧ 0 ≤ wk ∧ wk ≤ 4194304 ∧ Hid (Sst w1 wx kb sb sb2 x0 d0 l1 x1 d1 xr dr A t E A2 t2 e2 i qs))
      case atStart => exact ⟨0, 0, _, _, _, _, _, _, _, _, _, _, rfl, rfl, by omega, Int.le_refl _, by omega, S8.out⟩
      case round =>
        clear S8
        obtain ⟨i, wk, x1, d1, xr, dr, A, t, E, A2, t2, e2, rfl, rfl, him, hwk0, hwk1, SI⟩ := hrel
        obtain ⟨go, hgo⟩ : ∃ g, g = gk - 1 := ⟨_, rfl⟩
        have hi0 : (0 : Int) ≤ (i : Int) := by omega
        by_cases hlt : i < qs.length
        · have hlI : (i : Int) < (qs.length : Int) := by omega
          have hw4 : IntKind.i64.wrap ((i : Int) + 1) = ((i + 1 : Nat) : Int) := by rw [IntKind.wrap_i64]; omega
          obtain ⟨q, hq⟩ : ∃ q, qs[i]? = some q := ⟨qs[i], List.getElem?_eq_getElem hlt⟩
          have HQ := Hid.mk' hq
          obtain ⟨g9, o9, ap, cp, ae, ce, rfl, z0, z1, z2, z3, z4, zr⟩ := h2.out.cells i q hq
          have BZ : Hid (Below w.heap.size w wr) := bT B1.out SI.out.duo.bel
          have ZR := Hid.mk' (zr.keep B1.out)
          have c0 : wr.cell? ⟨g9, o9 + i * 5, none⟩ = some (.int .i64 q.kind) := by rw [BZ.out.cell (lt_cell z0)]; exact z0
          have c1' : wr.cell? ⟨g9, o9 + i * 5 + 1, none⟩ = some (.int .i64 q.a) := by rw [BZ.out.cell (lt_cell z1)]; exact z1
          have c2 : wr.cell? ⟨g9, o9 + i * 5 + 2, none⟩ = some (.int .i64 q.b) := by rw [BZ.out.cell (lt_cell z2)]; exact z2
          have c3 : wr.cell? ⟨g9, o9 + i * 5 + 3, none⟩ = some (.slice ap q.p.length cp) := by rw [BZ.out.cell (lt_cell z3)]; exact z3
          have c4 : wr.cell? ⟨g9, o9 + i * 5 + 4, none⟩ = some (.slice ae q.es.length ce) := by rw [BZ.out.cell (lt_cell z4)]; exact z4
          clear hq z0 z1 z2 z3 z4 zr BZ
          have hb := bAlloc (Below.refl _ wr) (.cells #[.int .i64 q.kind, .int .i64 q.a, .int .i64 q.b, .slice ap q.p.length cp, .slice ae q.es.length ce] 35)
          have SA := Hid.mk' (SI.out.keep hb)
          have QA : Hid (Blk (wr.alloc (.cells #[.int .i64 q.kind, .int .i64 q.a, .int .i64 q.b, .slice ap q.p.length cp, .slice ae q.es.length ce] 35)) wr.heap.size 35 #[.int .i64 q.kind, .int .i64 q.a, .int .i64 q.b, .slice ap q.p.length cp, .slice ae q.es.length ce]) := Blk.new _ _ _
          obtain ⟨qb, hqb⟩ : ∃ qb, qb = wr.heap.size := ⟨_, rfl⟩
          clear hb SI
          go_upto_region 17 with fail
          generalize wr.alloc (.cells #[.int .i64 q.kind, .int .i64 q.a, .int .i64 q.b, .slice ap q.p.length cp, .slice ae q.es.length ce] 35) = wq at *
          rw [← hqb] at QA ⊢
          clear hqb c0 c1' c2 c3 c4
          have HW : Hid t.whole := by obtain ⟨⟨bb, vo, va, a, bb2, vo2, va2, a2, h1, -⟩, -⟩ := SA.out.duo; exact h1.2.1.1
          have HG : Hid (Gds l1 A t.list) := by obtain ⟨⟨bb, vo, va, a, bb2, vo2, va2, a2, h1, -⟩, -⟩ := SA.out.duo; exact h1.2.2
          have HTX := Hid.mk' SA.out.tx
          have CT := Hid.mk' (rText_any x0 x1 xr d0 d1 dr E l1 A w1.heap.size t wq SA.out.ko HG SA.out.sz (by unfold Hid; have := HTX.out; omega))
          obtain ⟨T, hT⟩ : ∃ T, txt l1 A t.list = T := ⟨_, rfl⟩
          rw [hT] at CT HTX
          have HT := Hid.mk' hT
          clear hT
          have k0 := SA.out.box.cell (j := 0) rfl
          have k1 := SA.out.box.cell (j := 1) rfl
          have k2 := SA.out.box.cell (j := 2) rfl
          have k3 := SA.out.box.cell (j := 3) rfl
          go_wp2_with fail
          refine CT.out.mono ?_
          rintro e W2 ⟨v, rfl, hv, hb2⟩
          have SB := Hid.mk' (SA.out.keep hb2)
          have QB := Hid.mk' (QA.out.keep hb2)
          obtain ⟨tv, tc, ev⟩ := own_shape' hv
          subst ev
          have RV := Hid.mk' (Ab.own_rd hv)
          have CV := Hid.mk' (own_cap9 hv)
          clear hv hb2 CT SA QA k0 k1 k2 k3
          dsimp only
          have k0 := SB.out.box.cell (j := 0) rfl
          have k1 := SB.out.box.cell (j := 1) rfl
          have k2 := SB.out.box.cell (j := 2) rfl
          have k3 := SB.out.box.cell (j := 3) rfl
          have q0 := QB.out.cell (j := 0) rfl
          have q1 := QB.out.cell (j := 1) rfl
          have q2 := QB.out.cell (j := 2) rfl
          have q3 := QB.out.cell (j := 3) rfl
          have q4 := QB.out.cell (j := 4) rfl
          have hsz := SB.out.sz
          have hTl : T.length ≤ 1048574 := by have := HTX.out; omega
          obtain ⟨u1, hu1⟩ : ∃ u1 : Int, u1 = 50 * (t.size : Int) := ⟨_, rfl⟩
          obtain ⟨u2, hu2⟩ : ∃ u2 : Int, u2 = (T.length : Int) + u1 := ⟨_, rfl⟩
          obtain ⟨wk2, hwk2⟩ : ∃ wk2 : Int, wk2 = wk + u2 := ⟨_, rfl⟩
          have hm1 : IntKind.i64.wrap (50 * (t.size : Int)) = u1 := by rw [IntKind.wrap_i64]; omega
          have hm2 : IntKind.i64.wrap ((T.length : Int) + u1) = u2 := by rw [IntKind.wrap_i64]; omega
          have hm3 : IntKind.i64.wrap (wk + u2) = wk2 := by rw [IntKind.wrap_i64]; omega
          have HU9 : Hid (wk2 ≤ 4194304 → t.size ≤ 83886) := fun h => by omega
          have hwk20 : 0 ≤ wk2 := by omega
          clear hu1 hu2 hwk2
          go_upto_region 19 with fail
          clear hm1 hm2 hm3
          have BW : Hid (Below w.heap.size w W2) := bT B1.out SB.out.duo.bel
          by_cases hbig : 4194304 < wk2
          · clear hTl hsz
            go_wp2
            go_ret
            exact ⟨rfl, BW.out⟩
          have hwk21 : wk2 ≤ 4194304 := by omega
          have HS8 : Hid (t.size ≤ 83886) := HU9.out hwk21
          clear HU9 hsz
          by_cases hk3 : 3 ≤ q.kind
          · skip
            go_wp2_with fail
            refine (asked_any sb T tv tc q.kind q.a q.b _ _ W2 (by have := SB.out.duo.lz.lz; rw [HT.out] at this; exact this.aq (by omega)) RV.out (by omega) CV.out).mono ?_
            rintro e W3 ⟨rfl, hb3⟩
            have SC := Hid.mk' ((SB.out.keep hb3).next HQ.out)
            clear hb3 SB QB k0 k1 k2 k3 q0 q1 q2 q3 q4 BW
            dsimp only
            go_wp2
            go_roundg go
            case measure => omega
            case rel => exact ⟨i + 1, wk2, _, _, _, _, _, _, _, _, _, _, by go_num, rfl, by omega, hwk20, hwk21, SC.out⟩
          by_cases hk0 : q.kind < 0
          · skip
            go_wp2_with fail
            refine (asked_any sb T tv tc q.kind q.a q.b _ _ W2 (by have := SB.out.duo.lz.lz; rw [HT.out] at this; exact this.aq (by omega)) RV.out (by omega) CV.out).mono ?_
            rintro e W3 ⟨rfl, hb3⟩
            have SC := Hid.mk' ((SB.out.keep hb3).next HQ.out)
            clear hb3 SB QB k0 k1 k2 k3 q0 q1 q2 q3 q4 BW
            dsimp only
            go_wp2
            go_roundg go
            case measure => omega
            case rel => exact ⟨i + 1, wk2, _, _, _, _, _, _, _, _, _, _, by go_num, rfl, by omega, hwk20, hwk21, SC.out⟩
          have HQW := Hid.mk' (qws_drop HQ.out)
          have HQE := Hid.mk' (qeds_drop HQ.out)
          have CD := Hid.mk' (done_any w1 W2 sb sb2 x0 x1 xr d0 d1 dr E l1 A w1.heap.size t oth A2 t2 e2 q ap ae cp ce ZR ⟨by omega, by omega⟩ (by unfold Hid; rw [HT.out]; have := HTX.out; have := HQW.out; omega) (by unfold Hid; have := SB.out.ad; have := HQW.out; omega) SB.out.duo SB.out.ko (Nat.le_refl _) HS8 (by omega) ⟨SB.out.ed.1, by have := SB.out.ed.2; omega⟩)
          go_wp2_with fail
          refine CD.out.mono ?_
          rintro e W4 ⟨r, hok, y1, f1, yr, fr, rfl, hK, hD, hF⟩
          have BX4 := Hid.mk' (SB.out.box.fr hF (by decide))
          have DK := Hid.mk' hok
          obtain ⟨s1, s2, s3, s4⟩ := hok
          have HSB := Hid.mk' SB.out.kbl
          have HED := Hid.mk' SB.out.ed
          have HAD := Hid.mk' SB.out.ad
          have HO1 := Hid.mk' SB.out.o1
          have HO2 := Hid.mk' SB.out.o2
          have HO3 := Hid.mk' SB.out.o3
          have hWs : W2.heap.size ≤ W4.heap.size ∨ True := .inr trivial
          clear DK hF CD k0 k1 k2 k3 q0 q1 q2 q3 q4 SB QB hWs BW RV CV HG HW
          rw [HT.out] at s2
          have K4 := Hid.mk' hK
          have D4 := Hid.mk' hD
          have HS1 := Hid.mk' s1
          have HS2 := Hid.mk' s2
          have HS3 := Hid.mk' s3
          have HS4 := Hid.mk' s4
          clear hK hD s1 s2 s3 s4
          generalize rA A t E r = A' at *
          generalize rT A t E r = t' at *
          generalize rE A t E r = E' at *
          dsimp only
          have hb := bAlloc (Below.refl _ W4) (.cells #[.slice x0 l1.length d0, .slice y1 A'.length f1, .slice yr t'.size fr, .int .i64 E'] 31)
          have D5 := Hid.mk' ((D4.out.keep hb).mono fun _ hx => .inl hx)
          have K5 := Hid.mk' (K4.out.keep hb)
          have BX5 := Hid.mk' (BX4.out.keep hb)
          have NB5 : Hid (Blk (W4.alloc (.cells #[.slice x0 l1.length d0, .slice y1 A'.length f1, .slice yr t'.size fr, .int .i64 E'] 31)) W4.heap.size 31 #[.slice x0 l1.length d0, .slice y1 A'.length f1, .slice yr t'.size fr, .int .i64 E']) := Blk.new _ _ _
          obtain ⟨nb, hnb⟩ : ∃ nb, nb = W4.heap.size := ⟨_, rfl⟩
          clear hb D4 K4 BX4
          go_upto_region 25 with fail
          generalize W4.alloc (.cells #[.slice x0 l1.length d0, .slice y1 A'.length f1, .slice yr t'.size fr, .int .i64 E'] 31) = W5 at *
          rw [← hnb] at NB5 ⊢
          clear hnb
          have HTX2 : Hid ((txt l1 A' t'.list).length + qws (qs.drop (i + 1)) ≤ 1048574) := by unfold Hid; have := HS2.out; have := HTX.out; have := HQW.out; omega
          have CSh := Hid.mk' (shown_any w1 W5 sb x0 y1 yr d0 f1 fr E' l1 A' w1.heap.size t' D5.out.lz K5 HS1 (by unfold Hid; have := HTX2.out; omega))
          have n0 := NB5.out.cell (j := 0) rfl
          have n1 := NB5.out.cell (j := 1) rfl
          have n2 := NB5.out.cell (j := 2) rfl
          have n3 := NB5.out.cell (j := 3) rfl
          go_wp2_with fail
          refine CSh.out.mono ?_
          rintro e W6 ⟨rfl, hb6⟩
          have D6 := Hid.mk' ((D5.out.keep hb6).mono fun _ hx => .inl hx)
          have K6 := Hid.mk' (K5.out.keep hb6)
          have BX6 := Hid.mk' (BX5.out.keep hb6)
          have NB6 := Hid.mk' (NB5.out.keep hb6)
          clear hb6 D5 K5 BX5 NB5 CSh n0 n1 n2 n3
          dsimp only
          have n0 := NB6.out.cell (j := 0) rfl
          have n1 := NB6.out.cell (j := 1) rfl
          have n2 := NB6.out.cell (j := 2) rfl
          have n3 := NB6.out.cell (j := 3) rfl
          have k0 := BX6.out.cell (j := 0) rfl
          have k1 := BX6.out.cell (j := 1) rfl
          have k2 := BX6.out.cell (j := 2) rfl
          have k3 := BX6.out.cell (j := 3) rfl
          have z0 := BX6.out.frozen 0
          have z1 := BX6.out.frozen 1
          have z2 := BX6.out.frozen 2
          have z3 := BX6.out.frozen 3
          have D7 := Hid.mk' (D6.out.off4 BX6.out HSB.out (.slice x0 l1.length d0) (.slice y1 A'.length f1) (.slice yr t'.size fr) (.int .i64 E'))
          have K7 := Hid.mk' (ko_setk K6.out BX6.out (.slice x0 l1.length d0) (.slice y1 A'.length f1) (.slice yr t'.size fr) (.int .i64 E'))
          have BX7 : Hid (Blk ((((W6.setCell ⟨kb, 0, none⟩ (.slice x0 l1.length d0)).setCell ⟨kb, 1, none⟩ (.slice y1 A'.length f1)).setCell ⟨kb, 2, none⟩ (.slice yr t'.size fr)).setCell ⟨kb, 3, none⟩ (.int .i64 E')) kb 31 #[.slice x0 l1.length d0, .slice y1 A'.length f1, .slice yr t'.size fr, .int .i64 E']) := blk_set (blk_set (blk_set (blk_set BX6.out (j := 0) _) (j := 1) _) (j := 2) _) (j := 3) _
          clear D6 K6 BX6 NB6
          go_upto_region 28 with fail
          generalize (((W6.setCell ⟨kb, 0, none⟩ (.slice x0 l1.length d0)).setCell ⟨kb, 1, none⟩ (.slice y1 A'.length f1)).setCell ⟨kb, 2, none⟩ (.slice yr t'.size fr)).setCell ⟨kb, 3, none⟩ (.int .i64 E') = W7 at *
          clear n0 n1 n2 n3 k0 k1 k2 k3 z0 z1 z2 z3
          have hb := bAlloc (Below.refl _ W7) (.cells (Ab.bv [1]).toArray 5)
          have D8 := Hid.mk' (D7.out.keep hb).swap
          have K8 := Hid.mk' (K7.out.keep hb)
          have BX8 := Hid.mk' (BX7.out.keep hb)
          obtain ⟨KK, hL, -, -, -, hst⟩ := D8.out.step
          have HST := Hid.mk' hst
          have hw2 : t2.whole ∧ Gds oth A2 t2.list := by obtain ⟨⟨bb, vo, va, a, bb2, vo2, va2, a2, h1, -⟩, -⟩ := D8.out; exact ⟨h1.2.1.1, h1.2.2⟩
          have HW2 := Hid.mk' hw2
          have CI := Hid.mk' (Insert_tr (K := KK) w1 (W7.alloc (.cells (Ab.bv [1]).toArray 5)) sb2 oth A2 t2 e2 2 (some ⟨W7.heap.size, 0, none⟩) 1 [1] hL (by unfold Hid; have := HO1.out; simp only [List.length_cons, List.length_nil]; omega) (by have := HO2.out; simp only [List.length_cons, List.length_nil]; omega) ⟨HO3.out.1, by have := HO3.out; omega⟩ (rd_lit W7 [1] _ _ 1 rfl))
          clear hb hL hst hw2 D7 K7 BX7 D8
          go_wp2_with fail
          refine CI.out.mono ?_
          rintro e W9 ⟨r2, hr2, rfl, hG⟩
          obtain ⟨hD9, hF9⟩ := HST.out _ _ _ _ (apgt_get hG)
          have hOk := hr2.ok HW2.out.1 HW2.out.2 (by have := HO1.out; simp only [List.length_cons, List.length_nil]; omega) (by have := HO2.out; simp only [List.length_cons, List.length_nil]; omega)
          have SN : Hid (Sst w1 W9 kb sb sb2 x0 d0 l1 y1 f1 yr fr A' t' E' (rA A2 t2 e2 r2) (rT A2 t2 e2 r2) (rE A2 t2 e2 r2) (i + 1) qs) := by
            have hb5 : (txt oth (rA A2 t2 e2 r2) (rT A2 t2 e2 r2).list).length ≤ (txt oth A2 t2.list).length + 1 ∧ (rA A2 t2 e2 r2).length ≤ A2.length + 1 ∧ e2 ≤ rE A2 t2 e2 r2 ∧ rE A2 t2 e2 r2 ≤ e2 + 2 := by
              cases r2 with
              | none => exact ⟨Nat.le_succ _, Nat.le_succ _, Int.le_refl _, by show e2 ≤ e2 + 2; omega⟩
              | some x =>
                obtain ⟨A9, t9, e9⟩ := x
                obtain ⟨m1, m2, m3, m4, m5, m6, m7⟩ := hOk A9 t9 e9 rfl
                exact ⟨m3, m5, m6, m7⟩
            have a1 := HS1.out
            have a2 := HTX2.out
            have a3 := HS3.out
            have a4 := HAD.out
            have a5 := HS4.out
            have a6 := HED.out
            have a7 := HO1.out
            have a8 := HO2.out
            have a9 := HO3.out
            have a10 := HQW.out
            have a11 := HQE.out
            exact ⟨hD9.swap.mono fun _ hx => .inl hx, K8.out.fr hF9 (fun _ hx => .inl hx), BX8.out.fr hF9 (by decide), HSB.out, a1, a2, by omega, ⟨by omega, by omega⟩, by omega, by omega, ⟨by omega, by omega⟩⟩
          clear hr2 hG hD9 hF9 hOk CI HST K8 BX8
          dsimp only
          go_wp2
          go_roundg go
          case measure => omega
          case rel => exact ⟨i + 1, wk2, _, _, _, _, _, _, _, _, _, _, by go_num, rfl, by omega, hwk20, hwk21, SN.out⟩
        · have hlI : ¬ (i : Int) < (qs.length : Int) := by omega
          have HG : Hid (Gds l1 A t.list) := by obtain ⟨⟨bb, vo, va, a, bb2, vo2, va2, a2, h1, -⟩, -⟩ := SI.out.duo; exact h1.2.2
          have CSh := Hid.mk' (shown_any w1 wr sb x0 x1 xr d0 d1 dr E l1 A w1.heap.size t SI.out.duo.lz SI.out.ko SI.out.sz (by unfold Hid; have := SI.out.tx; omega))
          have k0 := SI.out.box.cell (j := 0) rfl
          have k1 := SI.out.box.cell (j := 1) rfl
          have k2 := SI.out.box.cell (j := 2) rfl
          have k3 := SI.out.box.cell (j := 3) rfl
          have BW : Hid (Below w.heap.size w wr) := bT B1.out SI.out.duo.bel
          clear hgo him hlt
          go_wp2_with fail
          refine CSh.out.mono ?_
          rintro e W6 ⟨rfl, hb6⟩
          have BF := Hid.mk' (bT BW.out hb6)
          clear hb6
          dsimp only
          go_wp2
          go_ret
          exact ⟨rfl, BF.out⟩
end Go.Proofs.YtmhpeppbhjpkiaaGreat

