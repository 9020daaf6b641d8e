/- The reference's Apply. -/
import Derived.Test.YtmhpeppbhjpkiaaGreatPm38
import Derived.Test.YtmhpeppbhjpkiaaGreatPm42
import Derived.BigQuiet
namespace Go.Proofs.YtmhpeppbhjpkiaaGreat
open Go.RowKit

theorem below_drewN (w : World) (n : Nat) : Below w.heap.size w (w.drewN n) := ⟨rfl, rfl, rfl, Nat.le_refl _, fun _ _ => rfl⟩
theorem conv_drew {W : World} {v : Value} {l : List UInt8} (h : Ab.Rd W v l) : ∀ q, (convert 22 9 v).run Tryz.prog (W.drewN q) = .ok (.string ⟨l.toArray⟩) (W.drewN q) := fun q => conv_rd (h.keep (below_drewN W q))
/-- the three boxes of the reference's Apply -/
structure Ap (w W : World) (bx cx : Array Value) : Prop where
  b2 : Blk W w.heap.size 31 bx
  b4 : Blk W (w.heap.size + 1) 31 #[.slice none 0 0, .slice none 0 0, .slice none 0 0, .int .i64 0]
  b6 : Blk W (w.heap.size + 2) 31 cx
  be : Below w.heap.size w W
theorem Ap.keep {w W W' : World} {bx cx : Array Value} (h : Ap w W bx cx) (hb : Below W.heap.size W W') : Ap w W' bx cx := ⟨h.b2.keep hb, h.b4.keep hb, h.b6.keep hb, bT h.be hb⟩
theorem Ap.set {w W : World} {bx : Array Value} {x0 x1 x2 x3 : Value} (h : Ap w W bx #[x0, x1, x2, x3]) (y0 y1 y2 y3 : Value) : Ap w ((((W.setCell ⟨w.heap.size + 2, 0, none⟩ y0).setCell ⟨w.heap.size + 2, 1, none⟩ y1).setCell ⟨w.heap.size + 2, 2, none⟩ y2).setCell ⟨w.heap.size + 2, 3, none⟩ y3) bx #[y0, y1, y2, y3] :=
  ⟨blk_off (blk_off (blk_off (blk_off h.b2 (by omega) _) (by omega) _) (by omega) _) (by omega) _, blk_off (blk_off (blk_off (blk_off h.b4 (by omega) _) (by omega) _) (by omega) _) (by omega) _, blk_set (blk_set (blk_set (blk_set h.b6 y0) y1) y2) y3, (((h.be.setCell (by show w.heap.size ≤ w.heap.size + 2; omega) _).setCell (by show w.heap.size ≤ w.heap.size + 2; omega) _).setCell (by show w.heap.size ≤ w.heap.size + 2; omega) _).setCell (by show w.heap.size ≤ w.heap.size + 2; omega) _⟩
theorem ko_setk {W : World} {base k : Nat} {a0 : Option Addr} {c0 : Nat} {a1 : Option Addr} {c1 : Nat} {ar : Option Addr} {cr : Nat} {O A : List UInt8} {t : Tr} (h : Ko W base a0 c0 a1 c1 ar cr O A t) {cs : Array Value} (hk : Blk W k 31 cs) (y0 y1 y2 y3 : Value) : Ko ((((W.setCell ⟨k, 0, none⟩ y0).setCell ⟨k, 1, none⟩ y1).setCell ⟨k, 2, none⟩ y2).setCell ⟨k, 3, none⟩ y3) base a0 c0 a1 c1 ar cr O A t :=
  ko_set (ko_set (ko_set (ko_set h hk 0 y0) (blk_set hk y0) 1 y1) (blk_set (blk_set hk y0) y1) 2 y2) (blk_set (blk_set (blk_set hk y0) y1) y2) 3 y3
theorem Ap.new (w : World) (bx : Array Value) (x0 x1 x2 x3 : Value) : Ap w (((w.alloc (.cells bx 31)).alloc (.cells #[.slice none 0 0, .slice none 0 0, .slice none 0 0, .int .i64 0] 31)).alloc (.cells #[x0, x1, x2, x3] 31)) bx #[x0, x1, x2, x3] := by
  have h := Blk.new (w.alloc (.cells bx 31)) 31 #[.slice none 0 0, .slice none 0 0, .slice none 0 0, .int .i64 0]
  have k := Blk.new ((w.alloc (.cells bx 31)).alloc (.cells #[.slice none 0 0, .slice none 0 0, .slice none 0 0, .int .i64 0] 31)) 31 #[x0, x1, x2, x3]
  simp only [World.size_alloc] at h k
  exact ⟨((Blk.new w 31 bx).keep (bAlloc (Below.refl _ _) _)).keep (bAlloc (Below.refl _ _) _), h.keep (bAlloc (Below.refl _ _) _), k, bAlloc (bAA w _ _) _⟩
theorem own_cap9 {W : World} {base n c : Nat} {ao : Option Addr} {l : List UInt8} (h : W.ownsRow base 5 1 (.slice ao n c) n (Ab.bv l)) : n ≤ c := by
  rcases h.2 with ⟨h0, h1⟩ | ⟨g, cap, cur, hv, _, _, hr⟩
  · simp at h0; omega
  · simp at hv; omega
/-- every piece has a byte -/
theorem len_txt {O A : List UInt8} : ∀ {L : List Pc}, Gds O A L → L.length ≤ (txt O A L).length
  | [], _ => Nat.zero_le _
  | p :: L, h => by
    rw [txt_cons, List.length_append, List.length_cons]
    have h1 := (h p (by simp)).len
    have h2 := (h p (by simp)).fit
    have h3 : 1 ≤ p.l := h2.1
    have h4 := len_txt (L := L) (fun q hq => h q (by simp [hq]))
    omega
theorem size_txt {O A : List UInt8} {t : Tr} (hg : Gds O A t.list) : t.size ≤ (txt O A t.list).length := by
  have := len_txt hg
  have := Tr.size_list t
  omega
set_option maxRecDepth 8000 in
set_option maxHeartbeats 4000000 in
theorem rApply_tr (a0 a1 ar ao : Option Addr) (c0 c1 cr c : Nat) (E : Int) (O A : List UInt8) (base : Nat) (t : Tr) (es : List Ed) (w : World) (K : Hid (Ko w base a0 c0 a1 c1 ar cr O A t)) (hB : Hid (base ≤ w.heap.size)) (hE : Hid (Eds w ao es)) (hw : Hid t.whole) (hg : Hid (Gds O A t.list)) (hs : Hid (t.size + dsum es ≤ 524278 ∨ (txt O A t.list).length + nsum es ≤ 524278)) (hml : Hid (es.length ≤ 524280)) (hz : Hid ((txt O A t.list).length + nsum es ≤ 1048575)) (hA : Hid (A.length + nsum es ≤ 1048576)) (hbO : O.length ≤ 1048576) (hold : Hid (∀ d ∈ es, d.old.length ≤ 1048576 ∧ True)) (he : Hid (0 ≤ E ∧ E + 2 * es.length ≤ 4611686018427387904)) :
    Calls Tryz.prog 38 #[.agg #[.slice a0 O.length c0, .slice a1 A.length c1, .slice ar t.size cr, .int .i64 E], .slice ao es.length c] w fun e w' => ∃ r, ApR O A t E es r ∧ RedR w base a0 c0 a1 O A t E r 170 e w' := by
  have hmm : (es.length : Int) ≤ 524280 := by have := hml.out; omega
  have G0 := Hid.mk' (Ap.new w #[.slice a0 O.length c0, .slice a1 A.length c1, .slice ar t.size cr, .int .i64 E] (.slice a0 O.length c0) (.slice a1 A.length c1) (.slice ar t.size cr) (.int .i64 E))
  go_enter Tryz.func38, Tryz.ntmps38
  go_wp2_with fail
  go_loopw [7, 8, 9] (fun u _ _ wr => ∃ (i : Nat) (A' T' : List UInt8) (t' : Tr) (E' : Int) (x1 : Option Addr) (d1 : Nat) (xr : Option Addr) (dr : Nat), u = .int .i64 i ∧ i ≤ es.length ∧ Ap w wr #[.slice a0 O.length c0, .slice a1 A.length c1, .slice ar t.size cr, .int .i64 E] #[.slice a0 O.length c0, .slice x1 A'.length d1, .slice xr t'.size dr, .int .i64 E'] ∧ Ko wr base a0 c0 x1 d1 xr dr O A' t' ∧ (t'.whole ∧ Gds O A' t'.list ∧ txt O A' t'.list = T') ∧ (∀ r, ApR O A' t' E' (es.drop i) r → ApR O A t E es r) ∧ T'.length + nsum (es.drop i) ≤ 1048575 ∧ A'.length + nsum (es.drop i) ≤ 1048576 ∧ (t'.size + dsum (es.drop i) ≤ 524278 ∨ T'.length + nsum (es.drop i) ≤ 524278) ∧ E ≤ E' ∧ E' ≤ E + 2 * i ∧ ∀ b, Pr x1 b → Pr a1 b ∨ w.heap.size ≤ b) (fun u _ _ _ => es.length - (intOf u).toNat)
  case atStart => exact ⟨0, A, txt O A t.list, t, E, a1, c1, ar, cr, rfl, Nat.zero_le _, G0.out, K.out.keep G0.out.be, ⟨hw.out, hg.out, rfl⟩, fun r h => h, hz.out, hA.out, hs.out, Int.le_refl _, by simp, fun _ h => .inl h⟩
  case round =>
    obtain ⟨i, A', T', t', E', x1, d1, xr, dr, rfl, hi, hG, hK, ⟨hwt, hgt, htt⟩, hap, hT', hA', hs', he1, he2, hpx⟩ := hrel
    have HPX := Hid.mk' hpx
    have G := Hid.mk' hG
    have KK := Hid.mk' hK
    have HW := Hid.mk' hwt
    have HG := Hid.mk' hgt
    have HTT := Hid.mk' htt
    have HAP := Hid.mk' hap
    have HTL := Hid.mk' hT'
    have HAL := Hid.mk' hA'
    have HSZ := Hid.mk' hs'
    have HPT : Hid (t'.size ≤ T'.length) := by unfold Hid; rw [← HTT.out]; exact size_txt HG.out
    have HEE := Hid.mk' (And.intro he1 he2)
    clear hG hK hwt hgt htt hap hT' hA' hs' he1 he2 hpx G0
    have hi0 : (0 : Int) ≤ (i : Int) := by omega
    by_cases hlt : i < es.length
    · obtain ⟨d, hd⟩ : ∃ d, es[i]? = some d := ⟨es[i], List.getElem?_eq_getElem hlt⟩
      have HD := Hid.mk' hd
      obtain ⟨g, o, p1, pq1, p2, pq2, rfl, z0, z1, z2, r1, r2⟩ := hE.out.cells i d hd
      have s0 : wr.cell? ⟨g, o + i * 3, none⟩ = some (.int .i64 d.at') := by rw [G.out.be.cell (lt_cell z0)]; exact z0
      have s1 : wr.cell? ⟨g, o + i * 3 + 1, none⟩ = some (.slice p1 d.old.length pq1) := by rw [G.out.be.cell (lt_cell z1)]; exact z1
      have s2 : wr.cell? ⟨g, o + i * 3 + 2, none⟩ = some (.slice p2 d.new.length pq2) := by rw [G.out.be.cell (lt_cell z2)]; exact z2
      have R1 := Hid.mk' r1
      have R2 := Hid.mk' r2
      have HN := Hid.mk' (nsum_drop hd)
      have HDS := Hid.mk' (dsum_drop hd)
      have HOD := Hid.mk' (hold.out d (List.mem_of_getElem? hd))
      have him : (i : Int) < (es.length : Int) := by omega
      have hTz : Hid (T'.length ≤ 1048575) := by unfold Hid; have := HTL.out; omega
      clear z0 z1 z2 r1 r2 hd
      have Gx := Hid.mk' (fun (X : Obj) => G.out.keep (bAlloc (Below.refl _ _) X))
      have Y1 := Hid.mk' (Blk.new wr 83 #[.int .i64 d.at', .slice p1 d.old.length pq1, .slice p2 d.new.length pq2])
      have D1 := Hid.mk' (rText_any a0 x1 xr c0 d1 dr E' O A' base t' (wr.alloc (.cells #[.int .i64 d.at', .slice p1 d.old.length pq1, .slice p2 d.new.length pq2] 83)) (KK.out.keep (bAlloc (Below.refl _ _) _)) HG (show Hid (t'.size ≤ 524287) by unfold Hid; have := HSZ.out; have := HPT.out; omega) (show Hid ((txt O A' t'.list).length ≤ 1048576) by unfold Hid; rw [HTT.out]; have := hTz.out; omega))
      rw [HTT.out] at D1
      have f0 := (Gx.out (.cells #[.int .i64 d.at', .slice p1 d.old.length pq1, .slice p2 d.new.length pq2] 83)).b6.cell (j := 0) rfl
      have f1 := (Gx.out (.cells #[.int .i64 d.at', .slice p1 d.old.length pq1, .slice p2 d.new.length pq2] 83)).b6.cell (j := 1) rfl
      have f2 := (Gx.out (.cells #[.int .i64 d.at', .slice p1 d.old.length pq1, .slice p2 d.new.length pq2] 83)).b6.cell (j := 2) rfl
      have f3 := (Gx.out (.cells #[.int .i64 d.at', .slice p1 d.old.length pq1, .slice p2 d.new.length pq2] 83)).b6.cell (j := 3) rfl
      have e0 := G.out.b6.cell (j := 0) rfl
      have e1 := G.out.b6.cell (j := 1) rfl
      have e2 := G.out.b6.cell (j := 2) rfl
      have e3 := G.out.b6.cell (j := 3) rfl
      have glt := G.out.b6.lt
      go_wp2_with fail
      refine D1.out.mono ?_
      rintro e9 w2 ⟨v, rfl, hv, hb2⟩
      have G2 := Hid.mk' ((Gx.out _).keep hb2)
      have Y2 := Hid.mk' (Y1.out.keep hb2)
      have K2 := Hid.mk' ((KK.out.keep (bAlloc (Below.refl _ _) _)).keep hb2)
      obtain ⟨xv, dv, ev⟩ := own_shape' hv
      subst ev
      have RV := Hid.mk' (Ab.own_rd hv)
      have hcv : Hid (T'.length ≤ dv) := by unfold Hid; exact own_cap9 hv
      have hwr : Hid (wr.heap.size ≠ w.heap.size + 2) := by unfold Hid; omega
      clear hv hb2 D1 Gx Y1 f0 f1 f2 f3 e0 e1 e2 e3 glt s0 s1 s2 G KK
      have y0 := Y2.out.cell (j := 0) rfl
      have y1 := Y2.out.cell (j := 1) rfl
      have y2 := Y2.out.cell (j := 2) rfl
      have hTI : (T'.length : Int) ≤ 1048575 := by have := hTz.out; omega
      go_upto_region 7 with fail
      by_cases h1 : d.at' < 0
      · have HF := Hid.mk' (HAP.out none (ApR.stop HD.out (by rw [HTT.out]; exact decide_eq_false (by omega))))
        have k1 : decide (d.at' < 0) = true := decide_eq_true h1
        go_quiet (fail)
        have G3 := Hid.mk' (G2.out.keep (below_drewN w2 nq))
        have Y3 := Hid.mk' (Y2.out.keep (below_drewN w2 nq))
        have K3 := Hid.mk' (K2.out.keep (below_drewN w2 nq))
        generalize w2.drewN nq = w3 at *
        clear G2 Y2 K2
        have b0 := G3.out.b2.cell (j := 0) rfl
        have b1 := G3.out.b2.cell (j := 1) rfl
        have b2 := G3.out.b2.cell (j := 2) rfl
        have b3 := G3.out.b2.cell (j := 3) rfl
        have g0 := G3.out.b4.cell (j := 0) rfl
        have g1 := G3.out.b4.cell (j := 1) rfl
        have g2 := G3.out.b4.cell (j := 2) rfl
        have g3 := G3.out.b4.cell (j := 3) rfl
        have q0 := G3.out.b4.frozen 0
        have q1 := G3.out.b4.frozen 1
        have q2 := G3.out.b4.frozen 2
        have q3 := G3.out.b4.frozen 3
        have gz := G3.out.b4.lt
        go_wp2
        all_goals exact bodyPost_ret (v := .tuple #[.agg #[.slice a0 O.length c0, .slice a1 A.length c1, .slice ar t.size cr, .int .i64 E], .int .i64 170]) (by simp [results, Tryz.results38, go_sem, g0, g1, g2, g3]) rfl ⟨none, HF.out, a1, c1, ar, cr, rfl, (ko_set4 (K.out.keep G3.out.be) G3.out.b4 G3.out.be _ _ _ _).1, (ko_set4 (K.out.keep G3.out.be) G3.out.b4 G3.out.be _ _ _ _).2, fun _ h => .inl h⟩
      by_cases h2 : (T'.length : Int) < d.at'
      · have HF := Hid.mk' (HAP.out none (ApR.stop HD.out (by rw [HTT.out]; exact decide_eq_false (by omega))))
        have k1 : decide (d.at' < 0) = false := decide_eq_false h1
        have k2 : decide ((T'.length : Int) < d.at') = true := decide_eq_true h2
        go_quiet (fail)
        have G3 := Hid.mk' (G2.out.keep (below_drewN w2 nq))
        have Y3 := Hid.mk' (Y2.out.keep (below_drewN w2 nq))
        have K3 := Hid.mk' (K2.out.keep (below_drewN w2 nq))
        generalize w2.drewN nq = w3 at *
        clear G2 Y2 K2
        have b0 := G3.out.b2.cell (j := 0) rfl
        have b1 := G3.out.b2.cell (j := 1) rfl
        have b2 := G3.out.b2.cell (j := 2) rfl
        have b3 := G3.out.b2.cell (j := 3) rfl
        have g0 := G3.out.b4.cell (j := 0) rfl
        have g1 := G3.out.b4.cell (j := 1) rfl
        have g2 := G3.out.b4.cell (j := 2) rfl
        have g3 := G3.out.b4.cell (j := 3) rfl
        have q0 := G3.out.b4.frozen 0
        have q1 := G3.out.b4.frozen 1
        have q2 := G3.out.b4.frozen 2
        have q3 := G3.out.b4.frozen 3
        have gz := G3.out.b4.lt
        go_wp2
        all_goals exact bodyPost_ret (v := .tuple #[.agg #[.slice a0 O.length c0, .slice a1 A.length c1, .slice ar t.size cr, .int .i64 E], .int .i64 170]) (by simp [results, Tryz.results38, go_sem, g0, g1, g2, g3]) rfl ⟨none, HF.out, a1, c1, ar, cr, rfl, (ko_set4 (K.out.keep G3.out.be) G3.out.b4 G3.out.be _ _ _ _).1, (ko_set4 (K.out.keep G3.out.be) G3.out.b4 G3.out.be _ _ _ _).2, fun _ h => .inl h⟩
      by_cases h3 : (T'.length : Int) - d.at' < (d.old.length : Int)
      · have HF := Hid.mk' (HAP.out none (ApR.stop HD.out (by rw [HTT.out]; exact decide_eq_false (by omega))))
        have k1 : decide (d.at' < 0) = false := decide_eq_false h1
        have k2 : decide ((T'.length : Int) < d.at') = false := decide_eq_false h2
        have kw : IntKind.i64.wrap ((T'.length : Int) - d.at') = (T'.length : Int) - d.at' := by rw [IntKind.wrap_i64]; omega
        have k3 : decide ((T'.length : Int) - d.at' < (d.old.length : Int)) = true := decide_eq_true h3
        go_quiet (fail)
        have G3 := Hid.mk' (G2.out.keep (below_drewN w2 nq))
        have Y3 := Hid.mk' (Y2.out.keep (below_drewN w2 nq))
        have K3 := Hid.mk' (K2.out.keep (below_drewN w2 nq))
        generalize w2.drewN nq = w3 at *
        clear G2 Y2 K2
        have b0 := G3.out.b2.cell (j := 0) rfl
        have b1 := G3.out.b2.cell (j := 1) rfl
        have b2 := G3.out.b2.cell (j := 2) rfl
        have b3 := G3.out.b2.cell (j := 3) rfl
        have g0 := G3.out.b4.cell (j := 0) rfl
        have g1 := G3.out.b4.cell (j := 1) rfl
        have g2 := G3.out.b4.cell (j := 2) rfl
        have g3 := G3.out.b4.cell (j := 3) rfl
        have q0 := G3.out.b4.frozen 0
        have q1 := G3.out.b4.frozen 1
        have q2 := G3.out.b4.frozen 2
        have q3 := G3.out.b4.frozen 3
        have gz := G3.out.b4.lt
        go_wp2
        all_goals exact bodyPost_ret (v := .tuple #[.agg #[.slice a0 O.length c0, .slice a1 A.length c1, .slice ar t.size cr, .int .i64 E], .int .i64 170]) (by simp [results, Tryz.results38, go_sem, g0, g1, g2, g3]) rfl ⟨none, HF.out, a1, c1, ar, cr, rfl, (ko_set4 (K.out.keep G3.out.be) G3.out.b4 G3.out.be _ _ _ _).1, (ko_set4 (K.out.keep G3.out.be) G3.out.b4 G3.out.be _ _ _ _).2, fun _ h => .inl h⟩
      obtain ⟨x, hx⟩ : ∃ x : Nat, d.at' = x := ⟨d.at'.toNat, by omega⟩
      rw [hx] at Y2 y0 h1 h2 h3
      obtain ⟨y, hy⟩ : ∃ y, y = x + d.old.length := ⟨_, rfl⟩
      have hxy : x ≤ y := by omega
      have hyT : y ≤ T'.length := by omega
      have hyd : (y : Int) ≤ (dv : Int) := by have := hcv.out; omega
      have hxyI : (x : Int) ≤ (y : Int) := by omega
      have hx0 : (0 : Int) ≤ (x : Int) := by omega
      have k1 : decide ((x : Int) < 0) = false := decide_eq_false h1
      have k2 : decide ((T'.length : Int) < (x : Int)) = false := decide_eq_false h2
      have kw : IntKind.i64.wrap ((T'.length : Int) - (x : Int)) = (T'.length : Int) - (x : Int) := by rw [IntKind.wrap_i64]; omega
      have k3 : decide ((T'.length : Int) - (x : Int) < (d.old.length : Int)) = false := decide_eq_false h3
      have kw2 : IntKind.i64.wrap ((x : Int) + (d.old.length : Int)) = (y : Int) := by rw [IntKind.wrap_i64]; omega
      obtain ⟨l1, hl1⟩ : ∃ l1, l1 = (T'.drop x).take (y - x) := ⟨_, rfl⟩
      have RO := conv_drew ((R1.out.keep G2.out.be))
      have HX := Hid.mk' hx
      have HY := Hid.mk' hy
      have HL1 := Hid.mk' hl1
      have HDE : Hid (edB T' d = decide (l1 = d.old)) := by
        unfold Hid edB
        rw [hl1, show y - x = d.old.length from by omega, hx, Int.toNat_natCast]
        simp only [decide_eq_decide]
        exact ⟨fun h => h.2.2, fun h => ⟨by omega, by omega, h⟩⟩
      clear hx hy
      by_cases htx : dv = x
      · have RP := conv_drew (rd_part0 RV.out hxy hyT hcv.out htx)
        rw [← hl1] at RP
        clear hl1
        by_cases hne : l1 = d.old
        · have HF := Hid.mk' (show edB T' d = true by rw [HDE.out]; exact decide_eq_true hne)
          rw [hne] at RP
          go_quiet (fail)
          have G3 := Hid.mk' (G2.out.keep (below_drewN w2 nq))
          have Y3 := Hid.mk' (Y2.out.keep (below_drewN w2 nq))
          have K3 := Hid.mk' (K2.out.keep (below_drewN w2 nq))
          generalize w2.drewN nq = w3 at *
          clear G2 Y2 K2
          have u0 := Y3.out.cell (j := 0) rfl
          have u1 := Y3.out.cell (j := 1) rfl
          have b0 := G3.out.b6.cell (j := 0) rfl
          have b1 := G3.out.b6.cell (j := 1) rfl
          have b2 := G3.out.b6.cell (j := 2) rfl
          have b3 := G3.out.b6.cell (j := 3) rfl
          clear RO RP
          by_cases hoz : d.old.length = 0
          · have hn0 : ¬ (0 : Int) < (d.old.length : Int) := by omega
            have hn1 : ¬ 0 < d.old.length := by omega
            have HOU : Hid (OuR O A' t' d.at' d.old.length t') := by unfold Hid OuR; rw [if_pos hoz]
            have HC3 : Hid (cnt d.old.length E' = E') := by unfold Hid cnt; rw [if_pos hoz]
            have HC4 : Hid (E' ≤ E' ∧ E' ≤ E' + 1) := by unfold Hid; omega
            clear hoz
            go_upto_region 11 with fail
            obtain ⟨w5, hw5⟩ : ∃ w5, w5 = w3 := ⟨_, rfl⟩
            rw [← hw5] at G3 K3 Y3 ⊢
            have G5 := G3
            have K5 := K3
            have Y5 := Y3
            clear G3 K3 Y3 hw5 u0 u1 b0 b1 b2 b3
            obtain ⟨hw1, hg1, ht1, hq1⟩ := HOU.out.ok HW.out HG.out (by rw [HTT.out]; have := hTz.out; omega) (by rw [HX.out]; omega)
            have HT1 : Hid ((txt O A' t'.list).length + d.old.length = T'.length) := by
              unfold Hid
              have e1 := congrArg List.length ht1
              have e2 := congrArg List.length HTT.out
              simp only [List.length_append, List.length_take, List.length_drop] at e1
              have := HY.out
              have := HX.out
              omega
            have HW1 := Hid.mk' hw1
            have HG1 := Hid.mk' hg1
            have HS1 : Hid (t'.size ≤ 524280) := by
              unfold Hid
              have s1 := Tr.size_list t'
              have s2 := Tr.size_list t'
              have := HSZ.out
              have := HPT.out
              have := HT1.out
              have := size_txt hg1
              split at hq1 <;> omega
            have HB1 := Hid.mk' (byt_txt hg1)
            clear hw1 hg1 ht1 hq1
            have u2 := Y5.out.cell (j := 2) rfl
            have u0 := Y5.out.cell (j := 0) rfl
            have b0 := G5.out.b6.cell (j := 0) rfl
            have b1 := G5.out.b6.cell (j := 1) rfl
            have b2 := G5.out.b6.cell (j := 2) rfl
            have b3 := G5.out.b6.cell (j := 3) rfl
            by_cases hnz : d.new.length = 0
            · have hn0 : ¬ (0 : Int) < (d.new.length : Int) := by omega
              have hn1 : ¬ 0 < d.new.length := by omega
              have HNE := Hid.mk' hnz
              have HED : Hid (EdR O A' t' E' d A' t' E') := ⟨t', HOU.out, by unfold PuR; rw [if_pos hnz], by rw [List.length_eq_zero_iff.1 hnz, List.append_nil], by rw [HC3.out]; unfold cnt; rw [if_pos hnz]⟩
              clear hnz
              obtain ⟨o1, o2, o3, o4, o5, o6, o7⟩ := HED.out.ok (by rw [HTT.out]; exact HF.out) HW.out HG.out (by rw [HTT.out]; have := HTL.out; have := HN.out; omega) (by have := HAL.out; have := HN.out; omega)
              replace o3 := o3.trans (congrArg (fun z => edT z d) HTT.out)
              replace o4 : t'.size ≤ t'.size + dl d := by have s1 := Tr.size_list t'; have s2 := Tr.size_list t'; omega
              have OK := Hid.mk' (And.intro o1 (And.intro o2 o3))
              have HO4 := Hid.mk' (And.intro o4 (And.intro o6 o7))
              have HO5 := Hid.mk' o5
              have HLN := Hid.mk' (edT_len HF.out)
              clear o1 o2 o3 o4 o5 o6 o7
              go_wp2
              go_roundw
              case rel => exact ⟨i + 1, A', edT T' d, t', E', x1, d1, xr, dr, by go_num, by omega, G5.out, K5.out, OK.out, fun r hr => HAP.out r (ApR.step HD.out (by rw [HTT.out]; exact HF.out) HED.out hr), by have := HLN.out; have := HTL.out; have := HN.out; omega, by rw [HO5.out, List.length_append]; have := HAL.out; have := HN.out; omega, by have := HSZ.out; have := HO4.out; have := HDS.out; have := HLN.out; have := HN.out; omega, by have := HEE.out; have := HO4.out; omega, by have := HEE.out; have := HO4.out; omega, HPX.out⟩
              case measure => first | (simp [intOf]; done) | (simp [intOf]; omega)
            · have hn0 : (0 : Int) < (d.new.length : Int) := by omega
              have hn1 : 0 < d.new.length := by omega
              have HNE := Hid.mk' hnz
              have D3 := Hid.mk' (rput_any a0 x1 xr p2 c0 d1 dr pq2 E' O A' d.new base (Pr xr) t' x w5 K5.out.kr.1 K5.out.kr.2 (R2.out.keep G5.out.be) (show Hid (d.new ≠ []) from fun h => hnz (by rw [h]; rfl)) HW1 HG1 HS1 hx0 (by rw [HB1.out]; have := HT1.out; have := HY.out; omega) (show Hid ((txt O A' t'.list).length + d.new.length ≤ 1048575) by unfold Hid; have := HT1.out; have := HTL.out; have := HN.out; omega) (by have := HAL.out; have := HN.out; omega) hbO (by have := HEE.out; have := he.out; have := HC4.out; omega))
              clear hnz
              go_wp2_with fail
              refine D3.out.mono ?_
              rintro e9 w6 ⟨t2, x2, d2, xr2, dr2, hp, rfl, hA', hR', hb6⟩
              have G6 := Hid.mk' (G5.out.keep hb6)
              have K6 := Hid.mk' (put_ko K5.out hb6 (Nat.le_trans hB.out G5.out.be.size) hA' hR')
              have HED : Hid (EdR O A' t' E' d (A' ++ d.new) t2 (E' + 1)) := ⟨t', HOU.out, by unfold PuR; rw [if_neg HNE.out, HX.out]; exact hp, rfl, by rw [HC3.out]; unfold cnt; rw [if_neg HNE.out]⟩
              have HPX2 : Hid (∀ b, Pr x2 b → Pr a1 b ∨ w.heap.size ≤ b) := fun b h => .inr (Nat.le_trans G5.out.be.size (own_prl hA' h))
              clear hp hA' hR' hb6 D3 b0 b1 b2 b3 u0 u2
              obtain ⟨o1, o2, o3, o4, o5, o6, o7⟩ := HED.out.ok (by rw [HTT.out]; exact HF.out) HW.out HG.out (by rw [HTT.out]; have := HTL.out; have := HN.out; omega) (by have := HAL.out; have := HN.out; omega)
              replace o3 := o3.trans (congrArg (fun z => edT z d) HTT.out)
              replace o4 : t2.size ≤ t'.size + dl d := by have s1 := Tr.size_list t2; have s2 := Tr.size_list t'; omega
              have OK := Hid.mk' (And.intro o1 (And.intro o2 o3))
              have HO4 := Hid.mk' (And.intro o4 (And.intro o6 o7))
              have HO5 := Hid.mk' o5
              have HLN := Hid.mk' (edT_len HF.out)
              clear o1 o2 o3 o4 o5 o6 o7
              obtain ⟨AL, hAL⟩ : ∃ AL, A' ++ d.new = AL := ⟨_, rfl⟩
              rw [hAL] at K6 HED OK HO5 ⊢
              have HAA := Hid.mk' hAL
              clear hAL
              obtain ⟨e4, he4⟩ : ∃ e4, E' + 1 = e4 := ⟨_, rfl⟩
              rw [he4] at HED HO4 ⊢
              clear he4
              have g0 := G6.out.b6.cell (j := 0) rfl
              have g1 := G6.out.b6.cell (j := 1) rfl
              have g2 := G6.out.b6.cell (j := 2) rfl
              have g3 := G6.out.b6.cell (j := 3) rfl
              have q0 := G6.out.b6.frozen 0
              have q1 := G6.out.b6.frozen 1
              have q2 := G6.out.b6.frozen 2
              have q3 := G6.out.b6.frozen 3
              have gz := G6.out.b6.lt
              go_wp2
              go_roundw
              case rel => exact ⟨i + 1, AL, edT T' d, t2, e4, x2, d2, xr2, dr2, by go_num, by omega, G6.out.set _ _ _ _, ko_setk K6.out G6.out.b6 _ _ _ _, OK.out, fun r hr => HAP.out r (ApR.step HD.out (by rw [HTT.out]; exact HF.out) HED.out hr), by have := HLN.out; have := HTL.out; have := HN.out; omega, by rw [← HAA.out, List.length_append]; have := HAL.out; have := HN.out; omega, by have := HSZ.out; have := HO4.out; have := HDS.out; have := HLN.out; have := HN.out; omega, by have := HEE.out; have := HO4.out; omega, by have := HEE.out; have := HO4.out; omega, HPX2.out⟩
              case measure => first | (simp [intOf]; done) | (simp [intOf]; omega)
          · have hn0 : (0 : Int) < (d.old.length : Int) := by omega
            have hn1 : 0 < d.old.length := by omega
            have D2 := Hid.mk' (rout_any a0 x1 xr c0 d1 dr E' O A' base (Pr xr) t' (x : Int) (y : Int) w3 K3.out.kr.1 K3.out.kr.2 HW HG (show Hid (t'.size ≤ 524280) by unfold Hid; have := HSZ.out; have := HPT.out; omega) hx0 hxyI (by rw [byt_txt HG.out, HTT.out]; omega) (show Hid ((txt O A' t'.list).length ≤ 1048575) by unfold Hid; rw [HTT.out]; exact hTz.out) (by have := HAL.out; omega) hbO (by have := HEE.out; have := he.out; omega))
            go_wp2_with fail
            refine D2.out.mono ?_
            rintro e9 w4 ⟨t1, xr1, dr1, hp, rfl, hR', hb4⟩
            have G4 := Hid.mk' (G3.out.keep hb4)
            have Y4 := Hid.mk' (Y3.out.keep hb4)
            have K4 : Hid (Ko w4 base a0 c0 x1 d1 xr1 dr1 O A' t1) := ⟨Ab.own_keep K3.out.o hb4, Ab.own_keep K3.out.a hb4, Rk.own_lower hR' (Nat.le_trans hB.out G3.out.be.size)⟩
            have HOU : Hid (OuR O A' t' d.at' d.old.length t1) := by
              unfold Hid OuR
              rw [if_neg hoz, HX.out, show (x : Int) + (d.old.length : Int) = (y : Int) from by have := HY.out; omega]
              exact hp
            obtain ⟨e3, he3⟩ : ∃ e3, E' + 1 = e3 := ⟨_, rfl⟩
            rw [he3]
            have HC3 : Hid (cnt d.old.length E' = e3) := by unfold Hid cnt; rw [if_neg hoz]; exact he3
            have HC4 : Hid (E' ≤ e3 ∧ e3 ≤ E' + 1) := by unfold Hid; omega
            have g0 := G4.out.b6.cell (j := 0) rfl
            have g1 := G4.out.b6.cell (j := 1) rfl
            have g2 := G4.out.b6.cell (j := 2) rfl
            have g3 := G4.out.b6.cell (j := 3) rfl
            have q0 := G4.out.b6.frozen 0
            have q1 := G4.out.b6.frozen 1
            have q2 := G4.out.b6.frozen 2
            have q3 := G4.out.b6.frozen 3
            have gz := G4.out.b6.lt
            clear hp hR' hb4 D2 G3 K3 Y3 u0 u1 b0 b1 b2 b3 hoz he3
            go_upto_region 11 with fail
            have G5 := Hid.mk' (G4.out.set (.slice a0 O.length c0) (.slice x1 A'.length d1) (.slice xr1 t1.size dr1) (.int .i64 e3))
            have K5 := Hid.mk' (ko_setk K4.out G4.out.b6 (.slice a0 O.length c0) (.slice x1 A'.length d1) (.slice xr1 t1.size dr1) (.int .i64 e3))
            have Y5 := Hid.mk' (blk_off (j := 3) (blk_off (j := 2) (blk_off (j := 1) (blk_off (B := w.heap.size + 2) (j := 0) Y4.out hwr.out (.slice a0 O.length c0)) hwr.out (.slice x1 A'.length d1)) hwr.out (.slice xr1 t1.size dr1)) hwr.out (.int .i64 e3))
            generalize (((w4.setCell ⟨w.heap.size + 2, 0, none⟩ (.slice a0 O.length c0)).setCell ⟨w.heap.size + 2, 1, none⟩ (.slice x1 A'.length d1)).setCell ⟨w.heap.size + 2, 2, none⟩ (.slice xr1 t1.size dr1)).setCell ⟨w.heap.size + 2, 3, none⟩ (.int .i64 e3) = w5 at *
            clear G4 K4 Y4 g0 g1 g2 g3 q0 q1 q2 q3 gz
            obtain ⟨hw1, hg1, ht1, hq1⟩ := HOU.out.ok HW.out HG.out (by rw [HTT.out]; have := hTz.out; omega) (by rw [HX.out]; omega)
            have HT1 : Hid ((txt O A' t1.list).length + d.old.length = T'.length) := by
              unfold Hid
              have e1 := congrArg List.length ht1
              have e2 := congrArg List.length HTT.out
              simp only [List.length_append, List.length_take, List.length_drop] at e1
              have := HY.out
              have := HX.out
              omega
            have HW1 := Hid.mk' hw1
            have HG1 := Hid.mk' hg1
            have HS1 : Hid (t1.size ≤ 524280) := by
              unfold Hid
              have s1 := Tr.size_list t1
              have s2 := Tr.size_list t'
              have := HSZ.out
              have := HPT.out
              have := HT1.out
              have := size_txt hg1
              split at hq1 <;> omega
            have HB1 := Hid.mk' (byt_txt hg1)
            clear hw1 hg1 ht1 hq1
            have u2 := Y5.out.cell (j := 2) rfl
            have u0 := Y5.out.cell (j := 0) rfl
            have b0 := G5.out.b6.cell (j := 0) rfl
            have b1 := G5.out.b6.cell (j := 1) rfl
            have b2 := G5.out.b6.cell (j := 2) rfl
            have b3 := G5.out.b6.cell (j := 3) rfl
            by_cases hnz : d.new.length = 0
            · have hn0 : ¬ (0 : Int) < (d.new.length : Int) := by omega
              have hn1 : ¬ 0 < d.new.length := by omega
              have HNE := Hid.mk' hnz
              have HED : Hid (EdR O A' t' E' d A' t1 e3) := ⟨t1, HOU.out, by unfold PuR; rw [if_pos hnz], by rw [List.length_eq_zero_iff.1 hnz, List.append_nil], by rw [HC3.out]; unfold cnt; rw [if_pos hnz]⟩
              clear hnz
              obtain ⟨o1, o2, o3, o4, o5, o6, o7⟩ := HED.out.ok (by rw [HTT.out]; exact HF.out) HW.out HG.out (by rw [HTT.out]; have := HTL.out; have := HN.out; omega) (by have := HAL.out; have := HN.out; omega)
              replace o3 := o3.trans (congrArg (fun z => edT z d) HTT.out)
              replace o4 : t1.size ≤ t'.size + dl d := by have s1 := Tr.size_list t1; have s2 := Tr.size_list t'; omega
              have OK := Hid.mk' (And.intro o1 (And.intro o2 o3))
              have HO4 := Hid.mk' (And.intro o4 (And.intro o6 o7))
              have HO5 := Hid.mk' o5
              have HLN := Hid.mk' (edT_len HF.out)
              clear o1 o2 o3 o4 o5 o6 o7
              go_wp2
              go_roundw
              case rel => exact ⟨i + 1, A', edT T' d, t1, e3, x1, d1, xr1, dr1, by go_num, by omega, G5.out, K5.out, OK.out, fun r hr => HAP.out r (ApR.step HD.out (by rw [HTT.out]; exact HF.out) HED.out hr), by have := HLN.out; have := HTL.out; have := HN.out; omega, by rw [HO5.out, List.length_append]; have := HAL.out; have := HN.out; omega, by have := HSZ.out; have := HO4.out; have := HDS.out; have := HLN.out; have := HN.out; omega, by have := HEE.out; have := HO4.out; omega, by have := HEE.out; have := HO4.out; omega, HPX.out⟩
              case measure => first | (simp [intOf]; done) | (simp [intOf]; omega)
            · have hn0 : (0 : Int) < (d.new.length : Int) := by omega
              have hn1 : 0 < d.new.length := by omega
              have HNE := Hid.mk' hnz
              have D3 := Hid.mk' (rput_any a0 x1 xr1 p2 c0 d1 dr1 pq2 e3 O A' d.new base (Pr xr1) t1 x w5 K5.out.kr.1 K5.out.kr.2 (R2.out.keep G5.out.be) (show Hid (d.new ≠ []) from fun h => hnz (by rw [h]; rfl)) HW1 HG1 HS1 hx0 (by rw [HB1.out]; have := HT1.out; have := HY.out; omega) (show Hid ((txt O A' t1.list).length + d.new.length ≤ 1048575) by unfold Hid; have := HT1.out; have := HTL.out; have := HN.out; omega) (by have := HAL.out; have := HN.out; omega) hbO (by have := HEE.out; have := he.out; have := HC4.out; omega))
              clear hnz
              go_wp2_with fail
              refine D3.out.mono ?_
              rintro e9 w6 ⟨t2, x2, d2, xr2, dr2, hp, rfl, hA', hR', hb6⟩
              have G6 := Hid.mk' (G5.out.keep hb6)
              have K6 := Hid.mk' (put_ko K5.out hb6 (Nat.le_trans hB.out G5.out.be.size) hA' hR')
              have HED : Hid (EdR O A' t' E' d (A' ++ d.new) t2 (e3 + 1)) := ⟨t1, HOU.out, by unfold PuR; rw [if_neg HNE.out, HX.out]; exact hp, rfl, by rw [HC3.out]; unfold cnt; rw [if_neg HNE.out]⟩
              have HPX2 : Hid (∀ b, Pr x2 b → Pr a1 b ∨ w.heap.size ≤ b) := fun b h => .inr (Nat.le_trans G5.out.be.size (own_prl hA' h))
              clear hp hA' hR' hb6 D3 b0 b1 b2 b3 u0 u2
              obtain ⟨o1, o2, o3, o4, o5, o6, o7⟩ := HED.out.ok (by rw [HTT.out]; exact HF.out) HW.out HG.out (by rw [HTT.out]; have := HTL.out; have := HN.out; omega) (by have := HAL.out; have := HN.out; omega)
              replace o3 := o3.trans (congrArg (fun z => edT z d) HTT.out)
              replace o4 : t2.size ≤ t'.size + dl d := by have s1 := Tr.size_list t2; have s2 := Tr.size_list t'; omega
              have OK := Hid.mk' (And.intro o1 (And.intro o2 o3))
              have HO4 := Hid.mk' (And.intro o4 (And.intro o6 o7))
              have HO5 := Hid.mk' o5
              have HLN := Hid.mk' (edT_len HF.out)
              clear o1 o2 o3 o4 o5 o6 o7
              obtain ⟨AL, hAL⟩ : ∃ AL, A' ++ d.new = AL := ⟨_, rfl⟩
              rw [hAL] at K6 HED OK HO5 ⊢
              have HAA := Hid.mk' hAL
              clear hAL
              obtain ⟨e4, he4⟩ : ∃ e4, e3 + 1 = e4 := ⟨_, rfl⟩
              rw [he4] at HED HO4 ⊢
              clear he4
              have g0 := G6.out.b6.cell (j := 0) rfl
              have g1 := G6.out.b6.cell (j := 1) rfl
              have g2 := G6.out.b6.cell (j := 2) rfl
              have g3 := G6.out.b6.cell (j := 3) rfl
              have q0 := G6.out.b6.frozen 0
              have q1 := G6.out.b6.frozen 1
              have q2 := G6.out.b6.frozen 2
              have q3 := G6.out.b6.frozen 3
              have gz := G6.out.b6.lt
              go_wp2
              go_roundw
              case rel => exact ⟨i + 1, AL, edT T' d, t2, e4, x2, d2, xr2, dr2, by go_num, by omega, G6.out.set _ _ _ _, ko_setk K6.out G6.out.b6 _ _ _ _, OK.out, fun r hr => HAP.out r (ApR.step HD.out (by rw [HTT.out]; exact HF.out) HED.out hr), by have := HLN.out; have := HTL.out; have := HN.out; omega, by rw [← HAA.out, List.length_append]; have := HAL.out; have := HN.out; omega, by have := HSZ.out; have := HO4.out; have := HDS.out; have := HLN.out; have := HN.out; omega, by have := HEE.out; have := HO4.out; omega, by have := HEE.out; have := HO4.out; omega, HPX2.out⟩
              case measure => first | (simp [intOf]; done) | (simp [intOf]; omega)
        · have HF := Hid.mk' (HAP.out none (ApR.stop HD.out (by rw [HTT.out, HDE.out]; exact decide_eq_false hne)))
          have hnb : (l1 == d.old) = false := by simpa using hne
          go_quiet (fail)
          have G3 := Hid.mk' (G2.out.keep (below_drewN w2 nq))
          have Y3 := Hid.mk' (Y2.out.keep (below_drewN w2 nq))
          have K3 := Hid.mk' (K2.out.keep (below_drewN w2 nq))
          generalize w2.drewN nq = w3 at *
          clear G2 Y2 K2
          have b0 := G3.out.b2.cell (j := 0) rfl
          have b1 := G3.out.b2.cell (j := 1) rfl
          have b2 := G3.out.b2.cell (j := 2) rfl
          have b3 := G3.out.b2.cell (j := 3) rfl
          have g0 := G3.out.b4.cell (j := 0) rfl
          have g1 := G3.out.b4.cell (j := 1) rfl
          have g2 := G3.out.b4.cell (j := 2) rfl
          have g3 := G3.out.b4.cell (j := 3) rfl
          have q0 := G3.out.b4.frozen 0
          have q1 := G3.out.b4.frozen 1
          have q2 := G3.out.b4.frozen 2
          have q3 := G3.out.b4.frozen 3
          have gz := G3.out.b4.lt
          go_wp2
          all_goals exact bodyPost_ret (v := .tuple #[.agg #[.slice a0 O.length c0, .slice a1 A.length c1, .slice ar t.size cr, .int .i64 E], .int .i64 170]) (by simp [results, Tryz.results38, go_sem, g0, g1, g2, g3]) rfl ⟨none, HF.out, a1, c1, ar, cr, rfl, (ko_set4 (K.out.keep G3.out.be) G3.out.b4 G3.out.be _ _ _ _).1, (ko_set4 (K.out.keep G3.out.be) G3.out.b4 G3.out.be _ _ _ _).2, fun _ h => .inl h⟩
      · have RP := conv_drew (rd_part RV.out hxy hyT htx (dv - x))
        rw [← hl1] at RP
        clear hl1
        by_cases hne : l1 = d.old
        · have HF := Hid.mk' (show edB T' d = true by rw [HDE.out]; exact decide_eq_true hne)
          rw [hne] at RP
          go_quiet (fail)
          have G3 := Hid.mk' (G2.out.keep (below_drewN w2 nq))
          have Y3 := Hid.mk' (Y2.out.keep (below_drewN w2 nq))
          have K3 := Hid.mk' (K2.out.keep (below_drewN w2 nq))
          generalize w2.drewN nq = w3 at *
          clear G2 Y2 K2
          have u0 := Y3.out.cell (j := 0) rfl
          have u1 := Y3.out.cell (j := 1) rfl
          have b0 := G3.out.b6.cell (j := 0) rfl
          have b1 := G3.out.b6.cell (j := 1) rfl
          have b2 := G3.out.b6.cell (j := 2) rfl
          have b3 := G3.out.b6.cell (j := 3) rfl
          clear RO RP
          by_cases hoz : d.old.length = 0
          · have hn0 : ¬ (0 : Int) < (d.old.length : Int) := by omega
            have hn1 : ¬ 0 < d.old.length := by omega
            have HOU : Hid (OuR O A' t' d.at' d.old.length t') := by unfold Hid OuR; rw [if_pos hoz]
            have HC3 : Hid (cnt d.old.length E' = E') := by unfold Hid cnt; rw [if_pos hoz]
            have HC4 : Hid (E' ≤ E' ∧ E' ≤ E' + 1) := by unfold Hid; omega
            clear hoz
            go_upto_region 11 with fail
            obtain ⟨w5, hw5⟩ : ∃ w5, w5 = w3 := ⟨_, rfl⟩
            rw [← hw5] at G3 K3 Y3 ⊢
            have G5 := G3
            have K5 := K3
            have Y5 := Y3
            clear G3 K3 Y3 hw5 u0 u1 b0 b1 b2 b3
            obtain ⟨hw1, hg1, ht1, hq1⟩ := HOU.out.ok HW.out HG.out (by rw [HTT.out]; have := hTz.out; omega) (by rw [HX.out]; omega)
            have HT1 : Hid ((txt O A' t'.list).length + d.old.length = T'.length) := by
              unfold Hid
              have e1 := congrArg List.length ht1
              have e2 := congrArg List.length HTT.out
              simp only [List.length_append, List.length_take, List.length_drop] at e1
              have := HY.out
              have := HX.out
              omega
            have HW1 := Hid.mk' hw1
            have HG1 := Hid.mk' hg1
            have HS1 : Hid (t'.size ≤ 524280) := by
              unfold Hid
              have s1 := Tr.size_list t'
              have s2 := Tr.size_list t'
              have := HSZ.out
              have := HPT.out
              have := HT1.out
              have := size_txt hg1
              split at hq1 <;> omega
            have HB1 := Hid.mk' (byt_txt hg1)
            clear hw1 hg1 ht1 hq1
            have u2 := Y5.out.cell (j := 2) rfl
            have u0 := Y5.out.cell (j := 0) rfl
            have b0 := G5.out.b6.cell (j := 0) rfl
            have b1 := G5.out.b6.cell (j := 1) rfl
            have b2 := G5.out.b6.cell (j := 2) rfl
            have b3 := G5.out.b6.cell (j := 3) rfl
            by_cases hnz : d.new.length = 0
            · have hn0 : ¬ (0 : Int) < (d.new.length : Int) := by omega
              have hn1 : ¬ 0 < d.new.length := by omega
              have HNE := Hid.mk' hnz
              have HED : Hid (EdR O A' t' E' d A' t' E') := ⟨t', HOU.out, by unfold PuR; rw [if_pos hnz], by rw [List.length_eq_zero_iff.1 hnz, List.append_nil], by rw [HC3.out]; unfold cnt; rw [if_pos hnz]⟩
              clear hnz
              obtain ⟨o1, o2, o3, o4, o5, o6, o7⟩ := HED.out.ok (by rw [HTT.out]; exact HF.out) HW.out HG.out (by rw [HTT.out]; have := HTL.out; have := HN.out; omega) (by have := HAL.out; have := HN.out; omega)
              replace o3 := o3.trans (congrArg (fun z => edT z d) HTT.out)
              replace o4 : t'.size ≤ t'.size + dl d := by have s1 := Tr.size_list t'; have s2 := Tr.size_list t'; omega
              have OK := Hid.mk' (And.intro o1 (And.intro o2 o3))
              have HO4 := Hid.mk' (And.intro o4 (And.intro o6 o7))
              have HO5 := Hid.mk' o5
              have HLN := Hid.mk' (edT_len HF.out)
              clear o1 o2 o3 o4 o5 o6 o7
              go_wp2
              go_roundw
              case rel => exact ⟨i + 1, A', edT T' d, t', E', x1, d1, xr, dr, by go_num, by omega, G5.out, K5.out, OK.out, fun r hr => HAP.out r (ApR.step HD.out (by rw [HTT.out]; exact HF.out) HED.out hr), by have := HLN.out; have := HTL.out; have := HN.out; omega, by rw [HO5.out, List.length_append]; have := HAL.out; have := HN.out; omega, by have := HSZ.out; have := HO4.out; have := HDS.out; have := HLN.out; have := HN.out; omega, by have := HEE.out; have := HO4.out; omega, by have := HEE.out; have := HO4.out; omega, HPX.out⟩
              case measure => first | (simp [intOf]; done) | (simp [intOf]; omega)
            · have hn0 : (0 : Int) < (d.new.length : Int) := by omega
              have hn1 : 0 < d.new.length := by omega
              have HNE := Hid.mk' hnz
              have D3 := Hid.mk' (rput_any a0 x1 xr p2 c0 d1 dr pq2 E' O A' d.new base (Pr xr) t' x w5 K5.out.kr.1 K5.out.kr.2 (R2.out.keep G5.out.be) (show Hid (d.new ≠ []) from fun h => hnz (by rw [h]; rfl)) HW1 HG1 HS1 hx0 (by rw [HB1.out]; have := HT1.out; have := HY.out; omega) (show Hid ((txt O A' t'.list).length + d.new.length ≤ 1048575) by unfold Hid; have := HT1.out; have := HTL.out; have := HN.out; omega) (by have := HAL.out; have := HN.out; omega) hbO (by have := HEE.out; have := he.out; have := HC4.out; omega))
              clear hnz
              go_wp2_with fail
              refine D3.out.mono ?_
              rintro e9 w6 ⟨t2, x2, d2, xr2, dr2, hp, rfl, hA', hR', hb6⟩
              have G6 := Hid.mk' (G5.out.keep hb6)
              have K6 := Hid.mk' (put_ko K5.out hb6 (Nat.le_trans hB.out G5.out.be.size) hA' hR')
              have HED : Hid (EdR O A' t' E' d (A' ++ d.new) t2 (E' + 1)) := ⟨t', HOU.out, by unfold PuR; rw [if_neg HNE.out, HX.out]; exact hp, rfl, by rw [HC3.out]; unfold cnt; rw [if_neg HNE.out]⟩
              have HPX2 : Hid (∀ b, Pr x2 b → Pr a1 b ∨ w.heap.size ≤ b) := fun b h => .inr (Nat.le_trans G5.out.be.size (own_prl hA' h))
              clear hp hA' hR' hb6 D3 b0 b1 b2 b3 u0 u2
              obtain ⟨o1, o2, o3, o4, o5, o6, o7⟩ := HED.out.ok (by rw [HTT.out]; exact HF.out) HW.out HG.out (by rw [HTT.out]; have := HTL.out; have := HN.out; omega) (by have := HAL.out; have := HN.out; omega)
              replace o3 := o3.trans (congrArg (fun z => edT z d) HTT.out)
              replace o4 : t2.size ≤ t'.size + dl d := by have s1 := Tr.size_list t2; have s2 := Tr.size_list t'; omega
              have OK := Hid.mk' (And.intro o1 (And.intro o2 o3))
              have HO4 := Hid.mk' (And.intro o4 (And.intro o6 o7))
              have HO5 := Hid.mk' o5
              have HLN := Hid.mk' (edT_len HF.out)
              clear o1 o2 o3 o4 o5 o6 o7
              obtain ⟨AL, hAL⟩ : ∃ AL, A' ++ d.new = AL := ⟨_, rfl⟩
              rw [hAL] at K6 HED OK HO5 ⊢
              have HAA := Hid.mk' hAL
              clear hAL
              obtain ⟨e4, he4⟩ : ∃ e4, E' + 1 = e4 := ⟨_, rfl⟩
              rw [he4] at HED HO4 ⊢
              clear he4
              have g0 := G6.out.b6.cell (j := 0) rfl
              have g1 := G6.out.b6.cell (j := 1) rfl
              have g2 := G6.out.b6.cell (j := 2) rfl
              have g3 := G6.out.b6.cell (j := 3) rfl
              have q0 := G6.out.b6.frozen 0
              have q1 := G6.out.b6.frozen 1
              have q2 := G6.out.b6.frozen 2
              have q3 := G6.out.b6.frozen 3
              have gz := G6.out.b6.lt
              go_wp2
              go_roundw
              case rel => exact ⟨i + 1, AL, edT T' d, t2, e4, x2, d2, xr2, dr2, by go_num, by omega, G6.out.set _ _ _ _, ko_setk K6.out G6.out.b6 _ _ _ _, OK.out, fun r hr => HAP.out r (ApR.step HD.out (by rw [HTT.out]; exact HF.out) HED.out hr), by have := HLN.out; have := HTL.out; have := HN.out; omega, by rw [← HAA.out, List.length_append]; have := HAL.out; have := HN.out; omega, by have := HSZ.out; have := HO4.out; have := HDS.out; have := HLN.out; have := HN.out; omega, by have := HEE.out; have := HO4.out; omega, by have := HEE.out; have := HO4.out; omega, HPX2.out⟩
              case measure => first | (simp [intOf]; done) | (simp [intOf]; omega)
          · have hn0 : (0 : Int) < (d.old.length : Int) := by omega
            have hn1 : 0 < d.old.length := by omega
            have D2 := Hid.mk' (rout_any a0 x1 xr c0 d1 dr E' O A' base (Pr xr) t' (x : Int) (y : Int) w3 K3.out.kr.1 K3.out.kr.2 HW HG (show Hid (t'.size ≤ 524280) by unfold Hid; have := HSZ.out; have := HPT.out; omega) hx0 hxyI (by rw [byt_txt HG.out, HTT.out]; omega) (show Hid ((txt O A' t'.list).length ≤ 1048575) by unfold Hid; rw [HTT.out]; exact hTz.out) (by have := HAL.out; omega) hbO (by have := HEE.out; have := he.out; omega))
            go_wp2_with fail
            refine D2.out.mono ?_
            rintro e9 w4 ⟨t1, xr1, dr1, hp, rfl, hR', hb4⟩
            have G4 := Hid.mk' (G3.out.keep hb4)
            have Y4 := Hid.mk' (Y3.out.keep hb4)
            have K4 : Hid (Ko w4 base a0 c0 x1 d1 xr1 dr1 O A' t1) := ⟨Ab.own_keep K3.out.o hb4, Ab.own_keep K3.out.a hb4, Rk.own_lower hR' (Nat.le_trans hB.out G3.out.be.size)⟩
            have HOU : Hid (OuR O A' t' d.at' d.old.length t1) := by
              unfold Hid OuR
              rw [if_neg hoz, HX.out, show (x : Int) + (d.old.length : Int) = (y : Int) from by have := HY.out; omega]
              exact hp
            obtain ⟨e3, he3⟩ : ∃ e3, E' + 1 = e3 := ⟨_, rfl⟩
            rw [he3]
            have HC3 : Hid (cnt d.old.length E' = e3) := by unfold Hid cnt; rw [if_neg hoz]; exact he3
            have HC4 : Hid (E' ≤ e3 ∧ e3 ≤ E' + 1) := by unfold Hid; omega
            have g0 := G4.out.b6.cell (j := 0) rfl
            have g1 := G4.out.b6.cell (j := 1) rfl
            have g2 := G4.out.b6.cell (j := 2) rfl
            have g3 := G4.out.b6.cell (j := 3) rfl
            have q0 := G4.out.b6.frozen 0
            have q1 := G4.out.b6.frozen 1
            have q2 := G4.out.b6.frozen 2
            have q3 := G4.out.b6.frozen 3
            have gz := G4.out.b6.lt
            clear hp hR' hb4 D2 G3 K3 Y3 u0 u1 b0 b1 b2 b3 hoz he3
            go_upto_region 11 with fail
            have G5 := Hid.mk' (G4.out.set (.slice a0 O.length c0) (.slice x1 A'.length d1) (.slice xr1 t1.size dr1) (.int .i64 e3))
            have K5 := Hid.mk' (ko_setk K4.out G4.out.b6 (.slice a0 O.length c0) (.slice x1 A'.length d1) (.slice xr1 t1.size dr1) (.int .i64 e3))
            have Y5 := Hid.mk' (blk_off (j := 3) (blk_off (j := 2) (blk_off (j := 1) (blk_off (B := w.heap.size + 2) (j := 0) Y4.out hwr.out (.slice a0 O.length c0)) hwr.out (.slice x1 A'.length d1)) hwr.out (.slice xr1 t1.size dr1)) hwr.out (.int .i64 e3))
            generalize (((w4.setCell ⟨w.heap.size + 2, 0, none⟩ (.slice a0 O.length c0)).setCell ⟨w.heap.size + 2, 1, none⟩ (.slice x1 A'.length d1)).setCell ⟨w.heap.size + 2, 2, none⟩ (.slice xr1 t1.size dr1)).setCell ⟨w.heap.size + 2, 3, none⟩ (.int .i64 e3) = w5 at *
            clear G4 K4 Y4 g0 g1 g2 g3 q0 q1 q2 q3 gz
            obtain ⟨hw1, hg1, ht1, hq1⟩ := HOU.out.ok HW.out HG.out (by rw [HTT.out]; have := hTz.out; omega) (by rw [HX.out]; omega)
            have HT1 : Hid ((txt O A' t1.list).length + d.old.length = T'.length) := by
              unfold Hid
              have e1 := congrArg List.length ht1
              have e2 := congrArg List.length HTT.out
              simp only [List.length_append, List.length_take, List.length_drop] at e1
              have := HY.out
              have := HX.out
              omega
            have HW1 := Hid.mk' hw1
            have HG1 := Hid.mk' hg1
            have HS1 : Hid (t1.size ≤ 524280) := by
              unfold Hid
              have s1 := Tr.size_list t1
              have s2 := Tr.size_list t'
              have := HSZ.out
              have := HPT.out
              have := HT1.out
              have := size_txt hg1
              split at hq1 <;> omega
            have HB1 := Hid.mk' (byt_txt hg1)
            clear hw1 hg1 ht1 hq1
            have u2 := Y5.out.cell (j := 2) rfl
            have u0 := Y5.out.cell (j := 0) rfl
            have b0 := G5.out.b6.cell (j := 0) rfl
            have b1 := G5.out.b6.cell (j := 1) rfl
            have b2 := G5.out.b6.cell (j := 2) rfl
            have b3 := G5.out.b6.cell (j := 3) rfl
            by_cases hnz : d.new.length = 0
            · have hn0 : ¬ (0 : Int) < (d.new.length : Int) := by omega
              have hn1 : ¬ 0 < d.new.length := by omega
              have HNE := Hid.mk' hnz
              have HED : Hid (EdR O A' t' E' d A' t1 e3) := ⟨t1, HOU.out, by unfold PuR; rw [if_pos hnz], by rw [List.length_eq_zero_iff.1 hnz, List.append_nil], by rw [HC3.out]; unfold cnt; rw [if_pos hnz]⟩
              clear hnz
              obtain ⟨o1, o2, o3, o4, o5, o6, o7⟩ := HED.out.ok (by rw [HTT.out]; exact HF.out) HW.out HG.out (by rw [HTT.out]; have := HTL.out; have := HN.out; omega) (by have := HAL.out; have := HN.out; omega)
              replace o3 := o3.trans (congrArg (fun z => edT z d) HTT.out)
              replace o4 : t1.size ≤ t'.size + dl d := by have s1 := Tr.size_list t1; have s2 := Tr.size_list t'; omega
              have OK := Hid.mk' (And.intro o1 (And.intro o2 o3))
              have HO4 := Hid.mk' (And.intro o4 (And.intro o6 o7))
              have HO5 := Hid.mk' o5
              have HLN := Hid.mk' (edT_len HF.out)
              clear o1 o2 o3 o4 o5 o6 o7
              go_wp2
              go_roundw
              case rel => exact ⟨i + 1, A', edT T' d, t1, e3, x1, d1, xr1, dr1, by go_num, by omega, G5.out, K5.out, OK.out, fun r hr => HAP.out r (ApR.step HD.out (by rw [HTT.out]; exact HF.out) HED.out hr), by have := HLN.out; have := HTL.out; have := HN.out; omega, by rw [HO5.out, List.length_append]; have := HAL.out; have := HN.out; omega, by have := HSZ.out; have := HO4.out; have := HDS.out; have := HLN.out; have := HN.out; omega, by have := HEE.out; have := HO4.out; omega, by have := HEE.out; have := HO4.out; omega, HPX.out⟩
              case measure => first | (simp [intOf]; done) | (simp [intOf]; omega)
            · have hn0 : (0 : Int) < (d.new.length : Int) := by omega
              have hn1 : 0 < d.new.length := by omega
              have HNE := Hid.mk' hnz
              have D3 := Hid.mk' (rput_any a0 x1 xr1 p2 c0 d1 dr1 pq2 e3 O A' d.new base (Pr xr1) t1 x w5 K5.out.kr.1 K5.out.kr.2 (R2.out.keep G5.out.be) (show Hid (d.new ≠ []) from fun h => hnz (by rw [h]; rfl)) HW1 HG1 HS1 hx0 (by rw [HB1.out]; have := HT1.out; have := HY.out; omega) (show Hid ((txt O A' t1.list).length + d.new.length ≤ 1048575) by unfold Hid; have := HT1.out; have := HTL.out; have := HN.out; omega) (by have := HAL.out; have := HN.out; omega) hbO (by have := HEE.out; have := he.out; have := HC4.out; omega))
              clear hnz
              go_wp2_with fail
              refine D3.out.mono ?_
              rintro e9 w6 ⟨t2, x2, d2, xr2, dr2, hp, rfl, hA', hR', hb6⟩
              have G6 := Hid.mk' (G5.out.keep hb6)
              have K6 := Hid.mk' (put_ko K5.out hb6 (Nat.le_trans hB.out G5.out.be.size) hA' hR')
              have HED : Hid (EdR O A' t' E' d (A' ++ d.new) t2 (e3 + 1)) := ⟨t1, HOU.out, by unfold PuR; rw [if_neg HNE.out, HX.out]; exact hp, rfl, by rw [HC3.out]; unfold cnt; rw [if_neg HNE.out]⟩
              have HPX2 : Hid (∀ b, Pr x2 b → Pr a1 b ∨ w.heap.size ≤ b) := fun b h => .inr (Nat.le_trans G5.out.be.size (own_prl hA' h))
              clear hp hA' hR' hb6 D3 b0 b1 b2 b3 u0 u2
              obtain ⟨o1, o2, o3, o4, o5, o6, o7⟩ := HED.out.ok (by rw [HTT.out]; exact HF.out) HW.out HG.out (by rw [HTT.out]; have := HTL.out; have := HN.out; omega) (by have := HAL.out; have := HN.out; omega)
              replace o3 := o3.trans (congrArg (fun z => edT z d) HTT.out)
              replace o4 : t2.size ≤ t'.size + dl d := by have s1 := Tr.size_list t2; have s2 := Tr.size_list t'; omega
              have OK := Hid.mk' (And.intro o1 (And.intro o2 o3))
              have HO4 := Hid.mk' (And.intro o4 (And.intro o6 o7))
              have HO5 := Hid.mk' o5
              have HLN := Hid.mk' (edT_len HF.out)
              clear o1 o2 o3 o4 o5 o6 o7
              obtain ⟨AL, hAL⟩ : ∃ AL, A' ++ d.new = AL := ⟨_, rfl⟩
              rw [hAL] at K6 HED OK HO5 ⊢
              have HAA := Hid.mk' hAL
              clear hAL
              obtain ⟨e4, he4⟩ : ∃ e4, e3 + 1 = e4 := ⟨_, rfl⟩
              rw [he4] at HED HO4 ⊢
              clear he4
              have g0 := G6.out.b6.cell (j := 0) rfl
              have g1 := G6.out.b6.cell (j := 1) rfl
              have g2 := G6.out.b6.cell (j := 2) rfl
              have g3 := G6.out.b6.cell (j := 3) rfl
              have q0 := G6.out.b6.frozen 0
              have q1 := G6.out.b6.frozen 1
              have q2 := G6.out.b6.frozen 2
              have q3 := G6.out.b6.frozen 3
              have gz := G6.out.b6.lt
              go_wp2
              go_roundw
              case rel => exact ⟨i + 1, AL, edT T' d, t2, e4, x2, d2, xr2, dr2, by go_num, by omega, G6.out.set _ _ _ _, ko_setk K6.out G6.out.b6 _ _ _ _, OK.out, fun r hr => HAP.out r (ApR.step HD.out (by rw [HTT.out]; exact HF.out) HED.out hr), by have := HLN.out; have := HTL.out; have := HN.out; omega, by rw [← HAA.out, List.length_append]; have := HAL.out; have := HN.out; omega, by have := HSZ.out; have := HO4.out; have := HDS.out; have := HLN.out; have := HN.out; omega, by have := HEE.out; have := HO4.out; omega, by have := HEE.out; have := HO4.out; omega, HPX2.out⟩
              case measure => first | (simp [intOf]; done) | (simp [intOf]; omega)
        · have HF := Hid.mk' (HAP.out none (ApR.stop HD.out (by rw [HTT.out, HDE.out]; exact decide_eq_false hne)))
          have hnb : (l1 == d.old) = false := by simpa using hne
          go_quiet (fail)
          have G3 := Hid.mk' (G2.out.keep (below_drewN w2 nq))
          have Y3 := Hid.mk' (Y2.out.keep (below_drewN w2 nq))
          have K3 := Hid.mk' (K2.out.keep (below_drewN w2 nq))
          generalize w2.drewN nq = w3 at *
          clear G2 Y2 K2
          have b0 := G3.out.b2.cell (j := 0) rfl
          have b1 := G3.out.b2.cell (j := 1) rfl
          have b2 := G3.out.b2.cell (j := 2) rfl
          have b3 := G3.out.b2.cell (j := 3) rfl
          have g0 := G3.out.b4.cell (j := 0) rfl
          have g1 := G3.out.b4.cell (j := 1) rfl
          have g2 := G3.out.b4.cell (j := 2) rfl
          have g3 := G3.out.b4.cell (j := 3) rfl
          have q0 := G3.out.b4.frozen 0
          have q1 := G3.out.b4.frozen 1
          have q2 := G3.out.b4.frozen 2
          have q3 := G3.out.b4.frozen 3
          have gz := G3.out.b4.lt
          go_wp2
          all_goals exact bodyPost_ret (v := .tuple #[.agg #[.slice a0 O.length c0, .slice a1 A.length c1, .slice ar t.size cr, .int .i64 E], .int .i64 170]) (by simp [results, Tryz.results38, go_sem, g0, g1, g2, g3]) rfl ⟨none, HF.out, a1, c1, ar, cr, rfl, (ko_set4 (K.out.keep G3.out.be) G3.out.b4 G3.out.be _ _ _ _).1, (ko_set4 (K.out.keep G3.out.be) G3.out.b4 G3.out.be _ _ _ _).2, fun _ h => .inl h⟩
    · obtain rfl : i = es.length := by omega
      have HF := Hid.mk' (HAP.out (some (A', t', E')) (by rw [List.drop_length]; rfl))
      have him : ¬ ((es.length : Int) < (es.length : Int)) := by omega
      have b0 := G.out.b6.cell (j := 0) rfl
      have b1 := G.out.b6.cell (j := 1) rfl
      have b2 := G.out.b6.cell (j := 2) rfl
      have b3 := G.out.b6.cell (j := 3) rfl
      have g0 := G.out.b4.cell (j := 0) rfl
      have g1 := G.out.b4.cell (j := 1) rfl
      have g2 := G.out.b4.cell (j := 2) rfl
      have g3 := G.out.b4.cell (j := 3) rfl
      have q0 := G.out.b4.frozen 0
      have q1 := G.out.b4.frozen 1
      have q2 := G.out.b4.frozen 2
      have q3 := G.out.b4.frozen 3
      have gz := G.out.b4.lt
      go_wp2
      all_goals exact bodyPost_ret (v := .tuple #[.agg #[.slice a0 O.length c0, .slice x1 A'.length d1, .slice xr t'.size dr, .int .i64 E'], .int .i64 0]) (by simp [results, Tryz.results38, go_sem, g0, g1, g2, g3]) rfl ⟨_, HF.out, x1, d1, xr, dr, rfl, (ko_set4 KK.out G.out.b4 G.out.be _ _ _ _).1, (ko_set4 KK.out G.out.b4 G.out.be _ _ _ _).2, HPX.out⟩

end Go.Proofs.YtmhpeppbhjpkiaaGreat

