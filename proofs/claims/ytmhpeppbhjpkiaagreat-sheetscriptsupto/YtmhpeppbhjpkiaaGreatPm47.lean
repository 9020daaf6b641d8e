/- The law's done, at an Apply. -/
import Derived.Test.YtmhpeppbhjpkiaaGreatPm46
import Derived.Test.YtmhpeppbhjpkiaaGreatPm40
namespace Go.Proofs.YtmhpeppbhjpkiaaGreat
open Go.RowKit

theorem cq_fr {X : Nat → Prop} {w0 W W' : World} {B : Nat} {xs : Cpl} (h : Cq W B xs) (hf : Fr X w0 W W') (hX : ∀ b, B ≤ b → b < W.heap.size → X b) : Cq W' B xs := ⟨fun i x hx => by
  obtain ⟨h1, h2, h3⟩ := h.each i x hx
  have aux : ∀ {g cap : Nat} {l : List UInt8}, Ln W B g cap l → Ln W' B g cap l := fun {g cap l} hl => own_fr hl hf (.inl fun b hb => by
    have e : g = b := by simpa [Value.ownBlock] using hb
    rw [← e]; exact hX g hl.lt.1 hl.lt.2)
  exact ⟨aux h1, aux h2, h3⟩, h.inc⟩

set_option maxRecDepth 8000 in
set_option maxHeartbeats 4000000 in
theorem done2 (w0 W : World) (sb sb2 : Nat) (a0 a1 ar : Option Addr) (c0 c1 cr : Nat) (E : Int) (O A : List UInt8) (base : Nat) (t : Tr) (O2 A2 : List UInt8) (t2 : Tr) (e2 : Int) (x y : Int) (vp : Value) (ae : Option Addr) (ce : Nat) (es : List Ed) (hEd : Hid (Eds w0 ae es)) (hz : Hid ((txt O A t.list).length + nsum es ≤ 1048574)) (hA : Hid (A.length + nsum es ≤ 1048576)) (hold : Hid (∀ d ∈ es, d.old.length ≤ 1048576 ∧ True)) (hnew : Hid (∀ d ∈ es, d.new.length ≤ 1048576)) (hn : Hid (t.size + dsum es ≤ 524278 ∨ (txt O A t.list).length + nsum es ≤ 524278)) (hml : Hid (es.length ≤ 524280)) (heE : Hid (E + 2 * es.length ≤ 4611686018427387904)) (hD : Hid (Duo (Xk a0 a1) w0 W sb O A t E sb2 O2 A2 t2 e2)) (KK : Hid (Ko W base a0 c0 a1 c1 ar cr O A t)) (hB : Hid (base ≤ w0.heap.size)) (_hs : Hid (t.size ≤ 524280)) (hbO : O.length ≤ 1048576) (hE : 0 ≤ E ∧ E ≤ 4611686018427387904) :
    Calls Tryz.prog 11 #[.pointer (some ⟨sb, 0, none⟩), .agg #[.slice a0 O.length c0, .slice a1 A.length c1, .slice ar t.size cr, .int .i64 E], .agg #[.int .i64 2, .int .i64 x, .int .i64 y, vp, .slice ae es.length ce]] W fun e w' => ∃ r, ApR O A t E es r ∧ DonG w0 W base sb O A t E sb2 O2 A2 t2 e2 a0 c0 r e w' := by
  have hel : es.length ≤ 524280 := hml.out
  have B0 := Hid.mk' (bAlloc (bAA W (.cells #[.slice a0 O.length c0, .slice a1 A.length c1, .slice ar t.size cr, .int .i64 E] 31) (.cells #[.int .i64 2, .int .i64 x, .int .i64 y, vp, .slice ae es.length ce] 35)) (.cells #[.slice none 0 0, .slice none 0 0, .slice none 0 0, .int .i64 0] 31))
  have G0 := Hid.mk' (Bd.new W #[.slice a0 O.length c0, .slice a1 A.length c1, .slice ar t.size cr, .int .i64 E] #[.int .i64 2, .int .i64 x, .int .i64 y, vp, .slice ae es.length ce])
  have C36 := Hid.mk' (copied_any ae ce es _ ((hEd.out.keep hD.out.bel).keep B0.out) (by omega) (fun d hd => ⟨(hold.out d hd).1, hnew.out d hd⟩))
  go_enter Tryz.func11, Tryz.ntmps11
  go_wp2_with fail
  refine C36.out.mono ?_
  rintro e w2 ⟨v, xs, rfl, hmap, o2, cq2, b2⟩
  obtain ⟨av, cv, ev⟩ := own_shape' o2
  subst ev
  have HM := Hid.mk' hmap
  have HLn : Hid (es.length = xs.length) := by unfold Hid; rw [← hmap, List.length_map]
  have B2 := Hid.mk' (bT B0.out b2)
  have FB : Hid (Fr (fun _ => False) w0 W w2) := Fr.of_below B2.out
  have D2 := Hid.mk' (hD.out.keep B2.out)
  have K2 := Hid.mk' (KK.out.keep B2.out)
  have G2 := Hid.mk' (G0.out.keep b2)
  have R2 : Hid (w2.ownsRow (W.heap.size + 3) 83 3 (.slice av es.length cv) es.length (edcs xs)) := by unfold Hid; have h := o2; simp only [World.size_alloc] at h; exact h
  have CQ2 : Hid (Cq w2 (W.heap.size + 3) xs) := by unfold Hid; have h := cq2; simp only [World.size_alloc] at h; exact h
  clear o2 b2 B0 G0 C36 cq2 hmap
  obtain ⟨Kl, hLz, _, hXin, _, hstep⟩ := D2.out.step
  have HST := Hid.mk' hstep
  have EK : Hid (EdK Kl av es) := by
    unfold Hid
    have h := cq_edk CQ2.out R2.out HLn.out (K := Kl) (fun b o hb hB => hXin b o (.inr ⟨by omega, heap_lt hb⟩) hb)
    rw [HM.out] at h
    exact h
  have C37 := Hid.mk' (Apply_tr w0 sb O A t E av cv es w2 hLz EK hbO hz hA (fun d hd => (hold.out d hd).1) (And.intro hE.1 heE.out) (show Hid (es.length ≤ 1048576) by unfold Hid; omega))
  have k0 := G2.out.b4.cell (j := 0) rfl
  have k1 := G2.out.b4.cell (j := 1) rfl
  have k2 := G2.out.b4.cell (j := 2) rfl
  have k3 := G2.out.b4.cell (j := 3) rfl
  have p0 := G2.out.b5.cell (j := 0) rfl
  have p1 := G2.out.b5.cell (j := 1) rfl
  have p2 := G2.out.b5.cell (j := 2) rfl
  have p3 := G2.out.b5.cell (j := 3) rfl
  have p4 := G2.out.b5.cell (j := 4) rfl
  clear hstep hLz hXin
  go_wp2_with fail
  refine C37.out.mono ?_
  clear k0 k1 k2 k3 p0 p1 p2 p3 p4
  rintro e w3 ⟨r, hr, rfl, hgave⟩
  obtain ⟨hD3, hF3⟩ := HST.out w3 _ _ _ (apgt_get hgave)
  have D3 := Hid.mk' hD3
  have F3 := Hid.mk' hF3
  have HR := Hid.mk' hr
  have G3 := Hid.mk' (G2.out.fr hF3)
  have K3 := Hid.mk' (K2.out.fr hF3 (fun b hb => .inl hb))
  have R3 := Hid.mk' (own_fr R2.out hF3 (.inr (by decide)))
  have CQ3 := Hid.mk' (cq_fr CQ2.out hF3 (fun b hb hl => .inr ⟨by omega, hl⟩))
  have hB3 : Hid (base ≤ w3.heap.size) := Nat.le_trans hB.out hD3.bel.size
  obtain ⟨hwt, hgt⟩ := hD.out.lz.wh
  have C38 := Hid.mk' (rApply_tr a0 a1 ar ae c0 c1 cr ce E O A base t es w3 K3 hB3 (hEd.out.keep hD3.bel) hwt hgt hn hml (show Hid ((txt O A t.list).length + nsum es ≤ 1048575) by unfold Hid; have := hz.out; omega) hA hbO hold (And.intro hE.1 heE.out))
  have HGT := Hid.mk' hgt
  have HWT := Hid.mk' hwt
  have k0 := G3.out.b4.cell (j := 0) rfl
  have k1 := G3.out.b4.cell (j := 1) rfl
  have k2 := G3.out.b4.cell (j := 2) rfl
  have k3 := G3.out.b4.cell (j := 3) rfl
  have p0 := G3.out.b5.cell (j := 0) rfl
  have p1 := G3.out.b5.cell (j := 1) rfl
  have p2 := G3.out.b5.cell (j := 2) rfl
  have p3 := G3.out.b5.cell (j := 3) rfl
  have p4 := G3.out.b5.cell (j := 4) rfl
  clear hgave hD3 hF3 hr C37 HST hwt hgt D2 K2 G2 EK
  generalize hz0 : apV r = z0 at *
  have HZ0 : Hid (erV r 170 = z0) := hz0
  clear hz0
  go_wp2_with fail
  refine C38.out.mono ?_
  intro e w4 hq
  obtain ⟨r', hr', hq⟩ := hq
  obtain ⟨x1, d1, xr, dr, rfl, k4, b4, hpx⟩ := redr_get hq
  obtain rfl := ApR.one es A t E r r' HWT.out HGT.out (by have := hz.out; omega) hA.out HR.out hr'
  have HX4 : Hid (∀ b, Xk a0 x1 b → (Xk a0 a1 b ∨ (W.heap.size ≤ b ∧ b < w2.heap.size)) ∨ (w3.heap.size ≤ b ∧ b < w4.heap.size)) := by
    unfold Hid
    rintro b (hb | hb)
    · exact .inl (.inl (.inl hb))
    · rcases hpx b hb with h | h
      · exact .inl (.inl (.inr h))
      · exact .inr ⟨h, (k4.a.lt b (pr_own hb)).2⟩
  have hXg : Hid (∀ g, GS xs g → ¬ Xk a0 x1 g) := by
    unfold Hid
    intro g hg
    have l2 := (GS.five CQ2.out hg).2
    have l3 := (GS.five CQ3.out hg).2
    rintro (hb | hb)
    · have := (KK.out.o.lt g (pr_own hb)).2; omega
    · rcases hpx g hb with h | h
      · have := (KK.out.a.lt g (pr_own h)).2; omega
      · omega
  have D4 := Hid.mk' (D3.out.keep b4)
  have G4 := Hid.mk' (G3.out.keep b4)
  have F4 : Hid (Fr (fun _ => False) w0 W w4) := ((FB.out.trans (F3.out.mono (fun _ h => h.elim))).trans (Fr.of_below b4))
  have K4 := Hid.mk' k4
  have R4 := Hid.mk' (own_keep' R3.out b4)
  have CQ4 := Hid.mk' (CQ3.out.keep b4)
  clear k4 b4 hpx hr' hq C38 k0 k1 k2 k3 p0 p1 p2 p3 p4 D3 G3 F3 K3 R3 CQ3
  generalize hA' : rA A t E r = A' at *
  generalize hT' : rT A t E r = t' at *
  generalize hE' : rE A t E r = E' at *
  rw [HZ0.out]
  have HAq := Hid.mk' hA'
  have HTq := Hid.mk' hT'
  have HEq := Hid.mk' hE'
  clear hA' hT' hE'
  have b5 := bAlloc (Below.refl w4.heap.size w4) (.cells #[.slice a0 O.length c0, .slice x1 A'.length d1, .slice xr t'.size dr, .int .i64 E'] 31)
  have G5 := Hid.mk' (G4.out.keep b5)
  have D5 := Hid.mk' (D4.out.keep b5)
  have K5 := Hid.mk' (K4.out.keep b5)
  have R5 := Hid.mk' (own_keep' R4.out b5)
  have CQ5 := Hid.mk' (CQ4.out.keep b5)
  have F5 := Hid.mk' (F4.out.trans (Fr.of_below b5))
  have T5 := Hid.mk' (Blk.new w4 31 #[.slice a0 O.length c0, .slice x1 A'.length d1, .slice xr t'.size dr, .int .i64 E'])
  have T5n : Hid (¬ GS xs w4.heap.size) := fun h => by have := (GS.five CQ4.out h).2.2; omega
  clear b5 G4 D4 K4 F4 R4
  go_wp2_with fail
  generalize w4.alloc (.cells #[.slice a0 O.length c0, .slice x1 A'.length d1, .slice xr t'.size dr, .int .i64 E'] 31) = w5 at *
  go_loopw [103] (fun u wr => ∃ i : Nat, i ≤ es.length ∧ u = .int .i64 i ∧ Cqf wr (W.heap.size + 3) xs i ∧ Gs (GS xs) w5 wr) (fun u _ => es.length - (intOf u).toNat)
  case atStart => exact ⟨0, Nat.zero_le _, rfl, fun k x hx _ => ⟨(CQ5.out.each k x hx).1, (CQ5.out.each k x hx).2.1⟩, Gs.refl _ _⟩
  case round =>
    obtain ⟨i, hi, rfl, hcf, hgs⟩ := hrel
    have CF := Hid.mk' hcf
    have GG := Hid.mk' hgs
    clear hcf hgs
    have D6 := Hid.mk' (D5.out.gs GG.out (fun b hb => by
      obtain ⟨f1, f2, f3⟩ := GS.five CQ2.out hb
      exact ⟨.inl (.inl (.inr ⟨by omega, f3⟩)), by have := hD.out.bel.size; omega, (GS.five CQ5.out hb).1⟩))
    have nb : Hid (∀ b, b < W.heap.size + 3 → ¬ GS xs b) := fun b hb h => by have := (GS.five CQ5.out h).2.1; omega
    have G6 : Hid (Bd W wr #[.slice a0 O.length c0, .slice a1 A.length c1, .slice ar t.size cr, .int .i64 E] #[.int .i64 2, .int .i64 x, .int .i64 y, vp, .slice ae es.length ce]) := ⟨G5.out.b4.gs GG.out (nb.out _ (by omega)), G5.out.b5.gs GG.out (nb.out _ (by omega)), G5.out.b6.gs GG.out (nb.out _ (by omega))⟩
    have R6 := Hid.mk' (own_gs R5.out GG.out (fun b hb h => by
      obtain ⟨⟨cs, hc⟩, _⟩ := GS.five CQ5.out h
      exact own_83 R5.out hc hb))
    by_cases hlt : i < es.length
    · obtain ⟨xi, hxi⟩ : ∃ xi, xs[i]? = some xi := ⟨xs[i]'(by have := HLn.out; omega), List.getElem?_eq_getElem _⟩
      obtain ⟨d, g1, k1c, g2, k2c⟩ := xi
      have HXI := Hid.mk' hxi
      have hd : es[i]? = some d := by rw [← HM.out, List.getElem?_map, hxi]; rfl
      obtain ⟨hL1, hL2⟩ := CF.out i _ hxi (Nat.le_refl _)
      have h12 : Hid (g1 < g2) := (CQ5.out.each i _ hxi).2.2
      have hyn : Hid (wr.heap.size ≠ g2) := by unfold Hid; have := hL2.lt.2; dsimp only at this; omega
      have hyn1 : Hid (wr.heap.size ≠ g1) := by unfold Hid; have := hL1.lt.2; dsimp only at this; omega
      have hod := Hid.mk' (hold.out d (List.mem_of_getElem? hd))
      have hnd := Hid.mk' (hnew.out d (List.mem_of_getElem? hd))
      obtain ⟨g, o, a1', c1', a2', c2', rfl, z0', z1', z2', r1, r2⟩ := hEd.out.cells i d hd
      obtain ⟨gp, rfl⟩ := own_pos R6.out (by omega)
      have hcell : ∀ j, j < 3 → wr.cell? ⟨gp, i * 3 + j, none⟩ = (edc d (g1, k1c, g2, k2c))[j]? := fun j hj => by
        rw [R6.out.cellAt (i * 3 + j) (by have := HLn.out; omega)]; exact edcs_at xs i _ hxi j hj
      have e0 := hcell 0 (by omega)
      have e1 := hcell 1 (by omega)
      have e2' := hcell 2 (by omega)
      simp only [edc, List.getElem?_cons_zero, List.getElem?_cons_succ, Nat.add_zero] at e0 e1 e2'
      have hi0 : (0 : Int) ≤ (i : Int) := by omega
      have him : (i : Int) < (es.length : Int) := by omega
      have b9 := bAlloc (Below.refl wr.heap.size wr) (.cells #[.int .i64 d.at', .slice (some ⟨g1, 0, none⟩) d.old.length k1c, .slice (some ⟨g2, 0, none⟩) d.new.length k2c] 83)
      have bel9 := bTl D6.out.bel b9
      have s0 := (bel9.cell (lt_cell z0')).trans z0'
      have s1 := (bel9.cell (lt_cell z1')).trans z1'
      have s2 := (bel9.cell (lt_cell z2')).trans z2'
      have YQ0 := Hid.mk' (Blk.new wr 83 #[.int .i64 d.at', .slice (some ⟨g1, 0, none⟩) d.old.length k1c, .slice (some ⟨g2, 0, none⟩) d.new.length k2c])
      have GQ0 := Hid.mk' (GG.out.keep b9)
      have CF7 := Hid.mk' (CF.out.keep b9)
      have L1a : Hid (Ln _ (W.heap.size + 3) g1 k1c d.old) := hL1.keep b9
      have L2a : Hid (Ln _ (W.heap.size + 3) g2 k2c d.new) := hL2.keep b9
      have RO1 := Hid.mk' (r1.keep bel9)
      have RO2 := Hid.mk' (r2.keep bel9)
      have p4 := (G6.out.keep b9).b5.cell (j := 4) rfl
      clear hcell hd hxi hL1 hL2 z0' z1' z2' r1 r2 b9 bel9 G6 R6 D6
      go_upto_region 24 with fail
      clear e0 e1 e2'
      generalize wr.alloc (.cells #[.int .i64 d.at', .slice (some ⟨g1, 0, none⟩) d.old.length k1c, .slice (some ⟨g2, 0, none⟩) d.new.length k2c] 83) = w7 at *
      have y0 := YQ0.out.cell (j := 0) rfl
      have y1 := YQ0.out.cell (j := 1) rfl
      have y2 := YQ0.out.cell (j := 2) rfl
      go_quiet (first | (go_at_call_of 7 (Value.slice (some ⟨g1, 0, none⟩) d.old.length k1c); exact Calls.quiet_of_same (whole_any g1 k1c a1' c1' (W.heap.size + 3) d.old _ (by have := hod.out; omega) (RO1.out.keep (below_drewN _ _)) (L1a.out.keep (below_drewN _ _)))) | (go_at_call_of 7 (Value.slice (some ⟨g2, 0, none⟩) d.new.length k2c); exact Calls.quiet_of_same (whole_any g2 k2c a2' c2' (W.heap.size + 3) d.new _ (by have := hnd.out; omega) (RO2.out.keep (below_drewN _ _)) (L2a.out.keep (below_drewN _ _)))))
      have YQ := Hid.mk' (YQ0.out.keep (below_drewN w7 nq))
      have GQ := Hid.mk' (GQ0.out.keep (below_drewN w7 nq))
      have CF8 := Hid.mk' (CF7.out.keep (below_drewN w7 nq))
      have L1q := Hid.mk' (L1a.out.keep (below_drewN w7 nq))
      have L2q := Hid.mk' (L2a.out.keep (below_drewN w7 nq))
      generalize w7.drewN nq = w8 at *
      generalize wr.heap.size = yb at *
      clear y0 y1 y2 s0 s1 s2 p4 YQ0 GQ0 CF7 L1a L2a RO1 RO2 CF GG
      have v1 := YQ.out.cell (j := 1) rfl
      have v2 := YQ.out.cell (j := 2) rfl
      go_wp2_with fail
      clear v1 v2
      go_loopw [145] (fun x wq => ∃ (j : Nat) (ys : List Value), j ≤ d.new.length ∧ x = .int .i64 j ∧ wq.ownsRow (W.heap.size + 3) 5 1 (.slice (some ⟨g2, 0, none⟩) (d.new.length + 2) k2c) (d.new.length + 2) ys ∧ (∀ u ∈ ys, ∃ z, u = .int .u8 z) ∧ w8.grownBy wq (some g2)) (fun x _ => d.new.length - (intOf x).toNat)
      case atStart => exact ⟨0, _, Nat.zero_le _, rfl, L2q.out, mk_bytes d.new, grown_refl _ _⟩
      case round =>
        obtain ⟨j, ys, hj, rfl, hw, hu, hg⟩ := hrel
        have HW := Hid.mk' hw
        have HU : Hid (∀ u ∈ ys, ∃ z, u = .int .u8 z) := hu
        have HG := Hid.mk' hg
        have YR := Hid.mk' (YQ.out.grown hg hyn.out)
        have yy1 := YR.out.cell (j := 1) rfl
        have yy2 := YR.out.cell (j := 2) rfl
        clear hw hu hg
        by_cases hlt2 : j < d.new.length
        · have hyl : ys.length = d.new.length + 2 := by have := HW.out.1; omega
          obtain ⟨z, hz9⟩ : ∃ z, wr.cell? ⟨g2, j, none⟩ = some (.int .u8 z) := by
            obtain ⟨z, hz⟩ := HU.out (ys[j]'(by omega)) (List.getElem_mem _)
            exact ⟨z, by rw [HW.out.cellAt j (by omega), List.getElem?_eq_getElem (by omega), hz]⟩
          have hf := HW.out.frozenAt j
          have hj0 : (0 : Int) ≤ (j : Int) := by omega
          have hj1 : (j : Int) < (d.new.length : Int) := by omega
          have hjb : (j : Int) ≤ 2097152 := by have := hnd.out; have := hod.out.1; omega
          go_wp2
          go_roundw
          case rel => exact ⟨j + 1, _, by omega, by go_num, (HW.out.stored j _).1, u8_set HU.out j _, grown_trans HG.out (HW.out.stored j _).2⟩
          case measure => simp [intOf]; omega
        · have hjn : ¬ (j : Int) < (d.new.length : Int) := by omega
          have Q2 := Hid.mk' (GQ.out.grown HG.out ⟨i, _, HXI.out, .inr rfl⟩)
          have L12 := Hid.mk' (L1q.out.same (HG.out.block _ L1q.out.lt.2 (fun e => by have := h12.out; simp at e; omega)))
          have CF2 := Hid.mk' (Cqf.grown CQ5.out CF8.out.next HXI.out HG.out (.inr rfl))
          obtain ⟨wm, hwm⟩ : ∃ wm, wm = wr := ⟨_, rfl⟩
          rw [← hwm] at Q2 L12 CF2 YR yy1 yy2 ⊢
          clear HW HU HG hwm
          go_wp2_with fail
          clear yy1 yy2
          go_loopw [159] (fun x wq => ∃ (j : Nat) (ys : List Value), j ≤ d.old.length ∧ x = .int .i64 j ∧ wq.ownsRow (W.heap.size + 3) 5 1 (.slice (some ⟨g1, 0, none⟩) (d.old.length + 2) k1c) (d.old.length + 2) ys ∧ (∀ u ∈ ys, ∃ z, u = .int .u8 z) ∧ wm.grownBy wq (some g1)) (fun x _ => d.old.length - (intOf x).toNat)
          case atStart => exact ⟨0, _, Nat.zero_le _, rfl, L12.out, mk_bytes d.old, grown_refl _ _⟩
          case round =>
            obtain ⟨j, ys, hj, rfl, hw, hu, hg⟩ := hrel
            have HW := Hid.mk' hw
            have HU : Hid (∀ u ∈ ys, ∃ z, u = .int .u8 z) := hu
            have HG := Hid.mk' hg
            have YR := Hid.mk' (YR.out.grown hg hyn1.out)
            have yy1 := YR.out.cell (j := 1) rfl
            have yy2 := YR.out.cell (j := 2) rfl
            clear hw hu hg
            by_cases hlt2 : j < d.old.length
            · have hyl : ys.length = d.old.length + 2 := by have := HW.out.1; omega
              obtain ⟨z, hz9⟩ : ∃ z, wr.cell? ⟨g1, j, none⟩ = some (.int .u8 z) := by
                obtain ⟨z, hz⟩ := HU.out (ys[j]'(by omega)) (List.getElem_mem _)
                exact ⟨z, by rw [HW.out.cellAt j (by omega), List.getElem?_eq_getElem (by omega), hz]⟩
              have hf := HW.out.frozenAt j
              have hj0 : (0 : Int) ≤ (j : Int) := by omega
              have hj1 : (j : Int) < (d.old.length : Int) := by omega
              have hjb : (j : Int) ≤ 2097152 := by have := hnd.out; have := hod.out.1; omega
              go_wp2
              go_roundw
              case rel => exact ⟨j + 1, _, by omega, by go_num, (HW.out.stored j _).1, u8_set HU.out j _, grown_trans HG.out (HW.out.stored j _).2⟩
              case measure => simp [intOf]; omega
            · have hjn : ¬ (j : Int) < (d.old.length : Int) := by omega
              have Q3 := Hid.mk' (Q2.out.grown HG.out ⟨i, _, HXI.out, .inl rfl⟩)
              have CF3 := Hid.mk' (Cqf.grown CQ5.out CF2.out HXI.out HG.out (.inl rfl))
              go_wp2
              go_roundw
              case rel => exact ⟨i + 1, by omega, by go_num, CF3.out, Q3.out⟩
              case measure => simp [intOf]; omega
    · have hjn : ¬ (i : Int) < (es.length : Int) := by omega
      have K6 : Hid (Ko wr base a0 c0 x1 d1 xr dr O A' t') := ⟨own_gs K5.out.o GG.out (fun b hb h => hXg.out b h (.inl (own_pr hb))), own_gs K5.out.a GG.out (fun b hb h => hXg.out b h (.inr (own_pr hb))), own_gs K5.out.r GG.out (fun b hb h => by
        obtain ⟨⟨cs, hc⟩, _⟩ := GS.five CQ5.out h
        rcases K5.out.r.2 with ⟨h0, _⟩ | ⟨q, cap, cur, hv, _, hq, _⟩
        · rw [h0] at hb; cases hb
        · rw [hv] at hb
          have e2 : q = b := by simpa [Value.ownBlock] using hb
          rw [e2, hc] at hq
          cases hq)⟩
      have T6 := Hid.mk' (T5.out.gs GG.out T5n.out)
      have F6 : Hid (Fr (fun _ => False) w0 W wr) := fun b cs ty hb ht => (GG.out.block b (heap_lt (F5.out b cs ty hb ht)) (nb.out b (by have := heap_lt hb; omega))).trans (F5.out b cs ty hb ht)
      have t0 := T6.out.cell (j := 0) rfl
      have t1 := T6.out.cell (j := 1) rfl
      have t2 := T6.out.cell (j := 2) rfl
      have t3 := T6.out.cell (j := 3) rfl
      have g0 := G6.out.b6.cell (j := 0) rfl
      have g1 := G6.out.b6.cell (j := 1) rfl
      have g2 := G6.out.b6.cell (j := 2) rfl
      have g3 := G6.out.b6.cell (j := 3) rfl
      have q0 := G6.out.b6.frozen 0
      have q1 := G6.out.b6.frozen 1
      have q2 := G6.out.b6.frozen 2
      have q3 := G6.out.b6.frozen 3
      have gz := G6.out.b6.lt
      go_wp2
      all_goals exact bodyPost_ret (v := .tuple #[.agg #[.slice a0 O.length c0, .slice x1 A'.length d1, .slice xr t'.size dr, .int .i64 E'], .bool true]) (by simp [results, Tryz.results11, go_sem, g0, g1, g2, g3]) rfl (by
        have h1 := HAq.out
        have h2 := HTq.out
        have h3 := HEq.out
        subst h1 h2 h3
        exact ⟨r, HR.out, don_end G6.out hD.out.bel.size K6.out D6.out (fun b hb => .inl (HX4.out b hb)) F6.out _ _ _ _⟩)

end Go.Proofs.YtmhpeppbhjpkiaaGreat

/- The law's done, whatever the kind; how much a step may bring. -/
namespace Go.Proofs.YtmhpeppbhjpkiaaGreat
open Go.RowKit

/-- what edits weigh -/
def ewt : List Ed → Nat
  | [] => 0
  | d :: ds => 4 + d.old.length + d.new.length + ewt ds
def qw (q : Sq) : Nat := q.p.length + ewt q.es
def qws : List Sq → Nat
  | [] => 0
  | q :: qs => qw q + qws qs
theorem qws_drop {qs : List Sq} {i : Nat} {q : Sq} (h : qs[i]? = some q) : qws (qs.drop i) = qw q + qws (qs.drop (i + 1)) := by
  obtain ⟨hi, rfl⟩ := List.getElem?_eq_some_iff.1 h
  rw [List.drop_eq_getElem_cons hi]; rfl
theorem ewt_nsum : ∀ es : List Ed, nsum es ≤ ewt es ∧ 4 * es.length ≤ ewt es ∧ 5 * dsum es + 3 * nsum es ≤ 3 * ewt es
  | [] => ⟨Nat.le_refl _, Nat.le_refl _, Nat.le_refl _⟩
  | d :: ds => by
    obtain ⟨h1, h2, h3⟩ := ewt_nsum ds
    unfold nsum ewt dsum dl
    refine ⟨by omega, by simp only [List.length_cons]; omega, ?_⟩
    split <;> split <;> omega
theorem ewt_old : ∀ {es : List Ed} {d : Ed}, d ∈ es → d.old.length ≤ ewt es ∧ d.new.length ≤ ewt es
  | d' :: ds, d, h => by
    unfold ewt
    rcases List.mem_cons.1 h with rfl | h
    · omega
    · have := ewt_old h; omega
/-- few pieces, or few bytes -/
theorem few {T ts p : Nat} {es : List Ed} (hs : ts ≤ 83886) (hT : T + (p + ewt es) ≤ 1048574) : ts + dsum es ≤ 524278 ∨ T + nsum es ≤ 524278 := by
  obtain ⟨h1, h2, h3⟩ := ewt_nsum es
  omega
/-- what a step leaves -/
structure Dok (O A : List UInt8) (t : Tr) (E : Int) (q : Sq) (r : Option (List UInt8 × Tr × Int)) : Prop where
  sz : (rT A t E r).size ≤ 524287
  tx : (txt O (rA A t E r) (rT A t E r).list).length ≤ (txt O A t.list).length + qw q
  ad : (rA A t E r).length ≤ A.length + qw q
  ed : E ≤ rE A t E r ∧ rE A t E r ≤ E + 2 * (qed q : Int)
theorem dok_of {O A : List UInt8} {t : Tr} {E : Int} {q : Sq} {r : Option (List UInt8 × Tr × Int)} {n k m : Nat} (h : Okr O A t E n k m r) (hs : t.size ≤ 83886) (hn : n ≤ qw q) (hm : (m : Int) ≤ 2 * (qed q : Int)) (hk : t.size + k ≤ 524278 ∨ (txt O A t.list).length + n ≤ 524278) : Dok O A t E q r := by
  cases r with
  | none =>
    refine ⟨?_, ?_, ?_, ?_⟩
    · show t.size ≤ _; omega
    · show (txt O A t.list).length ≤ _; omega
    · show A.length ≤ _; omega
    · show E ≤ E ∧ E ≤ _; unfold qed; omega
  | some x =>
    obtain ⟨A', t', e'⟩ := x
    obtain ⟨h1, h2, h3, h4, h5, h6, h7⟩ := h A' t' e' rfl
    have s1 := Tr.size_list t'
    have s2 := Tr.size_list t
    have s3 := size_txt h2
    refine ⟨?_, ?_, ?_, ?_⟩
    · show t'.size ≤ _; omega
    · show (txt O A' t'.list).length ≤ _; omega
    · show A'.length ≤ _; omega
    · show E ≤ e' ∧ e' ≤ _; omega
theorem done_any (w0 W : World) (sb sb2 : Nat) (a0 a1 ar : Option Addr) (c0 c1 cr : Nat) (E : Int) (O A : List UInt8) (base : Nat) (t : Tr) (O2 A2 : List UInt8) (t2 : Tr) (e2 : Int) (q : Sq) (ap ae : Option Addr) (cp ce : Nat) (hq : Hid (Sqr w0 q ap ae cp ce)) (hk : 0 ≤ q.kind ∧ q.kind < 3) (hz : Hid ((txt O A t.list).length + qw q ≤ 1048574)) (hA : Hid (A.length + qw q ≤ 1048576)) (hD : Hid (Duo (Xk a0 a1) w0 W sb O A t E sb2 O2 A2 t2 e2)) (KK : Hid (Ko W base a0 c0 a1 c1 ar cr O A t)) (hB : Hid (base ≤ w0.heap.size)) (hs : Hid (t.size ≤ 83886)) (hbO : O.length ≤ 1048576) (hE : 0 ≤ E ∧ E ≤ 4611686018400000000) :
    Calls Tryz.prog 11 #[.pointer (some ⟨sb, 0, none⟩), .agg #[.slice a0 O.length c0, .slice a1 A.length c1, .slice ar t.size cr, .int .i64 E], .agg #[.int .i64 q.kind, .int .i64 q.a, .int .i64 q.b, .slice ap q.p.length cp, .slice ae q.es.length ce]] W fun e w' => ∃ r, Dok O A t E q r ∧ DonG w0 W base sb O A t E sb2 O2 A2 t2 e2 a0 c0 r e w' := by
  obtain ⟨k, x, y, p, es⟩ := q
  have hw : t.whole := by obtain ⟨⟨bb, vo, va, a, bb2, vo2, va2, a2, h1, -⟩, -⟩ := hD.out; exact h1.2.1.1
  have hg : Gds O A t.list := by obtain ⟨⟨bb, vo, va, a, bb2, vo2, va2, a2, h1, -⟩, -⟩ := hD.out; exact h1.2.2
  have hz' := hz.out
  have hA' := hA.out
  have hs' := hs.out
  obtain ⟨e1, e3, e4⟩ := ewt_nsum es
  have hqw : qw ⟨k, x, y, p, es⟩ = p.length + ewt es := rfl
  rw [hqw] at hz' hA'
  dsimp only at hk ⊢
  have hk3 : k = 0 ∨ k = 1 ∨ k = 2 := by omega
  rcases hk3 with rfl | rfl | rfl
  · refine (done0 w0 W sb sb2 a0 a1 ar c0 c1 cr E O A base t O2 A2 t2 e2 x y ap cp p _ hq.out.rp (by unfold Hid; omega) (by omega) hD KK hB (by unfold Hid; omega) hbO ⟨hE.1, by omega⟩).mono ?_
    rintro e w' ⟨r, hr, hG⟩
    exact ⟨r, dok_of (hr.ok hw hg (by omega) (by omega)) hs' (by rw [hqw]; omega) (by unfold qed; dsimp only; omega) (.inl (by omega)), hG⟩
  · refine (done1 w0 W sb sb2 a0 a1 ar c0 c1 cr E O A base t O2 A2 t2 e2 x y _ _ (by unfold Hid; omega) (by omega) hD KK hB (by unfold Hid; omega) hbO ⟨hE.1, by omega⟩).mono ?_
    rintro e w' ⟨r, hr, hG⟩
    exact ⟨r, dok_of (hr.ok hw hg (by omega)) hs' (Nat.zero_le _) (by unfold qed; dsimp only; omega) (.inl (by omega)), hG⟩
  · refine (done2 w0 W sb sb2 a0 a1 ar c0 c1 cr E O A base t O2 A2 t2 e2 x y _ ae ce es hq.out.re (by unfold Hid; omega) (by unfold Hid; omega) (fun d hd => ⟨by have := ewt_old hd; omega, trivial⟩) (fun d hd => by have := ewt_old hd; omega) (few hs' hz') (by unfold Hid; omega) (by unfold Hid; omega) hD KK hB (by unfold Hid; omega) hbO ⟨hE.1, by omega⟩).mono ?_
    rintro e w' ⟨r, hr, hG⟩
    exact ⟨r, dok_of (hr.okr hw hg (by omega) (by omega)) hs' (by rw [hqw]; omega) (by unfold qed; dsimp only; omega) (few hs' hz'), hG⟩
theorem Sh.low {W : World} {base base' sb bb : Nat} {vo va : Value} {O A : List UInt8} {t : Tr} {a : Option Addr} {e : Int} (h : Sh W base sb bb vo va O A t a e) (hb : base' ≤ base) : Sh W base' sb bb vo va O A t a e :=
  ⟨Nat.le_trans hb h.lo, h.here, ⟨Nat.le_trans hb h.buf.lo, h.buf.here, Rk.own_lower h.buf.orig hb, Rk.own_lower h.buf.added hb, h.buf.apart⟩, h.tree⟩
theorem Ko.low {W : World} {base base' : Nat} {a0 : Option Addr} {c0 : Nat} {a1 : Option Addr} {c1 : Nat} {ar : Option Addr} {cr : Nat} {O A : List UInt8} {t : Tr} (h : Ko W base a0 c0 a1 c1 ar cr O A t) (hb : base' ≤ base) : Ko W base' a0 c0 a1 c1 ar cr O A t :=
  ⟨Rk.own_lower h.o hb, Rk.own_lower h.a hb, Rk.own_lower h.r hb⟩
theorem NewR.one {l : List UInt8} {t t' : Tr} (h : NewR l t) (h' : NewR l t') : t = t' := by
  unfold NewR at h h'
  rcases h with ⟨e, h⟩ | ⟨e, h⟩
  · rcases h' with ⟨_, h'⟩ | ⟨e', _⟩
    · rw [h, h']
    · exact absurd e e'
  · rcases h' with ⟨e', _⟩ | ⟨_, h'⟩
    · exact absurd e' e
    · rw [h, h']
end Go.Proofs.YtmhpeppbhjpkiaaGreat

