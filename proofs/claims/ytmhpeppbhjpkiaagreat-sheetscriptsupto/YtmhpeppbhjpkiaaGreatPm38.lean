/- The reference's Pieces and Text. -/
import Derived.Test.YtmhpeppbhjpkiaaGreatPm35
import Derived.Test.YtmhpeppbhjpkiaaGreatPm17
import Derived.Test.YtmhpeppbhjpkiaaGreatPm33
import Derived.Deep.RegionHeld3
import Derived.Test.YtmhpeppbhjpkiaaGreatPm36
import Derived.Test.YtmhpeppbhjpkiaaGreatPm37
import Derived.Test.YtmhpeppbhjpkiaaGreatPm21
import Derived.Test.YtmhpeppbhjpkiaaGreatPm22
namespace Go.Proofs.YtmhpeppbhjpkiaaGreat
open Go.RowKit

/-- a sheet of the reference's: three lists of its own -/
structure Ko (W : World) (base : Nat) (a0 : Option Addr) (c0 : Nat) (a1 : Option Addr) (c1 : Nat) (ar : Option Addr) (cr : Nat) (O A : List UInt8) (t : Tr) : Prop where
  o : W.ownsRow base 5 1 (.slice a0 O.length c0) O.length (Ab.bv O)
  a : W.ownsRow base 5 1 (.slice a1 A.length c1) A.length (Ab.bv A)
  r : W.ownsRow base 128 10 (.slice ar t.size cr) t.size (rcells (rowsT t))
theorem Ko.keep {W W' : World} {base : Nat} {a0 : Option Addr} {c0 : Nat} {a1 : Option Addr} {c1 : Nat} {ar : Option Addr} {cr : Nat} {O A : List UInt8} {t : Tr} (h : Ko W base a0 c0 a1 c1 ar cr O A t) (hb : Below W.heap.size W W') : Ko W' base a0 c0 a1 c1 ar cr O A t :=
  ⟨Ab.own_keep h.o hb, Ab.own_keep h.a hb, own_keep' h.r hb⟩
/-- the block of the rows -/
def Pr (ar : Option Addr) : Nat → Prop := fun b => ∃ a, ar = some a ∧ a.block = b
theorem own_rdq {W : World} {base : Nat} {ar : Option Addr} {cr : Nat} {t : Tr} (h : W.ownsRow base 128 10 (.slice ar t.size cr) t.size (rcells (rowsT t))) : Rdq W (Pr ar) (.slice ar t.size cr) (rowsT t) := by
  have h' : Rw1 { W with heap := #[] } t (.slice ar t.size cr) W := Rk.own_lower h (Nat.zero_le _)
  obtain ⟨ao, n, c, h1, h2, h3, h4⟩ := rw_rdr h'
  refine ⟨ao, n, c, h1, h2, h3, ?_⟩
  rcases h4 with h4 | ⟨b, off, e, hr⟩
  · exact .inl h4
  · exact .inr ⟨b, off, e, hr, ⟨_, by simp at h1; rw [h1.1, e], rfl⟩⟩
theorem Ko.kr {W : World} {base : Nat} {a0 : Option Addr} {c0 : Nat} {a1 : Option Addr} {c1 : Nat} {ar : Option Addr} {cr : Nat} {O A : List UInt8} {t : Tr} (h : Ko W base a0 c0 a1 c1 ar cr O A t) : Kr W base (Pr ar) a0 c0 a1 c1 ar cr O A t ∧ ∀ b, Pr ar b → b < W.heap.size := by
  refine ⟨⟨h.o, h.a, own_rdq h.r⟩, fun b hb => ?_⟩
  obtain ⟨a, rfl, rfl⟩ := hb
  exact (h.r.lt a.block rfl).2
theorem put_ko {w w' : World} {base : Nat} {a0 : Option Addr} {c0 : Nat} {a1 : Option Addr} {c1 : Nat} {ar : Option Addr} {cr : Nat} {O A : List UInt8} {t : Tr} (h : Ko w base a0 c0 a1 c1 ar cr O A t) (hb : Below w.heap.size w w') (hB : base ≤ w.heap.size) {x1 xr : Option Addr} {d1 dr : Nat} {A' : List UInt8} {t' : Tr} (ha : w'.ownsRow w.heap.size 5 1 (.slice x1 A'.length d1) A'.length (Ab.bv A')) (hr : w'.ownsRow w.heap.size 128 10 (.slice xr t'.size dr) t'.size (rcells (rowsT t'))) : Ko w' base a0 c0 x1 d1 xr dr O A' t' :=
  ⟨Ab.own_keep h.o hb, Rk.own_lower ha hB, Rk.own_lower hr hB⟩
set_option maxRecDepth 8000 in
set_option maxHeartbeats 4000000 in
theorem rPieces_any (a0 a1 ar : Option Addr) (c0 c1 cr : Nat) (E : Int) (O A : List UInt8) (base : Nat) (t : Tr) (w : World) (K : Hid (Ko w base a0 c0 a1 c1 ar cr O A t)) (hf : Hid t.fits) (hs : Hid (t.size ≤ 524287)) :
    Calls Tryz.prog 23 #[.agg #[.slice a0 O.length c0, .slice a1 A.length c1, .slice ar t.size cr, .int .i64 E]] w fun e w' => ∃ l', e = .returned l' ∧ w'.ownsRow w.heap.size 57 3 l' t.size (spcs t.list) ∧ Below w.heap.size w w' := by
  obtain ⟨i7, hi7, hz7, hs7, hb7⟩ := info_parts infoSp
  have HSL := Hid.mk' (Tr.size_list t)
  have hsI : (t.size : Int) ≤ 524287 := by have := hs.out; omega
  have B0 := Hid.mk' (bAlloc (Below.refl _ w) (.cells #[.slice a0 O.length c0, .slice a1 A.length c1, .slice ar t.size cr, .int .i64 E] 31))
  have D1 := Hid.mk' (Piecesr_any t _ _ hs hf (own_rdq (K.out.keep B0.out).r).rdr)
  go_enter Tryz.func23, Tryz.ntmps23
  go_wp2_with fail
  refine D1.out.mono ?_
  rintro e w1 ⟨lp, rfl, hop, hb1⟩
  have B1 := Hid.mk' (bT B0.out hb1)
  have HP := Hid.mk' hop
  obtain ⟨gx, gc, ep⟩ := own_shape' hop
  subst ep
  clear hop hb1 D1
  go_wp2_with fail
  go_loopw [3, 5] (fun u x wr => ∃ k : Nat, x = .int .i64 k ∧ k ≤ t.size ∧ wr.ownsRow w1.heap.size 57 3 u k (spcs (t.list.take k)) ∧ Below w1.heap.size w1 wr) (fun _ x _ => t.size - (intOf x).toNat)
  case atStart => exact ⟨0, rfl, Nat.zero_le _, World.ownsRow_nil _ _ _ _, Below.refl _ _⟩
  case round =>
    obtain ⟨k, rfl, hk, hown, hb⟩ := hrel
    have HO := Hid.mk' hown
    have HB := Hid.mk' hb
    obtain ⟨ax, cx, hux⟩ := own_shape' hown
    subst hux
    clear hown hb
    have hk0 : (0 : Int) ≤ (k : Int) := by omega
    by_cases hlt : k < t.size
    · have hkl : k < t.list.length := by rw [HSL.out]; exact hlt
      obtain ⟨p, hp⟩ : ∃ p, t.list[k]? = some p := ⟨_, List.getElem?_eq_getElem hkl⟩
      obtain ⟨gp, rfl⟩ := own_pos HP.out (by omega)
      have HPw := Hid.mk' (own_keep' HP.out HB.out)
      have hc : ∀ i, i < 4 → wr.cell? ⟨gp, k * 4 + i, none⟩ = p.cs[i]? := fun i hi => by
        rw [HPw.out.cellAt (k * 4 + i) (by omega)]; exact cells_at4 hp i hi
      have HT1 : Hid (spcs (t.list.take (k + 1)) = spcs (t.list.take k) ++ spc p) := by
        unfold Hid
        obtain ⟨h1, h2⟩ := List.getElem?_eq_some_iff.1 hp
        rw [List.take_succ_eq_append_getElem h1, h2, spcs_snoc]
      obtain ⟨ps, po, pl, pn⟩ := p
      have k0 := hc 0 (by omega)
      have k1 := hc 1 (by omega)
      have k2 := hc 2 (by omega)
      simp only [Pc.cs, List.getElem?_cons_zero, List.getElem?_cons_succ, Nat.add_zero] at k0 k1 k2
      have hkI : (k : Int) < (t.size : Int) := by omega
      clear hc hp hkl
      go_wp2_with (at_builtin; refine Rk.append_srv rfl (.tmp 15) (.tmp 21) 45 rfl w1.heap.size 57 i7 (.agg #[.int .i64 0, .int .i64 0, .int .i64 0]) 3 24 Tryz.underlying45 hi7 hz7 hs7 hb7 rfl (by decide) (.slice ax k cx) k (spcs (t.list.take k)) rfl (HO.out.alloc _) (.slice (some ⟨wr.heap.size, 0, none⟩) 1 1) 1 [.int .i64 ps, .int .i64 po, .int .i64 pl] rfl (.inr ⟨⟨wr.heap.size, 0, none⟩, 1, rfl, fun j u hj => cell_three wr _ _ _ 57 j u hj⟩) rfl (by intro u hu; simp at hu; rcases hu with rfl | rfl | rfl <;> rfl) (by unfold maxLen; omega) (by omega) (by have := HB.out.size; simp; omega) ?_)
      intro v2 w2 hown2 hgrow2 _
      have HO2 : Hid (w2.ownsRow w1.heap.size 57 3 v2 (k + 1) (spcs (t.list.take (k + 1)))) := by unfold Hid; rw [HT1.out]; exact hown2
      have HB2 : Hid (Below w1.heap.size w1 w2) := (HB.out.alloc HB.out.size _).grown hgrow2 (by have := HB.out.size; simp; omega) (fun k hk => (HO.out.lt k hk).1)
      clear hown2 hgrow2
      go_wp2
      go_roundw
      case rel => exact ⟨k + 1, by go_num, by omega, HO2.out, HB2.out⟩
      case measure => simp [intOf]; omega
    · obtain rfl : k = t.size := by omega
      have HT1 : Hid (t.list.take t.size = t.list) := List.take_of_length_le (by rw [HSL.out]; exact Nat.le_refl _)
      rw [HT1.out] at HO
      have hnl : ¬ (t.size : Int) < (t.size : Int) := by omega
      go_wp2
      go_ret
      exact ⟨_, rfl, Rk.own_lower HO.out B1.out.size, bT B1.out HB.out⟩
theorem bv_app' (a b : List UInt8) : Ab.bv (a ++ b) = Ab.bv a ++ Ab.bv b := by simp [Ab.bv]
set_option maxRecDepth 8000 in
set_option maxHeartbeats 4000000 in
theorem rText_any (a0 a1 ar : Option Addr) (c0 c1 cr : Nat) (E : Int) (O A : List UInt8) (base : Nat) (t : Tr) (w : World) (K : Hid (Ko w base a0 c0 a1 c1 ar cr O A t)) (hg : Hid (Gds O A t.list)) (hs : Hid (t.size ≤ 524287)) (hz : Hid ((txt O A t.list).length ≤ 1048576)) :
    Calls Tryz.prog 9 #[.agg #[.slice a0 O.length c0, .slice a1 A.length c1, .slice ar t.size cr, .int .i64 E]] w fun e w' => ∃ v, e = .returned v ∧ w'.ownsRow w.heap.size 5 1 v (txt O A t.list).length (Ab.bv (txt O A t.list)) ∧ Below w.heap.size w w' := by
  obtain ⟨i5, hi5, hz5, hs5, hb5⟩ := info_parts Ab.info5
  have HSL := Hid.mk' (Tr.size_list t)
  have hsI : (t.size : Int) ≤ 524287 := by have := hs.out; omega
  have hf : Hid t.fits := (Tr.fits_list t).2 (fun p hp => (hg.out p hp).fit)
  have B0 := Hid.mk' (bAlloc (Below.refl _ w) (.cells #[.slice a0 O.length c0, .slice a1 A.length c1, .slice ar t.size cr, .int .i64 E] 31))
  have Z0 := Hid.mk' (Blk.new w 31 #[.slice a0 O.length c0, .slice a1 A.length c1, .slice ar t.size cr, .int .i64 E])
  have D1 := Hid.mk' (rPieces_any a0 a1 ar c0 c1 cr E O A base t _ (K.out.keep B0.out) hf hs)
  go_enter Tryz.func9, Tryz.ntmps9
  go_wp2_with fail
  refine D1.out.mono ?_
  rintro e w1 ⟨lp, rfl, hop, hb1⟩
  have B1 := Hid.mk' (bT B0.out hb1)
  have Z1 := Hid.mk' (Z0.out.keep hb1)
  have HP := Hid.mk' hop
  obtain ⟨gx, gc, ep⟩ := own_shape' hop
  subst ep
  clear hop hb1 D1 Z0 B0
  go_wp2_with fail
  go_loopw [3, 5, 6, 7] (fun u x _ _ wr => ∃ k : Nat, x = .int .i64 k ∧ k ≤ t.size ∧ wr.ownsRow w1.heap.size 5 1 u (txt O A (t.list.take k)).length (Ab.bv (txt O A (t.list.take k))) ∧ Below w1.heap.size w1 wr) (fun _ x _ _ _ => t.size - (intOf x).toNat)
  case atStart => exact ⟨0, rfl, Nat.zero_le _, World.ownsRow_nil _ _ _ _, Below.refl _ _⟩
  case round =>
    obtain ⟨k, rfl, hk, hown, hb⟩ := hrel
    have HO := Hid.mk' hown
    have HB := Hid.mk' hb
    obtain ⟨ax, cx, hux⟩ := own_shape' hown
    subst hux
    clear hown hb
    have hk0 : (0 : Int) ≤ (k : Int) := by omega
    by_cases hlt : k < t.size
    · have hkl : k < t.list.length := by rw [HSL.out]; exact hlt
      obtain ⟨p, hp⟩ : ∃ p, t.list[k]? = some p := ⟨_, List.getElem?_eq_getElem hkl⟩
      have GP := Hid.mk' (hg.out.at hp)
      obtain ⟨gp, rfl⟩ := own_pos HP.out (by omega)
      have HPw := Hid.mk' (own_keep' HP.out HB.out)
      have hc : ∀ i, i < 3 → wr.cell? ⟨gp, k * 3 + i, none⟩ = (spc p)[i]? := fun i hi => by
        rw [HPw.out.cellAt (k * 3 + i) (by omega)]; exact spcs_at hp i hi
      have HT1 : Hid (txt O A (t.list.take (k + 1)) = txt O A (t.list.take k) ++ pcs O A p) := by
        unfold Hid
        obtain ⟨h1, h2⟩ := List.getElem?_eq_some_iff.1 hp
        rw [List.take_succ_eq_append_getElem h1, h2, txt_append, txt_cons, txt_nil, List.append_nil]
      have HLn : Hid ((txt O A (t.list.take k)).length + (pcs O A p).length ≤ 1048576) := by
        unfold Hid
        rw [← List.length_append, ← HT1.out]
        have e : txt O A t.list = txt O A (t.list.take (k + 1)) ++ txt O A (t.list.drop (k + 1)) := by rw [← txt_append, List.take_append_drop]
        have := hz.out
        rw [e, List.length_append] at this
        omega
      have HPL := Hid.mk' GP.out.len
      obtain ⟨ps, po, pl, pn⟩ := p
      obtain ⟨o', l', eo, el, hsnd, hin, _⟩ := Ab.hd_parts GP.out.hold
      dsimp only at eo el hsnd hin HPL
      subst eo el
      have k0 := hc 0 (by omega)
      have k1 := hc 1 (by omega)
      have k2 := hc 2 (by omega)
      simp only [spc, List.getElem?_cons_zero, List.getElem?_cons_succ, Nat.add_zero] at k0 k1 k2
      have hkI : (k : Int) < (t.size : Int) := by omega
      have Zw := Hid.mk' (Z1.out.keep HB.out)
      have z0 := Zw.out.cell (j := 0) rfl
      have z1 := Zw.out.cell (j := 1) rfl
      have hlb : l' ≤ 1048576 := by have := HLn.out; have := HPL.out; omega
      have CR := Hid.mk' (fun W (h : Below wr.heap.size wr W) => Ab.refRead_yes a0 a1 c0 c1 O A base ps o' l' W hsnd hin (by omega) (Ab.own_keep (K.out.keep (bT B1.out (bT HB.out h))).o (Below.refl _ _)) (Ab.own_keep (K.out.keep (bT B1.out (bT HB.out h))).a (Below.refl _ _)))
      have HPC : Hid (pcs O A ⟨ps, o', l', pn⟩ = Ab.cutL ps o' l' O A) := rfl
      have hS2 : Hid (∀ {W' : World}, Below wr.heap.size wr W' → W'.cell? ⟨w.heap.size, 0, none⟩ = some (.slice a0 O.length c0) ∧ W'.cell? ⟨w.heap.size, 1, none⟩ = some (.slice a1 A.length c1) ∧ W'.cell? ⟨gp, k * 3, none⟩ = some (.int .i64 ps) ∧ W'.cell? ⟨gp, k * 3 + 1, none⟩ = some (.int .i64 o') ∧ W'.cell? ⟨gp, k * 3 + 2, none⟩ = some (.int .i64 l')) := by
        unfold Hid; intro W' hb
        exact ⟨(hb.cell (cell_lt z0)).trans z0, (hb.cell (cell_lt z1)).trans z1, (hb.cell (cell_lt k0)).trans k0, (hb.cell (cell_lt k1)).trans k1, (hb.cell (cell_lt k2)).trans k2⟩
      clear hc hp hkl
      go_wp2_with fail
      go_region_held3 (fun w' => w'.cell? ⟨w.heap.size, 0, none⟩ = some (.slice a0 O.length c0) ∧ w'.cell? ⟨w.heap.size, 1, none⟩ = some (.slice a1 A.length c1) ∧ w'.cell? ⟨gp, k * 3, none⟩ = some (.int .i64 ps) ∧ w'.cell? ⟨gp, k * 3 + 1, none⟩ = some (.int .i64 o') ∧ w'.cell? ⟨gp, k * 3 + 2, none⟩ = some (.int .i64 l')) (first | (with_reducible exact hS2.out (Below.refl _ _).drew) | (with_reducible exact hS2.out B2.out)) (first | (go_at_call 24; refine (CR.out _ (Below.refl _ _).drew).mono ?_; rintro e w2 ⟨xr, dr, rfl, hor, hb2⟩; have OR := Hid.mk' hor; have B2 := Hid.mk' (bT (Below.refl _ wr).drew hb2)) | fail)
      have HO2 := Hid.mk' (own_keep' HO.out B2.out)
      have HB2 := Hid.mk' (bT HB.out B2.out)
      have hLl : Hid (l' = (Ab.cutL ps o' l' O A).length) := by unfold Hid; have h := HPL.out; rw [HPC.out] at h; omega
      go_wp2_with (at_builtin; refine Rk.append_srv rfl (.tmp 28) (.tmp 29) 22 rfl w1.heap.size 5 i5 (.int .u8 0) 1 1 Tryz.underlying22 hi5 hz5 hs5 hb5 rfl (by decide) (.slice ax (txt O A (t.list.take k)).length cx) (txt O A (t.list.take k)).length (Ab.bv (txt O A (t.list.take k))) rfl HO2.out (.slice xr l' dr) l' (Ab.bv (Ab.cutL ps o' l' O A)) rfl (Rk.own_srv OR.out) (by rw [Ab.bv_length, ← hLl.out, Nat.mul_one]) (Ab.bv_one _) (by have := HLn.out; have := HPL.out; unfold maxLen; omega) (by have := HLn.out; have := HPL.out; omega) HB2.out.size ?_)
      intro v3 w3 hown3 hgrow3 _
      have HO3 : Hid (w3.ownsRow w1.heap.size 5 1 v3 (txt O A (t.list.take (k + 1))).length (Ab.bv (txt O A (t.list.take (k + 1))))) := by
        unfold Hid
        rw [HT1.out, HPC.out, bv_app', List.length_append, ← hLl.out]
        exact hown3
      have HB3 : Hid (Below w1.heap.size w1 w3) := HB2.out.grown hgrow3 HB2.out.size (fun k hk => (HO2.out.lt k hk).1)
      clear hown3 hgrow3
      go_wp2
      go_roundw
      case rel => exact ⟨k + 1, by go_num, by omega, HO3.out, HB3.out⟩
      case measure => simp [intOf]; omega
    · obtain rfl : k = t.size := by omega
      have HT1 : Hid (t.list.take t.size = t.list) := List.take_of_length_le (by rw [HSL.out]; exact Nat.le_refl _)
      rw [HT1.out] at HO ⊢
      have hnl : ¬ (t.size : Int) < (t.size : Int) := by omega
      go_wp2
      go_ret
      exact ⟨_, rfl, Rk.own_lower HO.out B1.out.size, bT B1.out HB.out⟩

end Go.Proofs.YtmhpeppbhjpkiaaGreat

/- The reference's Insert and Delete. -/
namespace Go.Proofs.YtmhpeppbhjpkiaaGreat
open Go.RowKit

theorem own_prl {W : World} {base ty sz n c m b : Nat} {ao : Option Addr} {xs : List Value} (h : W.ownsRow base ty sz (.slice ao n c) m xs) (hp : Pr ao b) : base ≤ b := by
  obtain ⟨a, rfl, rfl⟩ := hp
  exact (h.lt a.block rfl).1
/-- two boxes of a call: the sheet that came in, the one that goes out -/
structure Bx2 (w W : World) (bx : Array Value) : Prop where
  b3 : Blk W w.heap.size 31 bx
  b6 : Blk W (w.heap.size + 1) 31 #[.slice none 0 0, .slice none 0 0, .slice none 0 0, .int .i64 0]
  be : Below w.heap.size w W
theorem Bx2.keep {w W W' : World} {bx : Array Value} (h : Bx2 w W bx) (hb : Below W.heap.size W W') : Bx2 w W' bx := ⟨h.b3.keep hb, h.b6.keep hb, bT h.be hb⟩
theorem Bx2.new (w : World) (bx : Array Value) : Bx2 w ((w.alloc (.cells bx 31)).alloc (.cells #[.slice none 0 0, .slice none 0 0, .slice none 0 0, .int .i64 0] 31)) bx := by
  have h := Blk.new (w.alloc (.cells bx 31)) 31 #[.slice none 0 0, .slice none 0 0, .slice none 0 0, .int .i64 0]
  rw [World.size_alloc] at h
  exact ⟨(Blk.new w 31 bx).keep (bAlloc (Below.refl _ _) _), h, bAA w _ _⟩
/-- what an edit of the reference's leaves: a sheet, and an error -/
def RedG (w : World) (base : Nat) (a0 : Option Addr) (c0 : Nat) (a1 : Option Addr) (O A' : List UInt8) (t' : Tr) (E' err : Int) (e : Ending) (w' : World) : Prop := ∃ x1 d1 xr dr, e = .returned (.tuple #[.agg #[.slice a0 O.length c0, .slice x1 A'.length d1, .slice xr t'.size dr, .int .i64 E'], .int .i64 err]) ∧ Ko w' base a0 c0 x1 d1 xr dr O A' t' ∧ Below w.heap.size w w' ∧ ∀ b, Pr x1 b → Pr a1 b ∨ w.heap.size ≤ b
theorem ko_set {W : World} {base : Nat} {a0 : Option Addr} {c0 : Nat} {a1 : Option Addr} {c1 : Nat} {ar : Option Addr} {cr : Nat} {O A : List UInt8} {t : Tr} (h : Ko W base a0 c0 a1 c1 ar cr O A t) {k : Nat} {cs : Array Value} (hk : Blk W k 31 cs) (j : Nat) (v : Value) : Ko (W.setCell ⟨k, j, none⟩ v) base a0 c0 a1 c1 ar cr O A t :=
  ⟨own_off h.o (fun e => Ab.own_ne h.o hk (by decide) e.symm), own_off h.a (fun e => Ab.own_ne h.a hk (by decide) e.symm), own_off h.r (fun e => by
    rcases h.r.2 with ⟨h0, _⟩ | ⟨g, cap, cur, hv, _, hg, _⟩
    · rw [h0] at e; cases e
    · rw [hv] at e
      have e' : g = k := by simpa [Value.ownBlock] using e
      rw [e'] at hg
      unfold Blk at hk
      rw [hk] at hg
      cases hg)⟩
theorem ko_set4 {w W : World} {base : Nat} {a0 : Option Addr} {c0 : Nat} {a1 : Option Addr} {c1 : Nat} {ar : Option Addr} {cr : Nat} {O A : List UInt8} {t : Tr} (h : Ko W base a0 c0 a1 c1 ar cr O A t) {cs : Array Value} (hk : Blk W (w.heap.size + 1) 31 cs) (hb : Below w.heap.size w W) (y0 y1 y2 y3 : Value) : Ko ((((W.setCell ⟨w.heap.size + 1, 0, none⟩ y0).setCell ⟨w.heap.size + 1, 1, none⟩ y1).setCell ⟨w.heap.size + 1, 2, none⟩ y2).setCell ⟨w.heap.size + 1, 3, none⟩ y3) base a0 c0 a1 c1 ar cr O A t ∧ Below w.heap.size w ((((W.setCell ⟨w.heap.size + 1, 0, none⟩ y0).setCell ⟨w.heap.size + 1, 1, none⟩ y1).setCell ⟨w.heap.size + 1, 2, none⟩ y2).setCell ⟨w.heap.size + 1, 3, none⟩ y3) :=
  ⟨ko_set (ko_set (ko_set (ko_set h hk 0 y0) (blk_set hk y0) 1 y1) (blk_set (blk_set hk y0) y1) 2 y2) (blk_set (blk_set (blk_set hk y0) y1) y2) 3 y3, setb (setb (setb (setb hb _ _) _ _) _ _) _ _⟩
set_option maxRecDepth 8000 in
set_option maxHeartbeats 4000000 in
theorem rInsert_no (a0 a1 ar ap : Option Addr) (c0 c1 cr np cp : Nat) (E : Int) (O A : List UInt8) (base : Nat) (t : Tr) (off : Int) (w : World) (K : Hid (Ko w base a0 c0 a1 c1 ar cr O A t)) (hg : Hid (Gds O A t.list)) (hs : Hid (t.size ≤ 524287)) (hz : Hid ((txt O A t.list).length ≤ 1048576)) (h : off < 0 ∨ ((txt O A t.list).length : Int) < off) :
    Calls Tryz.prog 33 #[.agg #[.slice a0 O.length c0, .slice a1 A.length c1, .slice ar t.size cr, .int .i64 E], .int .i64 off, .slice ap np cp] w fun e w' => RedG w base a0 c0 a1 O A t E 30 e w' := by
  have G := Hid.mk' (Bx2.new w #[.slice a0 O.length c0, .slice a1 A.length c1, .slice ar t.size cr, .int .i64 E])
  have D1 := Hid.mk' (rText_any a0 a1 ar c0 c1 cr E O A base t _ (K.out.keep G.out.be) hg hs hz)
  by_cases h0 : off < 0
  · clear h
    go_enter Tryz.func33, Tryz.ntmps33
    go_wp2
    all_goals exact bodyPost_ret (v := .tuple #[.agg #[.slice a0 O.length c0, .slice a1 A.length c1, .slice ar t.size cr, .int .i64 E], .int .i64 30]) (by simp [results, Tryz.results33, go_sem]) rfl ⟨a1, c1, ar, cr, rfl, K.out.keep (bAA w _ _), bAA w _ _, fun _ h => .inl h⟩

  · have h1 : ((txt O A t.list).length : Int) < off := by omega
    clear h
    go_enter Tryz.func33, Tryz.ntmps33
    go_wp2_with fail
    refine D1.out.mono ?_
    rintro e w2 ⟨v, rfl, hv, hb2⟩
    have G := Hid.mk' (G.out.keep hb2)
    obtain ⟨xv, dv, ev⟩ := own_shape' hv
    subst ev
    have g0 := G.out.b6.cell (j := 0) rfl
    have g1 := G.out.b6.cell (j := 1) rfl
    have g2 := G.out.b6.cell (j := 2) rfl
    have g3 := G.out.b6.cell (j := 3) rfl
    have q0 := G.out.b6.frozen 0
    have q1 := G.out.b6.frozen 1
    have q2 := G.out.b6.frozen 2
    have q3 := G.out.b6.frozen 3
    have e0 := G.out.b3.cell (j := 0) rfl
    have e1 := G.out.b3.cell (j := 1) rfl
    have e2 := G.out.b3.cell (j := 2) rfl
    have e3 := G.out.b3.cell (j := 3) rfl
    have gz := G.out.b6.lt
    clear hv hb2 D1
    go_wp2
    all_goals exact bodyPost_ret (v := .tuple #[.agg #[.slice a0 O.length c0, .slice a1 A.length c1, .slice ar t.size cr, .int .i64 E], .int .i64 30]) (by simp [results, Tryz.results33, go_sem, g0, g1, g2, g3]) rfl ⟨a1, c1, ar, cr, rfl, (ko_set4 (K.out.keep G.out.be) G.out.b6 G.out.be _ _ _ _).1, (ko_set4 (K.out.keep G.out.be) G.out.b6 G.out.be _ _ _ _).2, fun _ h => .inl h⟩

set_option maxRecDepth 8000 in
set_option maxHeartbeats 4000000 in
theorem rInsert_nil (a0 a1 ar ap : Option Addr) (c0 c1 cr cp : Nat) (E : Int) (O A : List UInt8) (base : Nat) (t : Tr) (off : Int) (w : World) (K : Hid (Ko w base a0 c0 a1 c1 ar cr O A t)) (hg : Hid (Gds O A t.list)) (hs : Hid (t.size ≤ 524287)) (hz : Hid ((txt O A t.list).length ≤ 1048576)) (hlo : 0 ≤ off) (hhi : off ≤ ((txt O A t.list).length : Int)) :
    Calls Tryz.prog 33 #[.agg #[.slice a0 O.length c0, .slice a1 A.length c1, .slice ar t.size cr, .int .i64 E], .int .i64 off, .slice ap 0 cp] w fun e w' => RedG w base a0 c0 a1 O A t E 0 e w' := by
  have G := Hid.mk' (Bx2.new w #[.slice a0 O.length c0, .slice a1 A.length c1, .slice ar t.size cr, .int .i64 E])
  have D1 := Hid.mk' (rText_any a0 a1 ar c0 c1 cr E O A base t _ (K.out.keep G.out.be) hg hs hz)
  go_enter Tryz.func33, Tryz.ntmps33
  go_wp2_with fail
  refine D1.out.mono ?_
  rintro e w2 ⟨v, rfl, hv, hb2⟩
  have G := Hid.mk' (G.out.keep hb2)
  obtain ⟨xv, dv, ev⟩ := own_shape' hv
  subst ev
  have g0 := G.out.b6.cell (j := 0) rfl
  have g1 := G.out.b6.cell (j := 1) rfl
  have g2 := G.out.b6.cell (j := 2) rfl
  have g3 := G.out.b6.cell (j := 3) rfl
  have q0 := G.out.b6.frozen 0
  have q1 := G.out.b6.frozen 1
  have q2 := G.out.b6.frozen 2
  have q3 := G.out.b6.frozen 3
  have e0 := G.out.b3.cell (j := 0) rfl
  have e1 := G.out.b3.cell (j := 1) rfl
  have e2 := G.out.b3.cell (j := 2) rfl
  have e3 := G.out.b3.cell (j := 3) rfl
  have gz := G.out.b6.lt
  clear hv hb2 D1
  go_wp2
  all_goals exact bodyPost_ret (v := .tuple #[.agg #[.slice a0 O.length c0, .slice a1 A.length c1, .slice ar t.size cr, .int .i64 E], .int .i64 0]) (by simp [results, Tryz.results33, go_sem, g0, g1, g2, g3]) rfl ⟨a1, c1, ar, cr, rfl, (ko_set4 (K.out.keep G.out.be) G.out.b6 G.out.be _ _ _ _).1, (ko_set4 (K.out.keep G.out.be) G.out.b6 G.out.be _ _ _ _).2, fun _ h => .inl h⟩

set_option maxRecDepth 8000 in
set_option maxHeartbeats 4000000 in
theorem rInsert_yes (a0 a1 ar ap : Option Addr) (c0 c1 cr cp : Nat) (E : Int) (O A l : List UInt8) (base : Nat) (t : Tr) (off : Int) (w : World) (K : Hid (Ko w base a0 c0 a1 c1 ar cr O A t)) (hB : Hid (base ≤ w.heap.size)) (hv0 : Hid (Ab.Rd w (.slice ap l.length cp) l)) (hl : Hid (l ≠ [])) (hw : Hid t.whole) (hg : Hid (Gds O A t.list)) (hs : Hid (t.size ≤ 524280)) (hlo : 0 ≤ off) (hhi : off ≤ ((txt O A t.list).length : Int)) (hz : Hid ((txt O A t.list).length + l.length ≤ 1048575)) (hAl : A.length + l.length ≤ 1048576) (hbO : O.length ≤ 1048576) (hE : 0 ≤ E ∧ E ≤ 4611686018427387904) :
    Calls Tryz.prog 33 #[.agg #[.slice a0 O.length c0, .slice a1 A.length c1, .slice ar t.size cr, .int .i64 E], .int .i64 off, .slice ap l.length cp] w fun e w' => ∃ t', PutR O A l t off t' ∧ RedG w base a0 c0 a1 O (A ++ l) t' (E + 1) 0 e w' := by
  have G := Hid.mk' (Bx2.new w #[.slice a0 O.length c0, .slice a1 A.length c1, .slice ar t.size cr, .int .i64 E])
  have D1 := Hid.mk' (rText_any a0 a1 ar c0 c1 cr E O A base t _ (K.out.keep G.out.be) hg (show Hid (t.size ≤ 524287) by unfold Hid; have := hs.out; omega) (show Hid ((txt O A t.list).length ≤ 1048576) by unfold Hid; have := hz.out; omega))
  have hlp : 0 < l.length := by
    rcases Nat.eq_zero_or_pos l.length with h | h
    · exact absurd (List.length_eq_zero_iff.1 h) hl.out
    · exact h
  have hl1 : ((l.length : Int) == 0) = false := by simp only [beq_eq_false_iff_ne, ne_eq]; omega
  have hl2 : ¬ (l.length : Int) = 0 := by omega
  have hl3 : ¬ l.length = 0 := by omega
  have hl4 : ¬ l = [] := hl.out
  have hBT := Hid.mk' (byt_txt hg.out)
  go_enter Tryz.func33, Tryz.ntmps33
  go_wp2_with fail
  refine D1.out.mono ?_
  rintro e w2 ⟨v, rfl, hv, hb2⟩
  have G2 := Hid.mk' (G.out.keep hb2)
  obtain ⟨xv, dv, ev⟩ := own_shape' hv
  subst ev
  have K2 := Hid.mk' (K.out.keep G2.out.be)
  have b0 := G2.out.b3.cell (j := 0) rfl
  have b1 := G2.out.b3.cell (j := 1) rfl
  have b2 := G2.out.b3.cell (j := 2) rfl
  have b3 := G2.out.b3.cell (j := 3) rfl
  have bz := G2.out.b6.lt
  clear hv hb2 D1 G
  have D2 := Hid.mk' (rput_any a0 a1 ar ap c0 c1 cr cp E O A l base (Pr ar) t off w2 K2.out.kr.1 K2.out.kr.2 (hv0.out.keep G2.out.be) hl hw hg hs hlo (by rw [hBT.out]; exact hhi) hz hAl hbO hE)
  go_wp2_with fail
  refine D2.out.mono ?_
  rintro e w3 ⟨t', x1, d1, xr, dr, hp, rfl, hA', hR', hb3⟩
  have G := Hid.mk' (G2.out.keep hb3)
  have K3 := Hid.mk' (put_ko K2.out hb3 (Nat.le_trans hB.out G2.out.be.size) hA' hR')
  have HPR := Hid.mk' hp
  have HPX : Hid (∀ b, Pr x1 b → Pr a1 b ∨ w.heap.size ≤ b) := fun b h => .inr (Nat.le_trans G2.out.be.size (own_prl hA' h))
  have g0 := G.out.b6.cell (j := 0) rfl
  have g1 := G.out.b6.cell (j := 1) rfl
  have g2 := G.out.b6.cell (j := 2) rfl
  have g3 := G.out.b6.cell (j := 3) rfl
  have q0 := G.out.b6.frozen 0
  have q1 := G.out.b6.frozen 1
  have q2 := G.out.b6.frozen 2
  have q3 := G.out.b6.frozen 3
  have e0 := G.out.b3.cell (j := 0) rfl
  have e1 := G.out.b3.cell (j := 1) rfl
  have e2 := G.out.b3.cell (j := 2) rfl
  have e3 := G.out.b3.cell (j := 3) rfl
  have gz := G.out.b6.lt
  clear hp hA' hR' hb3 D2 b0 b1 b2 b3 bz K2 G2
  obtain ⟨AL, hAL⟩ : ∃ AL, A ++ l = AL := ⟨_, rfl⟩
  rw [hAL] at K3 ⊢
  have HAL := Hid.mk' hAL
  clear hAL
  go_wp2
  all_goals exact bodyPost_ret (v := .tuple #[.agg #[.slice a0 O.length c0, .slice x1 AL.length d1, .slice xr t'.size dr, .int .i64 (E + 1)], .int .i64 0]) (by simp [results, Tryz.results33, go_sem, g0, g1, g2, g3]) rfl ⟨t', HPR.out, by rw [HAL.out]; exact ⟨x1, d1, xr, dr, rfl, (ko_set4 K3.out G.out.b6 G.out.be _ _ _ _).1, (ko_set4 K3.out G.out.b6 G.out.be _ _ _ _).2, HPX.out⟩⟩

set_option maxRecDepth 8000 in
set_option maxHeartbeats 4000000 in
theorem rDelete_no (a0 a1 ar : Option Addr) (c0 c1 cr : Nat) (E : Int) (O A : List UInt8) (base : Nat) (t : Tr) (x y : Int) (w : World) (K : Hid (Ko w base a0 c0 a1 c1 ar cr O A t)) (hg : Hid (Gds O A t.list)) (hs : Hid (t.size ≤ 524287)) (hz : Hid ((txt O A t.list).length ≤ 1048576)) (h : x < 0 ∨ y < x ∨ ((txt O A t.list).length : Int) < y) :
    Calls Tryz.prog 35 #[.agg #[.slice a0 O.length c0, .slice a1 A.length c1, .slice ar t.size cr, .int .i64 E], .int .i64 x, .int .i64 y] w fun e w' => RedG w base a0 c0 a1 O A t E 30 e w' := by
  have G := Hid.mk' (Bx2.new w #[.slice a0 O.length c0, .slice a1 A.length c1, .slice ar t.size cr, .int .i64 E])
  have D1 := Hid.mk' (rText_any a0 a1 ar c0 c1 cr E O A base t _ (K.out.keep G.out.be) hg hs hz)
  by_cases h0 : x < 0
  · clear h
    go_enter Tryz.func35, Tryz.ntmps35
    go_wp2
    all_goals exact bodyPost_ret (v := .tuple #[.agg #[.slice a0 O.length c0, .slice a1 A.length c1, .slice ar t.size cr, .int .i64 E], .int .i64 30]) (by simp [results, Tryz.results35, go_sem]) rfl ⟨a1, c1, ar, cr, rfl, K.out.keep (bAA w _ _), bAA w _ _, fun _ h => .inl h⟩

  by_cases h2 : y < x
  · clear h
    go_enter Tryz.func35, Tryz.ntmps35
    go_wp2
    all_goals exact bodyPost_ret (v := .tuple #[.agg #[.slice a0 O.length c0, .slice a1 A.length c1, .slice ar t.size cr, .int .i64 E], .int .i64 30]) (by simp [results, Tryz.results35, go_sem]) rfl ⟨a1, c1, ar, cr, rfl, K.out.keep (bAA w _ _), bAA w _ _, fun _ h => .inl h⟩

  · have h1 : ((txt O A t.list).length : Int) < y := by omega
    clear h
    go_enter Tryz.func35, Tryz.ntmps35
    go_wp2_with fail
    refine D1.out.mono ?_
    rintro e w2 ⟨v, rfl, hv, hb2⟩
    have G := Hid.mk' (G.out.keep hb2)
    obtain ⟨xv, dv, ev⟩ := own_shape' hv
    subst ev
    have g0 := G.out.b6.cell (j := 0) rfl
    have g1 := G.out.b6.cell (j := 1) rfl
    have g2 := G.out.b6.cell (j := 2) rfl
    have g3 := G.out.b6.cell (j := 3) rfl
    have q0 := G.out.b6.frozen 0
    have q1 := G.out.b6.frozen 1
    have q2 := G.out.b6.frozen 2
    have q3 := G.out.b6.frozen 3
    have e0 := G.out.b3.cell (j := 0) rfl
    have e1 := G.out.b3.cell (j := 1) rfl
    have e2 := G.out.b3.cell (j := 2) rfl
    have e3 := G.out.b3.cell (j := 3) rfl
    have gz := G.out.b6.lt
    clear hv hb2 D1
    go_wp2
    all_goals exact bodyPost_ret (v := .tuple #[.agg #[.slice a0 O.length c0, .slice a1 A.length c1, .slice ar t.size cr, .int .i64 E], .int .i64 30]) (by simp [results, Tryz.results35, go_sem, g0, g1, g2, g3]) rfl ⟨a1, c1, ar, cr, rfl, (ko_set4 (K.out.keep G.out.be) G.out.b6 G.out.be _ _ _ _).1, (ko_set4 (K.out.keep G.out.be) G.out.b6 G.out.be _ _ _ _).2, fun _ h => .inl h⟩

set_option maxRecDepth 8000 in
set_option maxHeartbeats 4000000 in
theorem rDelete_nil (a0 a1 ar : Option Addr) (c0 c1 cr : Nat) (E : Int) (O A : List UInt8) (base : Nat) (t : Tr) (x : Int) (w : World) (K : Hid (Ko w base a0 c0 a1 c1 ar cr O A t)) (hg : Hid (Gds O A t.list)) (hs : Hid (t.size ≤ 524287)) (hz : Hid ((txt O A t.list).length ≤ 1048576)) (hlo : 0 ≤ x) (hhi : x ≤ ((txt O A t.list).length : Int)) :
    Calls Tryz.prog 35 #[.agg #[.slice a0 O.length c0, .slice a1 A.length c1, .slice ar t.size cr, .int .i64 E], .int .i64 x, .int .i64 x] w fun e w' => RedG w base a0 c0 a1 O A t E 0 e w' := by
  have G := Hid.mk' (Bx2.new w #[.slice a0 O.length c0, .slice a1 A.length c1, .slice ar t.size cr, .int .i64 E])
  have D1 := Hid.mk' (rText_any a0 a1 ar c0 c1 cr E O A base t _ (K.out.keep G.out.be) hg hs hz)
  go_enter Tryz.func35, Tryz.ntmps35
  go_wp2_with fail
  refine D1.out.mono ?_
  rintro e w2 ⟨v, rfl, hv, hb2⟩
  have G := Hid.mk' (G.out.keep hb2)
  obtain ⟨xv, dv, ev⟩ := own_shape' hv
  subst ev
  have g0 := G.out.b6.cell (j := 0) rfl
  have g1 := G.out.b6.cell (j := 1) rfl
  have g2 := G.out.b6.cell (j := 2) rfl
  have g3 := G.out.b6.cell (j := 3) rfl
  have q0 := G.out.b6.frozen 0
  have q1 := G.out.b6.frozen 1
  have q2 := G.out.b6.frozen 2
  have q3 := G.out.b6.frozen 3
  have e0 := G.out.b3.cell (j := 0) rfl
  have e1 := G.out.b3.cell (j := 1) rfl
  have e2 := G.out.b3.cell (j := 2) rfl
  have e3 := G.out.b3.cell (j := 3) rfl
  have gz := G.out.b6.lt
  clear hv hb2 D1
  go_wp2
  all_goals exact bodyPost_ret (v := .tuple #[.agg #[.slice a0 O.length c0, .slice a1 A.length c1, .slice ar t.size cr, .int .i64 E], .int .i64 0]) (by simp [results, Tryz.results35, go_sem, g0, g1, g2, g3]) rfl ⟨a1, c1, ar, cr, rfl, (ko_set4 (K.out.keep G.out.be) G.out.b6 G.out.be _ _ _ _).1, (ko_set4 (K.out.keep G.out.be) G.out.b6 G.out.be _ _ _ _).2, fun _ h => .inl h⟩

set_option maxRecDepth 8000 in
set_option maxHeartbeats 4000000 in
theorem rDelete_yes (a0 a1 ar : Option Addr) (c0 c1 cr : Nat) (E : Int) (O A : List UInt8) (base : Nat) (t : Tr) (x y : Int) (w : World) (K : Hid (Ko w base a0 c0 a1 c1 ar cr O A t)) (hB : Hid (base ≤ w.heap.size)) (hw : Hid t.whole) (hg : Hid (Gds O A t.list)) (hs : Hid (t.size ≤ 524280)) (hlo : 0 ≤ x) (hxy : x < y) (hhi : y ≤ ((txt O A t.list).length : Int)) (hz : Hid ((txt O A t.list).length ≤ 1048575)) (hbA : A.length ≤ 1048576) (hbO : O.length ≤ 1048576) (hE : 0 ≤ E ∧ E ≤ 4611686018427387904) :
    Calls Tryz.prog 35 #[.agg #[.slice a0 O.length c0, .slice a1 A.length c1, .slice ar t.size cr, .int .i64 E], .int .i64 x, .int .i64 y] w fun e w' => ∃ t', OutR O A t x y t' ∧ RedG w base a0 c0 a1 O A t' (E + 1) 0 e w' := by
  have G := Hid.mk' (Bx2.new w #[.slice a0 O.length c0, .slice a1 A.length c1, .slice ar t.size cr, .int .i64 E])
  have D1 := Hid.mk' (rText_any a0 a1 ar c0 c1 cr E O A base t _ (K.out.keep G.out.be) hg (show Hid (t.size ≤ 524287) by unfold Hid; have := hs.out; omega) (show Hid ((txt O A t.list).length ≤ 1048576) by unfold Hid; have := hz.out; omega))
  have hne : (x == y) = false := by simp only [beq_eq_false_iff_ne, ne_eq]; omega
  have hne2 : ¬ x = y := by omega
  have hBT := Hid.mk' (byt_txt hg.out)
  go_enter Tryz.func35, Tryz.ntmps35
  go_wp2_with fail
  refine D1.out.mono ?_
  rintro e w2 ⟨v, rfl, hv, hb2⟩
  have G2 := Hid.mk' (G.out.keep hb2)
  obtain ⟨xv, dv, ev⟩ := own_shape' hv
  subst ev
  have K2 := Hid.mk' (K.out.keep G2.out.be)
  have b0 := G2.out.b3.cell (j := 0) rfl
  have b1 := G2.out.b3.cell (j := 1) rfl
  have b2 := G2.out.b3.cell (j := 2) rfl
  have b3 := G2.out.b3.cell (j := 3) rfl
  have bz := G2.out.b6.lt
  clear hv hb2 D1 G
  have D2 := Hid.mk' (rout_any a0 a1 ar c0 c1 cr E O A base (Pr ar) t x y w2 K2.out.kr.1 K2.out.kr.2 hw hg hs hlo (by omega) (by rw [hBT.out]; exact hhi) hz hbA hbO hE)
  go_wp2_with fail
  refine D2.out.mono ?_
  rintro e w3 ⟨t', xr, dr, hp, rfl, hR', hb3⟩
  have G := Hid.mk' (G2.out.keep hb3)
  have K3 : Hid (Ko w3 base a0 c0 a1 c1 xr dr O A t') := ⟨Ab.own_keep K2.out.o hb3, Ab.own_keep K2.out.a hb3, Rk.own_lower hR' (Nat.le_trans hB.out G2.out.be.size)⟩
  have HPR := Hid.mk' hp
  have g0 := G.out.b6.cell (j := 0) rfl
  have g1 := G.out.b6.cell (j := 1) rfl
  have g2 := G.out.b6.cell (j := 2) rfl
  have g3 := G.out.b6.cell (j := 3) rfl
  have q0 := G.out.b6.frozen 0
  have q1 := G.out.b6.frozen 1
  have q2 := G.out.b6.frozen 2
  have q3 := G.out.b6.frozen 3
  have e0 := G.out.b3.cell (j := 0) rfl
  have e1 := G.out.b3.cell (j := 1) rfl
  have e2 := G.out.b3.cell (j := 2) rfl
  have e3 := G.out.b3.cell (j := 3) rfl
  have gz := G.out.b6.lt
  clear hp hR' hb3 D2 b0 b1 b2 b3 bz K2 G2
  go_wp2
  all_goals exact bodyPost_ret (v := .tuple #[.agg #[.slice a0 O.length c0, .slice a1 A.length c1, .slice xr t'.size dr, .int .i64 (E + 1)], .int .i64 0]) (by simp [results, Tryz.results35, go_sem, g0, g1, g2, g3]) rfl ⟨t', HPR.out, a1, c1, xr, dr, rfl, (ko_set4 K3.out G.out.b6 G.out.be _ _ _ _).1, (ko_set4 K3.out G.out.b6 G.out.be _ _ _ _).2, fun _ h => .inl h⟩

end Go.Proofs.YtmhpeppbhjpkiaaGreat

/- Insert and Delete, of a sheet and of the reference's, told by one relation of trees. -/
namespace Go.Proofs.YtmhpeppbhjpkiaaGreat
open Go.RowKit

variable {K : List (Nat × Obj)}
/-- an error, if there is one -/
def erV (r : Option (List UInt8 × Tr × Int)) (z : Int) : Int := if r.isSome then 0 else z
/-- what Insert makes of a tree -/
def InR (O A : List UInt8) (t : Tr) (e : Int) (off : Int) (l : List UInt8) (r : Option (List UInt8 × Tr × Int)) : Prop := if 0 ≤ off ∧ off ≤ ((txt O A t.list).length : Int) then ∃ t', PuR O A l t off t' ∧ r = some (A ++ l, t', cnt l.length e) else r = none
/-- what Delete makes of a tree -/
def DeR (O A : List UInt8) (t : Tr) (e : Int) (x y : Int) (r : Option (List UInt8 × Tr × Int)) : Prop := if 0 ≤ x ∧ x ≤ y ∧ y ≤ ((txt O A t.list).length : Int) then ∃ t', OuR O A t x (y - x).toNat t' ∧ r = some (A, t', cnt (y - x).toNat e) else r = none
theorem InR.one {O A l : List UInt8} {t : Tr} {e off : Int} {r r' : Option (List UInt8 × Tr × Int)} (hg : Gds O A t.list) (h : InR O A t e off l r) (k : InR O A t e off l r') : r = r' := by
  unfold InR at h k
  split at h
  · rename_i hc; rw [if_pos hc] at k
    obtain ⟨t1, h1, rfl⟩ := h
    obtain ⟨t2, k1, rfl⟩ := k
    rw [h1.one hg k1]
  · rename_i hc; rw [if_neg hc] at k; rw [h, k]
theorem DeR.one {O A : List UInt8} {t : Tr} {e x y : Int} {r r' : Option (List UInt8 × Tr × Int)} (hw : t.whole) (hg : Gds O A t.list) (h : DeR O A t e x y r) (k : DeR O A t e x y r') : r = r' := by
  unfold DeR at h k
  split at h
  · rename_i hc; rw [if_pos hc] at k
    obtain ⟨t1, h1, rfl⟩ := h
    obtain ⟨t2, k1, rfl⟩ := k
    rw [h1.one hw hg k1]
  · rename_i hc; rw [if_neg hc] at k; rw [h, k]
/-- what a step leaves: a sheet that is right, of few pieces, of few bytes -/
def Okr (O A : List UInt8) (t : Tr) (e : Int) (n k m : Nat) (r : Option (List UInt8 × Tr × Int)) : Prop := ∀ A' t' e', r = some (A', t', e') → t'.whole ∧ Gds O A' t'.list ∧ (txt O A' t'.list).length ≤ (txt O A t.list).length + n ∧ t'.list.length ≤ t.list.length + k ∧ A'.length ≤ A.length + n ∧ e ≤ e' ∧ e' ≤ e + m
theorem InR.ok {O A l : List UInt8} {t : Tr} {e off : Int} {r : Option (List UInt8 × Tr × Int)} (h : InR O A t e off l r) (hw : t.whole) (hg : Gds O A t.list) (hz : (txt O A t.list).length + l.length ≤ 1048575) (hA : A.length + l.length ≤ 1048576) : Okr O A t e l.length 2 2 r := by
  intro A' t' e' hr
  subst hr
  unfold InR at h
  split at h
  · rename_i hc
    obtain ⟨t1, h1, h2⟩ := h
    simp only [Option.some.injEq, Prod.mk.injEq] at h2
    obtain ⟨rfl, rfl, rfl⟩ := h2
    obtain ⟨o1, o2, o3, o4⟩ := h1.ok hw hg hz hA
    have := cnt_le l.length e
    refine ⟨o1, o2, ?_, by split at o4 <;> omega, by rw [List.length_append]; omega, by omega, by omega⟩
    rw [o3]
    simp only [List.length_append, List.length_take, List.length_drop]
    omega
  · simp at h
theorem DeR.ok {O A : List UInt8} {t : Tr} {e x y : Int} {r : Option (List UInt8 × Tr × Int)} (h : DeR O A t e x y r) (hw : t.whole) (hg : Gds O A t.list) (hz : (txt O A t.list).length ≤ 1048575) : Okr O A t e 0 2 2 r := by
  intro A' t' e' hr
  subst hr
  unfold DeR at h
  split at h
  · rename_i hc
    obtain ⟨t1, h1, h2⟩ := h
    simp only [Option.some.injEq, Prod.mk.injEq] at h2
    obtain ⟨rfl, rfl, rfl⟩ := h2
    obtain ⟨o1, o2, o3, o4⟩ := h1.ok hw hg hz hc.1
    have := cnt_le (y - x).toNat e
    refine ⟨o1, o2, ?_, by split at o4 <;> omega, by omega, by omega, by omega⟩
    rw [o3]
    simp only [List.length_append, List.length_take, List.length_drop]
    omega
  · simp at h
theorem edT_nsum : ∀ (es : List Ed) (T T' : List UInt8), apT T es = some T' → T'.length ≤ T.length + nsum es
  | [], T, T', h => by simp [apT] at h; subst h; simp [nsum]
  | d :: ds, T, T', h => by
    unfold apT at h
    split at h
    · rename_i hd
      have := edT_nsum ds _ _ h
      have := edT_len hd
      have n : nsum (d :: ds) = d.new.length + nsum ds := rfl
      omega
    · simp at h
theorem ApR.okr {O A : List UInt8} {t : Tr} {e : Int} {es : List Ed} {r : Option (List UInt8 × Tr × Int)} (h : ApR O A t e es r) (hw : t.whole) (hg : Gds O A t.list) (hz : (txt O A t.list).length + nsum es ≤ 1048575) (hA : A.length + nsum es ≤ 1048576) : Okr O A t e (nsum es) (dsum es) (2 * es.length) r := by
  intro A' t' e' hr
  subst hr
  obtain ⟨h1, h2, h3, h4, h5, h6, h7⟩ := ApR.ok es A t e A' t' e' hw hg hz hA h
  have := edT_nsum es _ _ h3
  exact ⟨h1, h2, this, h4, by omega, h6, by omega⟩
theorem LzT.wh {w0 W : World} {sb : Nat} {O A : List UInt8} {t : Tr} {e : Int} (h : LzT K w0 W sb O A t e) : t.whole ∧ Gds O A t.list := by
  obtain ⟨⟨bb, vo, va, a, h1, h2, h3⟩, hb⟩ := h
  exact ⟨h2.1.1, h3⟩
theorem LzT.out {w0 W : World} {sb : Nat} {O A : List UInt8} {t : Tr} {e : Int} (x k : Nat) (h : LzT K w0 W sb O A t e) (hz : (txt O A t.list).length ≤ 1048574) (hx : x + k ≤ (txt O A t.list).length) (he : 0 ≤ e ∧ e ≤ 4611686018427387904) :
    Calls Tryz.prog 68 #[.pointer (some ⟨sb, 0, none⟩), .int .i64 (x : Int), .int .i64 ((x + k : Nat) : Int)] W fun e' w' => (∃ r, e' = .returned r) ∧ ∃ t', OuR O A t x k t' ∧ LzT K w0 w' sb O A t' (cnt k e) := by
  obtain ⟨⟨bb, vo, va, a, h1, h2, h3⟩, hb⟩ := h
  refine (takeOut_tr (w := W) x k ⟨⟨va, a, h1, h2.1, h3, .inl rfl⟩, Chg.of_below (Below.refl _ _) _ _ _⟩ hz hx he).mono ?_
  rintro e' w' ⟨hr, t', ho, hl, -⟩
  exact ⟨hr, t', ho, hl.lz hb h1.buf.added h2.2⟩
theorem LzT.into {w0 W : World} {sb : Nat} {O A : List UInt8} {t : Tr} {e : Int} (x : Nat) (ao : Option Addr) (c : Nat) (l : List UInt8) (h : LzT K w0 W sb O A t e) (hz : (txt O A t.list).length + l.length ≤ 1048575) (hA : A.length + l.length ≤ 1048576) (hx : x ≤ (txt O A t.list).length) (he : 0 ≤ e ∧ e ≤ 4611686018427387904) (hv : Ab.Rd W (.slice ao l.length c) l) :
    Calls Tryz.prog 43 #[.pointer (some ⟨sb, 0, none⟩), .int .i64 (x : Int), .slice ao l.length c] W fun e' w' => (∃ r, e' = .returned r) ∧ ∃ t', PuR O A l t x t' ∧ LzT K w0 w' sb O (A ++ l) t' (cnt l.length e) := by
  obtain ⟨⟨bb, vo, va, a, h1, h2, h3⟩, hb⟩ := h
  refine (putIn_tr (w := W) x ao c l ⟨⟨va, a, h1, h2.1, h3, .inl rfl⟩, Chg.of_below (Below.refl _ _) _ _ _⟩ hz hA hx he hv).mono ?_
  rintro e' w' ⟨hr, t', ho, hl, -⟩
  exact ⟨hr, t', ho, hl.lz hb h1.buf.added h2.2⟩
set_option maxHeartbeats 1000000 in
theorem Insert_tr (w0 W : World) (sb : Nat) (O A : List UInt8) (t : Tr) (e : Int) (off : Int) (ao : Option Addr) (c : Nat) (l : List UInt8) (hL : Hid (LzT K w0 W sb O A t e)) (hz : Hid ((txt O A t.list).length + l.length ≤ 1048574)) (hA : A.length + l.length ≤ 1048576) (he : 0 ≤ e ∧ e ≤ 4611686018427387904) (hv : Hid (Ab.Rd W (.slice ao l.length c) l)) :
    Calls Tryz.prog 13 #[.pointer (some ⟨sb, 0, none⟩), .int .i64 off, .slice ao l.length c] W fun e' w' => ∃ r, InR O A t e off l r ∧ e' = .returned (.int .i64 (erV r 30)) ∧ ApGT K w0 w' sb O A t e r := by
  have HR := hid (hL.out.lz.len off off)
  by_cases h : 0 ≤ off ∧ off ≤ ((txt O A t.list).length : Int)
  · have HC := hid h
    rw [decide_eq_true (show 0 ≤ off ∧ off ≤ off ∧ off ≤ ((txt O A t.list).length : Int) by omega)] at HR
    obtain ⟨x, rfl⟩ := Int.eq_ofNat_of_zero_le h.1
    have hx : Hid (x ≤ (txt O A t.list).length) := by unfold Hid; omega
    clear h
    go_enter Tryz.func13, Tryz.ntmps13
    go_wp2_with fail
    refine HR.out.mono ?_
    rintro e9 w1 ⟨rfl, hb1⟩
    have L1 := hid (hL.out.keep hb1)
    have V1 := hid (hv.out.keep hb1)
    clear hb1
    go_wp2_with fail
    refine (L1.out.into x ao c l (by have := hz.out; omega) hA hx.out he V1.out).mono ?_
    rintro e9 w2 ⟨⟨r, rfl⟩, t', hp, hl⟩
    have L2 := hid hl
    have HP := hid hp
    clear hl hp
    go_wp2
    go_ret
    refine ⟨some (A ++ l, t', cnt l.length e), ?_, rfl, L2.out⟩
    unfold InR
    rw [if_pos HC.out]
    exact ⟨t', HP.out, rfl⟩
  · have HC := hid h
    rw [decide_eq_false (show ¬ (0 ≤ off ∧ off ≤ off ∧ off ≤ ((txt O A t.list).length : Int)) by omega)] at HR
    clear h
    go_enter Tryz.func13, Tryz.ntmps13
    go_wp2_with fail
    refine HR.out.mono ?_
    rintro e9 w1 ⟨rfl, hb1⟩
    have L1 := hid (hL.out.keep hb1)
    clear hb1
    go_wp2
    go_ret
    refine ⟨none, ?_, rfl, L1.out⟩
    unfold InR
    rw [if_neg HC.out]
set_option maxHeartbeats 1000000 in
theorem Delete_tr (w0 W : World) (sb : Nat) (O A : List UInt8) (t : Tr) (e : Int) (x y : Int) (hL : Hid (LzT K w0 W sb O A t e)) (hz : Hid ((txt O A t.list).length ≤ 1048574)) (he : 0 ≤ e ∧ e ≤ 4611686018427387904) :
    Calls Tryz.prog 34 #[.pointer (some ⟨sb, 0, none⟩), .int .i64 x, .int .i64 y] W fun e' w' => ∃ r, DeR O A t e x y r ∧ e' = .returned (.int .i64 (erV r 30)) ∧ ApGT K w0 w' sb O A t e r := by
  have HR := hid (hL.out.lz.len x y)
  by_cases h : 0 ≤ x ∧ x ≤ y ∧ y ≤ ((txt O A t.list).length : Int)
  · have HC := hid h
    rw [decide_eq_true h] at HR
    obtain ⟨x, rfl⟩ := Int.eq_ofNat_of_zero_le h.1
    obtain ⟨k, rfl⟩ : ∃ k : Nat, y = ((x + k : Nat) : Int) := ⟨(y - x).toNat, by omega⟩
    have hx : Hid (x + k ≤ (txt O A t.list).length) := by unfold Hid; omega
    clear h
    have HKK : Hid ((((x + k : Nat) : Int) - (x : Int)).toNat = k) := by unfold Hid; omega
    have HO := hid (fun W' (hL : LzT K w0 W' sb O A t e) => hL.out x k hz.out hx.out he)
    generalize ((x + k : Nat) : Int) = y at *
    go_enter Tryz.func34, Tryz.ntmps34
    go_wp2_with fail
    refine HR.out.mono ?_
    rintro e9 w1 ⟨rfl, hb1⟩
    have L1 := hid (hL.out.keep hb1)
    clear hb1
    go_wp2_with fail
    refine (HO.out _ L1.out).mono ?_
    rintro e9 w2 ⟨⟨r, rfl⟩, t', hp, hl⟩
    have L2 := hid hl
    have HP := hid hp
    clear hl hp
    go_wp2
    go_ret
    refine ⟨some (A, t', cnt k e), ?_, rfl, L2.out⟩
    unfold DeR
    rw [if_pos HC.out, HKK.out]
    exact ⟨t', HP.out, rfl⟩
  · have HC := hid h
    rw [decide_eq_false h] at HR
    clear h
    go_enter Tryz.func34, Tryz.ntmps34
    go_wp2_with fail
    refine HR.out.mono ?_
    rintro e9 w1 ⟨rfl, hb1⟩
    have L1 := hid (hL.out.keep hb1)
    clear hb1
    go_wp2
    go_ret
    refine ⟨none, ?_, rfl, L1.out⟩
    unfold DeR
    rw [if_neg HC.out]
/-- what an edit of the reference's leaves, told by what it makes of the tree -/
def RedR (w : World) (base : Nat) (a0 : Option Addr) (c0 : Nat) (a1 : Option Addr) (O A : List UInt8) (t : Tr) (E : Int) (r : Option (List UInt8 × Tr × Int)) (z : Int) (e : Ending) (w' : World) : Prop := RedG w base a0 c0 a1 O (r.getD (A, t, E)).1 (r.getD (A, t, E)).2.1 (r.getD (A, t, E)).2.2 (erV r z) e w'
theorem rInsert_tr (a0 a1 ar ap : Option Addr) (c0 c1 cr cp : Nat) (E : Int) (O A l : List UInt8) (base : Nat) (t : Tr) (off : Int) (w : World) (K : Hid (Ko w base a0 c0 a1 c1 ar cr O A t)) (hB : Hid (base ≤ w.heap.size)) (hv0 : Hid (Ab.Rd w (.slice ap l.length cp) l)) (hw : Hid t.whole) (hg : Hid (Gds O A t.list)) (hs : Hid (t.size ≤ 524280)) (hz : Hid ((txt O A t.list).length + l.length ≤ 1048575)) (hAl : A.length + l.length ≤ 1048576) (hbO : O.length ≤ 1048576) (hE : 0 ≤ E ∧ E ≤ 4611686018427387904) :
    Calls Tryz.prog 33 #[.agg #[.slice a0 O.length c0, .slice a1 A.length c1, .slice ar t.size cr, .int .i64 E], .int .i64 off, .slice ap l.length cp] w fun e w' => ∃ r, InR O A t E off l r ∧ RedR w base a0 c0 a1 O A t E r 30 e w' := by
  have hs7 : Hid (t.size ≤ 524287) := by unfold Hid; have := hs.out; omega
  have hz7 : Hid ((txt O A t.list).length ≤ 1048576) := by unfold Hid; have := hz.out; omega
  by_cases h : 0 ≤ off ∧ off ≤ ((txt O A t.list).length : Int)
  · by_cases hl : l = []
    · subst hl
      refine (rInsert_nil a0 a1 ar ap c0 c1 cr cp E O A base t off w K hg hs7 hz7 h.1 h.2).mono ?_
      intro e w' hr
      refine ⟨some (A ++ [], t, cnt 0 E), ?_, ?_⟩
      · unfold InR
        rw [if_pos h]
        exact ⟨t, rfl, rfl⟩
      · rw [List.append_nil]
        exact hr
    · refine (rInsert_yes a0 a1 ar ap c0 c1 cr cp E O A l base t off w K hB hv0 hl hw hg hs h.1 h.2 hz hAl hbO hE).mono ?_
      rintro e w' ⟨t', hp, hr⟩
      have hn : ¬ l.length = 0 := fun e => hl (List.length_eq_zero_iff.1 e)
      refine ⟨some (A ++ l, t', cnt l.length E), ?_, ?_⟩
      · unfold InR
        rw [if_pos h]
        exact ⟨t', by unfold PuR; rw [if_neg hn]; exact hp, rfl⟩
      · unfold RedR cnt
        rw [if_neg hn]
        exact hr
  · refine (rInsert_no a0 a1 ar ap c0 c1 cr l.length cp E O A base t off w K hg hs7 hz7 (by omega)).mono ?_
    intro e w' hr
    refine ⟨none, ?_, hr⟩
    unfold InR
    rw [if_neg h]
theorem rDelete_tr (a0 a1 ar : Option Addr) (c0 c1 cr : Nat) (E : Int) (O A : List UInt8) (base : Nat) (t : Tr) (x y : Int) (w : World) (K : Hid (Ko w base a0 c0 a1 c1 ar cr O A t)) (hB : Hid (base ≤ w.heap.size)) (hw : Hid t.whole) (hg : Hid (Gds O A t.list)) (hs : Hid (t.size ≤ 524280)) (hz : Hid ((txt O A t.list).length ≤ 1048575)) (hbA : A.length ≤ 1048576) (hbO : O.length ≤ 1048576) (hE : 0 ≤ E ∧ E ≤ 4611686018427387904) :
    Calls Tryz.prog 35 #[.agg #[.slice a0 O.length c0, .slice a1 A.length c1, .slice ar t.size cr, .int .i64 E], .int .i64 x, .int .i64 y] w fun e w' => ∃ r, DeR O A t E x y r ∧ RedR w base a0 c0 a1 O A t E r 30 e w' := by
  have hs7 : Hid (t.size ≤ 524287) := by unfold Hid; have := hs.out; omega
  have hz7 : Hid ((txt O A t.list).length ≤ 1048576) := by unfold Hid; have := hz.out; omega
  by_cases h : 0 ≤ x ∧ x ≤ y ∧ y ≤ ((txt O A t.list).length : Int)
  · by_cases hl : x = y
    · subst hl
      refine (rDelete_nil a0 a1 ar c0 c1 cr E O A base t x w K hg hs7 hz7 h.1 h.2.2).mono ?_
      intro e w' hr
      refine ⟨some (A, t, cnt (x - x).toNat E), ?_, ?_⟩
      · unfold DeR
        rw [if_pos h]
        exact ⟨t, by unfold OuR; rw [if_pos (by omega)], rfl⟩
      · unfold RedR cnt
        rw [if_pos (by omega)]
        exact hr
    · refine (rDelete_yes a0 a1 ar c0 c1 cr E O A base t x y w K hB hw hg hs h.1 (by omega) h.2.2 hz hbA hbO hE).mono ?_
      rintro e w' ⟨t', hp, hr⟩
      refine ⟨some (A, t', cnt (y - x).toNat E), ?_, ?_⟩
      · unfold DeR
        rw [if_pos h]
        exact ⟨t', by unfold OuR; rw [if_neg (by omega), show x + (((y - x).toNat : Nat) : Int) = y from by omega]; exact hp, rfl⟩
      · unfold RedR cnt
        rw [if_neg (by omega)]
        exact hr
  · refine (rDelete_no a0 a1 ar c0 c1 cr E O A base t x y w K hg hs7 hz7 (by omega)).mono ?_
    intro e w' hr
    refine ⟨none, ?_, hr⟩
    unfold DeR
    rw [if_neg h]

end Go.Proofs.YtmhpeppbhjpkiaaGreat

