/- The reference's out. -/
import Derived.Test.YtmhpeppbhjpkiaaGreatPm35
import Derived.Test.YtmhpeppbhjpkiaaGreatPm14
import Derived.Deep.CutRange
import Derived.Deep.RegionHeld3
namespace Go.Proofs.YtmhpeppbhjpkiaaGreat
open Go.RowKit

/-- rows that outlive a call's two boxes -/
def Pq2 (w : World) (P : Nat → Prop) : Nat → Prop := fun b => P b ∨ w.heap.size + 2 ≤ b
structure Po (w W : World) (P : Nat → Prop) (bx : Array Value) (vl : Value) (T : Tr) (vu : Value) (U : Tr) : Prop where
  lo : ∀ b, P b → b < w.heap.size
  b3 : Blk W w.heap.size 31 bx
  b6 : Blk W (w.heap.size + 1) 31 #[.slice none 0 0, .slice none 0 0, .slice none 0 0, .int .i64 0]
  rl : Rdq W (Pq2 w P) vl (rowsT T)
  ru : Rdq W (Pq2 w P) vu (rowsT U)
  be : Below w.heap.size w W
theorem Po.keep {w W W' : World} {P : Nat → Prop} {bx : Array Value} {vl : Value} {T : Tr} {vu : Value} {U : Tr} (h : Po w W P bx vl T vu U) (hb : Below W.heap.size W W') : Po w W' P bx vl T vu U :=
  ⟨h.lo, h.b3.keep hb, h.b6.keep hb, h.rl.keep hb, h.ru.keep hb, bT h.be hb⟩
theorem Po.n {w W : World} {P : Nat → Prop} {bx : Array Value} {vl : Value} {T : Tr} {vu : Value} {U : Tr} (h : Po w W P bx vl T vu U) : ¬ Pq2 w P w.heap.size ∧ ¬ Pq2 w P (w.heap.size + 1) := by
  refine ⟨?_, ?_⟩
  · rintro (h1 | h1)
    · have := h.lo _ h1; omega
    · omega
  · rintro (h1 | h1)
    · have := h.lo _ h1; omega
    · omega
theorem Po.set3 {w W : World} {P : Nat → Prop} {bx : Array Value} {vl : Value} {T : Tr} {vu : Value} {U : Tr} (h : Po w W P bx vl T vu U) (j : Nat) (v : Value) : Po w (W.setCell ⟨w.heap.size, j, none⟩ v) P (bx.setIfInBounds j v) vl T vu U :=
  ⟨h.lo, blk_set h.b3 v, blk_off h.b6 (by omega) v, h.rl.set h.n.1, h.ru.set h.n.1, h.be.setCell (Nat.le_refl _) v⟩
theorem Po.left {w W W' : World} {P : Nat → Prop} {bx : Array Value} {vl vl' : Value} {T T' : Tr} {vu : Value} {U : Tr} (h : Po w W P bx vl T vu U) (hb : Below W.heap.size W W') (hr : Rw1 W T' vl' W') : Po w W' P bx vl' T' vu U := by
  have k := h.keep hb
  refine ⟨k.lo, k.b3, k.b6, (rw_rq (P := P) (w := W) hr (Nat.le_refl _)).mono (fun b hb' => ?_), k.ru, k.be⟩
  rcases hb' with h1 | h1
  · exact .inl h1
  · exact .inr (by have := h.b6.lt; omega)
theorem Po.right {w W W' : World} {P : Nat → Prop} {bx : Array Value} {vl vu' : Value} {T U' : Tr} {vu : Value} {U : Tr} (h : Po w W P bx vl T vu U) (hb : Below W.heap.size W W') (hr : Rw1 W U' vu' W') : Po w W' P bx vl T vu' U' := by
  have k := h.keep hb
  refine ⟨k.lo, k.b3, k.b6, k.rl, (rw_rq (P := P) (w := W) hr (Nat.le_refl _)).mono (fun b hb' => ?_), k.be⟩
  rcases hb' with h1 | h1
  · exact .inl h1
  · exact .inr (by have := h.b6.lt; omega)
theorem rq_of2 {w W : World} {P : Nat → Prop} {v : Value} {L : List Rw} (h : Rdq W (Pq2 w P) v L) : Rq w W P v L := by
  obtain ⟨ao, n, c, h1, h2, h3, h4⟩ := h
  refine ⟨ao, n, c, h1, h2, h3, ?_⟩
  by_cases hnil : L = []
  · exact .inl hnil
  rcases h4 with h4 | ⟨b, off, e, hr, hp⟩
  · exact .inl h4
  · refine .inr ⟨b, off, e, hr, ?_⟩
    rcases hp with hp | hp
    · exact .inl hp
    · cases L with
      | nil => exact absurd rfl hnil
      | cons x L' => exact .inr ⟨by omega, cell_lt (hr 0 x rfl).1⟩
theorem byt_txt {O A : List UInt8} {t : Tr} (hg : Gds O A t.list) : t.byt = ((txt O A t.list).length : Int) := by rw [byt_list]; exact (txt_len hg).symm
/-- what the reference's out gives -/
def RoutG (w : World) (a0 : Option Addr) (c0 : Nat) (a1 : Option Addr) (c1 : Nat) (O A : List UInt8) (t : Tr) (x y E : Int) (e : Ending) (w' : World) : Prop := ∃ t' xr dr, OutR O A t x y t' ∧ e = .returned (.agg #[.slice a0 O.length c0, .slice a1 A.length c1, .slice xr t'.size dr, .int .i64 (E + 1)]) ∧ w'.ownsRow w.heap.size 128 10 (.slice xr t'.size dr) t'.size (rcells (rowsT t')) ∧ Below w.heap.size w w'

set_option maxRecDepth 100000 in
set_option maxHeartbeats 8000000 in
theorem rout_any (a0 a1 ar : Option Addr) (c0 c1 cr : Nat) (E : Int) (O A : List UInt8) (base : Nat) (P : Nat → Prop) (t : Tr) (x y : Int) (w : World) (K : Hid (Kr w base P a0 c0 a1 c1 ar cr O A t)) (hP : Hid (∀ b, P b → b < w.heap.size)) (hw : Hid t.whole) (hg : Hid (Gds O A t.list)) (hs : Hid (t.size ≤ 524280)) (hlo : 0 ≤ x) (hxy : x ≤ y) (hhi : y ≤ t.byt) (hz : Hid ((txt O A t.list).length ≤ 1048575)) (hbA : A.length ≤ 1048576) (hbO : O.length ≤ 1048576) (hE : 0 ≤ E ∧ E ≤ 4611686018427387904) :
    Calls Tryz.prog 69 #[.agg #[.slice a0 O.length c0, .slice a1 A.length c1, .slice ar t.size cr, .int .i64 E], .int .i64 x, .int .i64 y] w fun e w' => RoutG w a0 c0 a1 c1 O A t x y E e w' := by
  have hE1 := hE.1
  have hE2 := hE.2
  have hBT := Hid.mk' (byt_txt hg.out)
  have hbt : t.byt ≤ 1048576 := by rw [hBT.out]; have := hz.out; omega
  have B0 := Hid.mk' (bAA w (.cells #[.slice a0 O.length c0, .slice a1 A.length c1, .slice ar t.size cr, .int .i64 E] 31) (.cells #[.slice none 0 0, .slice none 0 0, .slice none 0 0, .int .i64 0] 31))
  have Z3 := Hid.mk' ((Blk.new w 31 #[.slice a0 O.length c0, .slice a1 A.length c1, .slice ar t.size cr, .int .i64 E]).keep (bAlloc (Below.refl _ _) (.cells #[.slice none 0 0, .slice none 0 0, .slice none 0 0, .int .i64 0] 31)))
  have Z6 := Blk.new (w.alloc (.cells #[.slice a0 O.length c0, .slice a1 A.length c1, .slice ar t.size cr, .int .i64 E] 31)) 31 #[.slice none 0 0, .slice none 0 0, .slice none 0 0, .int .i64 0]
  rw [World.size_alloc] at Z6
  have Z6 := Hid.mk' Z6
  have C1 := Hid.mk' (rcut_any a0 a1 ar ar c0 c1 t.size cr cr E O A base P t y _ (Ab.own_keep K.out.o B0.out) (Ab.own_keep K.out.a B0.out) (K.out.r.keep B0.out) hw hg (show Hid (t.size ≤ 524286) by unfold Hid; have := hs.out; omega) (by omega) hhi hbt hbO (by omega))
  go_enter Tryz.func69, Tryz.ntmps69
  go_wp2_with fail
  refine C1.out.mono ?_
  rintro e w3 ⟨T, U, x1, d1, x2, d2, hcut, rfl, hT, hU, hb3⟩
  have HC := Hid.mk' hcut
  have B3 := Hid.mk' (bT B0.out hb3)
  have Y3 := Hid.mk' (Z3.out.keep hb3)
  have Y6 := Hid.mk' (Z6.out.keep hb3)
  have hsz3 : Hid (w.heap.size + 2 ≤ w3.heap.size) := by unfold Hid; have := hb3.size; simp at this; omega
  have conv : ∀ {v : Value} {X : Tr}, Rq ((w.alloc (.cells #[.slice a0 O.length c0, .slice a1 A.length c1, .slice ar t.size cr, .int .i64 E] 31)).alloc (.cells #[.slice none 0 0, .slice none 0 0, .slice none 0 0, .int .i64 0] 31)) w3 P v (rowsT X) → Rdq w3 (Pq2 w P) v (rowsT X) := fun h => h.mono (fun b hb => by
    rcases hb with h | h
    · exact .inl h
    · simp at h; exact .inr (by omega))
  have RT := Hid.mk' (conv hT)
  have RU := Hid.mk' (conv hU)
  clear hcut hT hU hb3 conv C1 Z3 Z6 B0
  have CG := Hid.mk' (CutR.ok HC.out hw.out hg.out)
  have szT : T.size + U.size ≤ 524281 := by have := CG.out.2.2.2.2.2.2; have := hs.out; omega
  have bT1 : Hid (T.byt = y) := by
    unfold Hid
    rw [byt_txt CG.out.2.2.1, CG.out.2.2.2.2.1, List.length_take]
    have := hBT.out
    omega
  have C2 := Hid.mk' (rcut_any a0 a1 ar x1 c0 c1 t.size cr d1 E O A base (Pq2 w P) T x w3 (Ab.own_keep K.out.o B3.out) (Ab.own_keep K.out.a B3.out) RT CG.out.1 CG.out.2.2.1 (show Hid (T.size ≤ 524286) by unfold Hid; omega) hlo (by rw [bT1.out]; exact hxy) (by rw [bT1.out]; omega) hbO (by omega))
  have y0 := Y3.out.cell (j := 0) rfl
  have y1 := Y3.out.cell (j := 1) rfl
  have y2 := Y3.out.cell (j := 2) rfl
  have y3 := Y3.out.cell (j := 3) rfl
  go_wp2_with fail
  refine C2.out.mono ?_
  rintro e w4 ⟨T1, U1, x3, d3, x4, d4, hcut2, rfl, hT1, hU1, hb4⟩
  have HC2 := Hid.mk' hcut2
  have P4 : Hid (Po w w4 P #[.slice a0 O.length c0, .slice a1 A.length c1, .slice ar t.size cr, .int .i64 E] (.slice x3 T1.size d3) T1 (.slice x2 U.size d2) U) :=
    ⟨hP.out, Y3.out.keep hb4, Y6.out.keep hb4, hT1.mono (fun b hb => by
      rcases hb with h | h
      · exact h
      · exact .inr (by have := hsz3.out; omega)), RU.out.keep hb4, bT B3.out hb4⟩
  clear hcut2 hT1 hU1 hb4 C2 y0 y1 y2 y3 Y3 Y6 RT RU B3
  have CG2 := Hid.mk' (CutR.ok HC2.out CG.out.1 CG.out.2.2.1)
  have szT1 : T1.size ≤ T.size + 1 := by have := CG2.out.2.2.2.2.2.2; omega
  have GT1 := Hid.mk' (gdw_of CG2.out.1 CG2.out.2.2.1 (by omega))
  have GU := Hid.mk' (gdw_of CG.out.2.1 CG.out.2.2.2.1 (by omega))
  have szS : T1.size + U.size ≤ 524287 := by omega
  have c3 := P4.out.b3.cell (j := 3) rfl
  have f3 := P4.out.b3.frozen 3
  have P5 := Hid.mk' (P4.out.set3 3 (.int .i64 (E + 1)))
  simp only [List.setIfInBounds_toArray, List.set_cons_zero, List.set_cons_succ] at P5
  have zy := P4.out.b3.lt
  have hadd : IntKind.i64.wrap (E + 1) = E + 1 := by rw [IntKind.wrap_i64]; omega
  have D1 := Hid.mk' (Piecesr_any T1 _ _ (show Hid (T1.size ≤ 524287) by unfold Hid; omega) GT1.out.ft P5.out.rl.rdr)
  have HGL : Hid (jnT T1 ⟨0, 0, 0, 0⟩ U = Tr.gluT T1 U) := by
    unfold Hid jnT
    rw [if_neg (by decide)]
  clear P4
  go_wp2_with fail
  refine D1.out.mono ?_
  rintro e w6 ⟨lp, rfl, hop, hb6⟩
  have P6 := Hid.mk' (P5.out.keep hb6)
  have HP6 := Hid.mk' hop
  obtain ⟨gx, gc, ep⟩ := own_shape' hop
  subst ep
  clear hop hb6 P5 D1 c3 f3 zy
  have D2 := Hid.mk' (Piecesr_any U _ _ (show Hid (U.size ≤ 524287) by unfold Hid; omega) GU.out.ft P6.out.ru.rdr)
  go_wp2_with fail
  refine D2.out.mono ?_
  rintro e w7 ⟨lq, rfl, hoq, hb7⟩
  have P7 := Hid.mk' (P6.out.keep hb7)
  have HP := Hid.mk' (own_keep' HP6.out hb7)
  have HQ := Hid.mk' hoq
  obtain ⟨hx, hc, eq⟩ := own_shape' hoq
  subst eq
  clear hoq hb7 P6 HP6 D2
  by_cases hU0 : U.size = 0
  · have HU0 := Hid.mk' hU0
    have n1 : ¬ (0 : Int) < (U.size : Int) := by omega
    have HMR : Hid (MeetR T1 U (Tr.gluT T1 U)) := .inl ⟨HU0.out, rfl⟩
    clear hU0
    have PP := P7
    by_cases hT0 : (0 : Int) < (T1.size : Int)
    · have D5 := Hid.mk' (Joinr_any T1 U _ _ 0 0 0 0 w7 GT1 GU szS PP.out.rl.rdr PP.out.ru.rdr)
      rw [HGL.out] at D5
      go_wp2_with fail
      refine D5.out.mono ?_
      rintro e w10 ⟨lj, rfl, hj10, hb10⟩
      have PA := Hid.mk' (PP.out.left hb10 hj10)
      obtain ⟨xj, dj, ej⟩ := own_shape' hj10
      subst ej
      have HJW : Hid (w10.ownsRow (w.heap.size + 2) 128 10 (.slice xj (Tr.gluT T1 U).size dj) (Tr.gluT T1 U).size (rcells (rowsT (Tr.gluT T1 U)))) := Rk.own_lower hj10 (by have := PP.out.b6.lt; omega)
      clear hj10 hb10 D5 PP
      generalize hTJ : Tr.gluT T1 U = TJ at *
      have HTJ := Hid.mk' hTJ
      clear hTJ
      have b2 := PA.out.b3.cell (j := 2) rfl
      have f2 := PA.out.b3.frozen 2
      have PC := Hid.mk' (PA.out.set3 2 (.slice xj TJ.size dj))
      simp only [List.setIfInBounds_toArray, List.set_cons_zero, List.set_cons_succ] at PC
      have zz := PA.out.b6.lt
      have zy := PA.out.b3.lt
      have e0 := PC.out.b3.cell (j := 0) rfl
      have e1 := PC.out.b3.cell (j := 1) rfl
      have e2 := PC.out.b3.cell (j := 2) rfl
      have e3 := PC.out.b3.cell (j := 3) rfl
      have z0 := PC.out.b6.cell (j := 0) rfl
      have z1 := PC.out.b6.cell (j := 1) rfl
      have z2 := PC.out.b6.cell (j := 2) rfl
      have z3 := PC.out.b6.cell (j := 3) rfl
      have h0 := PC.out.b6.frozen 0
      have h1 := PC.out.b6.frozen 1
      have h2 := PC.out.b6.frozen 2
      have h3 := PC.out.b6.frozen 3
      clear PA
      go_wp2
      all_goals exact bodyPost_ret (v := .agg #[.slice a0 O.length c0, .slice a1 A.length c1, .slice xj TJ.size dj, .int .i64 (E + 1)]) (by simp [results, Tryz.results69, go_sem, z0, z1, z2, z3]) rfl ⟨TJ, xj, dj, ⟨T, U, T1, U1, HC.out, HC2.out, HMR.out⟩, rfl, by
        have h1 : ∀ k, (Value.slice xj TJ.size dj).ownBlock = some k → w.heap.size + 2 ≤ k := fun k hk => (HJW.out.lt k hk).1
        have n1 : (Value.slice xj TJ.size dj).ownBlock ≠ some w.heap.size := fun e => by have := h1 _ e; omega
        have n2 : (Value.slice xj TJ.size dj).ownBlock ≠ some (w.heap.size + 1) := fun e => by have := h1 _ e; omega
        exact Rk.own_lower (own_off (own_off (own_off (own_off (own_off HJW.out n1) n2) n2) n2) n2) (by omega), setb (setb (setb (setb PC.out.be _ _) _ _) _ _) _ _⟩
    · clear HU0
      have D5 := Hid.mk' (Joinr_any T1 U _ _ 0 0 0 0 w7 GT1 GU szS PP.out.rl.rdr PP.out.ru.rdr)
      rw [HGL.out] at D5
      go_wp2_with fail
      refine D5.out.mono ?_
      rintro e w10 ⟨lj, rfl, hj10, hb10⟩
      have PA := Hid.mk' (PP.out.left hb10 hj10)
      obtain ⟨xj, dj, ej⟩ := own_shape' hj10
      subst ej
      have HJW : Hid (w10.ownsRow (w.heap.size + 2) 128 10 (.slice xj (Tr.gluT T1 U).size dj) (Tr.gluT T1 U).size (rcells (rowsT (Tr.gluT T1 U)))) := Rk.own_lower hj10 (by have := PP.out.b6.lt; omega)
      clear hj10 hb10 D5 PP
      generalize hTJ : Tr.gluT T1 U = TJ at *
      have HTJ := Hid.mk' hTJ
      clear hTJ
      have b2 := PA.out.b3.cell (j := 2) rfl
      have f2 := PA.out.b3.frozen 2
      have PC := Hid.mk' (PA.out.set3 2 (.slice xj TJ.size dj))
      simp only [List.setIfInBounds_toArray, List.set_cons_zero, List.set_cons_succ] at PC
      have zz := PA.out.b6.lt
      have zy := PA.out.b3.lt
      have e0 := PC.out.b3.cell (j := 0) rfl
      have e1 := PC.out.b3.cell (j := 1) rfl
      have e2 := PC.out.b3.cell (j := 2) rfl
      have e3 := PC.out.b3.cell (j := 3) rfl
      have z0 := PC.out.b6.cell (j := 0) rfl
      have z1 := PC.out.b6.cell (j := 1) rfl
      have z2 := PC.out.b6.cell (j := 2) rfl
      have z3 := PC.out.b6.cell (j := 3) rfl
      have h0 := PC.out.b6.frozen 0
      have h1 := PC.out.b6.frozen 1
      have h2 := PC.out.b6.frozen 2
      have h3 := PC.out.b6.frozen 3
      clear PA
      go_wp2
      all_goals exact bodyPost_ret (v := .agg #[.slice a0 O.length c0, .slice a1 A.length c1, .slice xj TJ.size dj, .int .i64 (E + 1)]) (by simp [results, Tryz.results69, go_sem, z0, z1, z2, z3]) rfl ⟨TJ, xj, dj, ⟨T, U, T1, U1, HC.out, HC2.out, HMR.out⟩, rfl, by
        have h1 : ∀ k, (Value.slice xj TJ.size dj).ownBlock = some k → w.heap.size + 2 ≤ k := fun k hk => (HJW.out.lt k hk).1
        have n1 : (Value.slice xj TJ.size dj).ownBlock ≠ some w.heap.size := fun e => by have := h1 _ e; omega
        have n2 : (Value.slice xj TJ.size dj).ownBlock ≠ some (w.heap.size + 1) := fun e => by have := h1 _ e; omega
        exact Rk.own_lower (own_off (own_off (own_off (own_off (own_off HJW.out n1) n2) n2) n2) n2) (by omega), setb (setb (setb (setb PC.out.be _ _) _ _) _ _) _ _⟩
  have u1 : (0 : Int) < (U.size : Int) := by omega
  obtain ⟨p, hp⟩ : ∃ p, U.list[0]? = some p := ⟨_, List.getElem?_eq_getElem (by rw [Tr.size_list]; omega)⟩
  have HPu := Hid.mk' hp
  have GPu := Hid.mk' (CG.out.2.2.2.1.at hp)
  by_cases hT0 : T1.size = 0
  · have n1 : ¬ (0 : Int) < (T1.size : Int) := by omega
    have HMR : Hid (MeetR T1 U (Tr.gluT T1 U)) := .inr ⟨p, T1, p, false, hp, .inl ⟨rfl, rfl, rfl, fun m r hm _ => by omega⟩, .inl ⟨rfl, rfl⟩⟩
    clear hT0 hp hU0
    have PP := P7
    have D5 := Hid.mk' (Joinr_any T1 U _ _ 0 0 0 0 w7 GT1 GU szS PP.out.rl.rdr PP.out.ru.rdr)
    rw [HGL.out] at D5
    go_wp2_with fail
    refine D5.out.mono ?_
    rintro e w10 ⟨lj, rfl, hj10, hb10⟩
    have PA := Hid.mk' (PP.out.left hb10 hj10)
    obtain ⟨xj, dj, ej⟩ := own_shape' hj10
    subst ej
    have HJW : Hid (w10.ownsRow (w.heap.size + 2) 128 10 (.slice xj (Tr.gluT T1 U).size dj) (Tr.gluT T1 U).size (rcells (rowsT (Tr.gluT T1 U)))) := Rk.own_lower hj10 (by have := PP.out.b6.lt; omega)
    clear hj10 hb10 D5 PP
    generalize hTJ : Tr.gluT T1 U = TJ at *
    have HTJ := Hid.mk' hTJ
    clear hTJ
    have b2 := PA.out.b3.cell (j := 2) rfl
    have f2 := PA.out.b3.frozen 2
    have PC := Hid.mk' (PA.out.set3 2 (.slice xj TJ.size dj))
    simp only [List.setIfInBounds_toArray, List.set_cons_zero, List.set_cons_succ] at PC
    have zz := PA.out.b6.lt
    have zy := PA.out.b3.lt
    have e0 := PC.out.b3.cell (j := 0) rfl
    have e1 := PC.out.b3.cell (j := 1) rfl
    have e2 := PC.out.b3.cell (j := 2) rfl
    have e3 := PC.out.b3.cell (j := 3) rfl
    have z0 := PC.out.b6.cell (j := 0) rfl
    have z1 := PC.out.b6.cell (j := 1) rfl
    have z2 := PC.out.b6.cell (j := 2) rfl
    have z3 := PC.out.b6.cell (j := 3) rfl
    have h0 := PC.out.b6.frozen 0
    have h1 := PC.out.b6.frozen 1
    have h2 := PC.out.b6.frozen 2
    have h3 := PC.out.b6.frozen 3
    clear PA
    go_wp2
    all_goals exact bodyPost_ret (v := .agg #[.slice a0 O.length c0, .slice a1 A.length c1, .slice xj TJ.size dj, .int .i64 (E + 1)]) (by simp [results, Tryz.results69, go_sem, z0, z1, z2, z3]) rfl ⟨TJ, xj, dj, ⟨T, U, T1, U1, HC.out, HC2.out, HMR.out⟩, rfl, by
      have h1 : ∀ k, (Value.slice xj TJ.size dj).ownBlock = some k → w.heap.size + 2 ≤ k := fun k hk => (HJW.out.lt k hk).1
      have n1 : (Value.slice xj TJ.size dj).ownBlock ≠ some w.heap.size := fun e => by have := h1 _ e; omega
      have n2 : (Value.slice xj TJ.size dj).ownBlock ≠ some (w.heap.size + 1) := fun e => by have := h1 _ e; omega
      exact Rk.own_lower (own_off (own_off (own_off (own_off (own_off HJW.out n1) n2) n2) n2) n2) (by omega), setb (setb (setb (setb PC.out.be _ _) _ _) _ _) _ _⟩
  obtain ⟨m, hm⟩ : ∃ m, m + 1 = T1.size := ⟨T1.size - 1, by omega⟩
  have hml : m < T1.list.length := by rw [Tr.size_list]; omega
  obtain ⟨r, hr⟩ : ∃ r, T1.list[m]? = some r := ⟨_, List.getElem?_eq_getElem hml⟩
  have GR := Hid.mk' (CG2.out.2.2.1.at hr)
  obtain ⟨gp, rfl⟩ := own_pos HP.out (by omega)
  obtain ⟨gq, rfl⟩ := own_pos HQ.out (by omega)
  have hc1 : ∀ i, i < 4 → w7.cell? ⟨gp, m * 4 + i, none⟩ = r.cs[i]? := fun i hi => by
    rw [HP.out.cellAt (m * 4 + i) (by omega)]; exact cells_at4 hr i hi
  have hc2 : ∀ i, i < 4 → w7.cell? ⟨gq, 0 * 4 + i, none⟩ = p.cs[i]? := fun i hi => by
    rw [HQ.out.cellAt (0 * 4 + i) (by omega)]; exact cells_at4 hp i hi
  obtain ⟨rs, ro, rl, rn⟩ := r
  obtain ⟨ps, po, pl, pn⟩ := p
  have k0 := hc1 0 (by omega)
  have k1 := hc1 1 (by omega)
  have k2 := hc1 2 (by omega)
  have s0 := hc2 0 (by omega)
  have s1 := hc2 1 (by omega)
  have s2 := hc2 2 (by omega)
  simp only [Pc.cs, List.getElem?_cons_zero, List.getElem?_cons_succ, Nat.add_zero, Nat.zero_mul, Nat.zero_add] at k0 k1 k2 s0 s1 s2
  have hz0 : (0 : Int) < (T1.size : Int) := by omega
  have hm1 : (T1.size : Int) - 1 = (m : Int) := by omega
  have hmI : (m : Int) < (T1.size : Int) := by omega
  have hmb : (T1.size : Int) ≤ 524287 := by omega
  have hm0 : (0 : Int) ≤ (m : Int) := by omega
  have HR := Hid.mk' hr
  have HM := Hid.mk' hm
  have hro : Hid ((-9223372036854775808 ≤ ro ∧ ro ≤ 9223372036854775807) ∧ (-9223372036854775808 ≤ po ∧ po ≤ 9223372036854775807)) := by
    obtain ⟨o', l', eo, el, _, _, _⟩ := Ab.hd_parts GR.out.hold
    obtain ⟨o2, l2, eo2, el2, _, _, _⟩ := Ab.hd_parts GPu.out.hold
    have := which_len rs (O := O) (A := A) (n := 1048576) hbO (by omega)
    have := which_len ps (O := O) (A := A) (n := 1048576) hbO (by omega)
    dsimp only at eo el eo2 el2
    unfold Hid
    omega
  have hS2 : Hid (∀ {W' : World}, Below w7.heap.size w7 W' → W'.cell? ⟨gp, m * 4, none⟩ = some (.int .i64 rs) ∧ W'.cell? ⟨gp, m * 4 + 1, none⟩ = some (.int .i64 ro) ∧ W'.cell? ⟨gp, m * 4 + 2, none⟩ = some (.int .i64 rl) ∧ W'.cell? ⟨gq, 0, none⟩ = some (.int .i64 ps) ∧ W'.cell? ⟨gq, 1, none⟩ = some (.int .i64 po) ∧ W'.cell? ⟨gq, 2, none⟩ = some (.int .i64 pl)) := by
    unfold Hid; intro W' hb
    exact ⟨(hb.cell (cell_lt k0)).trans k0, (hb.cell (cell_lt k1)).trans k1, (hb.cell (cell_lt k2)).trans k2, (hb.cell (cell_lt s0)).trans s0, (hb.cell (cell_lt s1)).trans s1, (hb.cell (cell_lt s2)).trans s2⟩
  clear hc1 hc2 hr hp hm hml hU0 hT0
  cases hj : Ab.jnB rs ro rl ps po pl with
  | false =>
    have CJ := Hid.mk' (fun W => Ab.refJoins_no rs ro rl ps po pl W hro.out.1.1 hro.out.1.2 hro.out.2.1 hro.out.2.2 hj)
    have HMR : Hid (MeetR T1 U (Tr.gluT T1 U)) := .inr ⟨_, T1, _, false, HPu.out, .inl ⟨rfl, rfl, rfl, fun m' r' hm' hr' => by
      obtain rfl : m = m' := by have := HM.out; omega
      rw [HR.out] at hr'
      obtain rfl := by simpa using hr'
      exact hj⟩, .inl ⟨rfl, rfl⟩⟩
    clear hj
    go_wp2_with fail
    go_region_held3 (fun w' => w'.cell? ⟨gp, m * 4, none⟩ = some (.int .i64 rs) ∧ w'.cell? ⟨gp, m * 4 + 1, none⟩ = some (.int .i64 ro) ∧ w'.cell? ⟨gp, m * 4 + 2, none⟩ = some (.int .i64 rl) ∧ w'.cell? ⟨gq, 0, none⟩ = some (.int .i64 ps) ∧ w'.cell? ⟨gq, 1, none⟩ = some (.int .i64 po) ∧ w'.cell? ⟨gq, 2, none⟩ = some (.int .i64 pl)) (first | (with_reducible exact hS2.out (Below.refl _ _).drew) | (with_reducible exact hS2.out (bAlloc (Below.refl _ _) _).drew) | (with_reducible exact hS2.out B8.out) | (with_reducible exact hS2.out (bAlloc B8.out _)) | (with_reducible exact hS2.out (bset (bset (bset B8.out (Nat.le_refl _) _ _) (Nat.le_refl _) _ _) (Nat.le_refl _) _ _))) (first | (go_at_call 112; refine (CJ.out w7.drew).mono ?_; rintro e w8 ⟨rfl, hb8⟩; have B8 := Hid.mk' (bT (Below.refl _ w7).drew hb8)) | (go_at_call 112; refine (CJ.out (w7.alloc (.cells #[.int .i64 0, .int .i64 0, .int .i64 0] 57)).drew).mono ?_; rintro e w8 ⟨rfl, hb8⟩; have B8 := Hid.mk' (bT (bAlloc (Below.refl _ w7) (.cells #[.int .i64 0, .int .i64 0, .int .i64 0] 57)).drew hb8); have X8 := Hid.mk' ((Blk.new w7 57 #[.int .i64 0, .int .i64 0, .int .i64 0]).keep (bT (Below.refl _ _).drew hb8)); have q0 := X8.out.cell (j := 0) rfl; have q1 := X8.out.cell (j := 1) rfl; have q2 := X8.out.cell (j := 2) rfl; have qf0 := X8.out.frozen 0; have qf1 := X8.out.frozen 1; have qf2 := X8.out.frozen 2; have qz := X8.out.lt) | fail)
    all_goals (first
      | (have X9 := Hid.mk' (Blk.new w8 57 #[.int .i64 0, .int .i64 0, .int .i64 0])
         have P9 := Hid.mk' (P7.out.keep (bAlloc B8.out (.cells #[.int .i64 0, .int .i64 0, .int .i64 0] 57)))
         generalize hW9 : w8.alloc (.cells #[.int .i64 0, .int .i64 0, .int .i64 0] 57) = W9 at *
         obtain ⟨gj, hgj⟩ : ∃ g, w8.heap.size = g := ⟨_, rfl⟩
         rw [hgj] at X9 ⊢
         clear hgj hW9)
      | (have X9 := Hid.mk' (blk_set (j := 2) (blk_set (j := 1) (blk_set (j := 0) X8.out (.int .i64 0)) (.int .i64 0)) (.int .i64 0))
         have P9 := Hid.mk' (P7.out.keep (bset (bset (bset B8.out (Nat.le_refl _) 0 (.int .i64 0)) (Nat.le_refl _) 1 (.int .i64 0)) (Nat.le_refl _) 2 (.int .i64 0)))
         simp only [List.setIfInBounds_toArray, List.set_cons_zero, List.set_cons_succ] at X9
         generalize hW9 : ((w8.setCell ⟨w7.heap.size, 0, none⟩ (.int .i64 0)).setCell ⟨w7.heap.size, 1, none⟩ (.int .i64 0)).setCell ⟨w7.heap.size, 2, none⟩ (.int .i64 0) = W9 at *
         obtain ⟨gj, hgj⟩ : ∃ g, w7.heap.size = g := ⟨_, rfl⟩
         rw [hgj] at X9 ⊢
         clear hgj hW9))
    all_goals (
      have PP := P9
      have D5 := Hid.mk' (Joinr_any T1 U _ _ 0 0 0 0 W9 GT1 GU szS PP.out.rl.rdr PP.out.ru.rdr)
      rw [HGL.out] at D5
      go_wp2_with fail
      refine D5.out.mono ?_
      rintro e w10 ⟨lj, rfl, hj10, hb10⟩
      have PA := Hid.mk' (PP.out.left hb10 hj10)
      obtain ⟨xj, dj, ej⟩ := own_shape' hj10
      subst ej
      have HJW : Hid (w10.ownsRow (w.heap.size + 2) 128 10 (.slice xj (Tr.gluT T1 U).size dj) (Tr.gluT T1 U).size (rcells (rowsT (Tr.gluT T1 U)))) := Rk.own_lower hj10 (by have := PP.out.b6.lt; omega)
      clear hj10 hb10 D5 PP
      generalize hTJ : Tr.gluT T1 U = TJ at *
      have HTJ := Hid.mk' hTJ
      clear hTJ
      have b2 := PA.out.b3.cell (j := 2) rfl
      have f2 := PA.out.b3.frozen 2
      have PC := Hid.mk' (PA.out.set3 2 (.slice xj TJ.size dj))
      simp only [List.setIfInBounds_toArray, List.set_cons_zero, List.set_cons_succ] at PC
      have zz := PA.out.b6.lt
      have zy := PA.out.b3.lt
      have e0 := PC.out.b3.cell (j := 0) rfl
      have e1 := PC.out.b3.cell (j := 1) rfl
      have e2 := PC.out.b3.cell (j := 2) rfl
      have e3 := PC.out.b3.cell (j := 3) rfl
      have z0 := PC.out.b6.cell (j := 0) rfl
      have z1 := PC.out.b6.cell (j := 1) rfl
      have z2 := PC.out.b6.cell (j := 2) rfl
      have z3 := PC.out.b6.cell (j := 3) rfl
      have h0 := PC.out.b6.frozen 0
      have h1 := PC.out.b6.frozen 1
      have h2 := PC.out.b6.frozen 2
      have h3 := PC.out.b6.frozen 3
      clear PA
      go_wp2
      all_goals exact bodyPost_ret (v := .agg #[.slice a0 O.length c0, .slice a1 A.length c1, .slice xj TJ.size dj, .int .i64 (E + 1)]) (by simp [results, Tryz.results69, go_sem, z0, z1, z2, z3]) rfl ⟨TJ, xj, dj, ⟨T, U, T1, U1, HC.out, HC2.out, HMR.out⟩, rfl, by
        have h1 : ∀ k, (Value.slice xj TJ.size dj).ownBlock = some k → w.heap.size + 2 ≤ k := fun k hk => (HJW.out.lt k hk).1
        have n1 : (Value.slice xj TJ.size dj).ownBlock ≠ some w.heap.size := fun e => by have := h1 _ e; omega
        have n2 : (Value.slice xj TJ.size dj).ownBlock ≠ some (w.heap.size + 1) := fun e => by have := h1 _ e; omega
        exact Rk.own_lower (own_off (own_off (own_off (own_off (own_off HJW.out n1) n2) n2) n2) n2) (by omega), setb (setb (setb (setb PC.out.be _ _) _ _) _ _) _ _⟩)
  | true =>
    have CJ := Hid.mk' (fun W => Ab.refJoins_yes rs ro rl ps po pl W hj)
    have HMR : Hid (MeetR T1 U (Tr.joinT (Tr.splitT T1 m).1 (bothP ⟨rs, ro, rl, rn⟩ ⟨ps, po, pl, pn⟩) (Tr.splitT U 1).2)) := .inr ⟨_, _, _, true, HPu.out, .inr ⟨rfl, m, _, HM.out, HR.out, hj, rfl, rfl⟩, .inr ⟨rfl, rfl⟩⟩
    have GB := Hid.mk' (both_good GR.out GPu.out hj (by
      have h1 := GR.out.len
      have h2 := GPu.out.len
      have h3 := GR.out.fit.2.1
      have h4 : ((txt O A T1.list).length : Int) ≤ 1048576 := by
        rw [CG2.out.2.2.2.2.1, CG.out.2.2.2.2.1, List.length_take, List.length_take]; have := hz.out; omega
      have h5 : ((txt O A U.list).length : Int) ≤ 1048576 := by
        rw [CG.out.2.2.2.2.2.1, List.length_drop]; have := hz.out; omega
      have m1 := sB_snoc T1.list m _ HR.out
      have m2 := sB_snoc U.list 0 _ HPu.out
      have n1 := sB_mono (Gds.nng CG2.out.2.2.1) (m + 1) (T1.list.length - (m + 1))
      have n2 := sB_mono (Gds.nng CG.out.2.2.2.1) 1 (U.list.length - 1)
      have z1 := sB_mono (Gds.nng CG2.out.2.2.1) 0 m
      rw [show m + 1 + (T1.list.length - (m + 1)) = T1.list.length from by have := HM.out; rw [Tr.size_list]; omega, List.take_length, ← txt_len CG2.out.2.2.1] at n1
      rw [show 1 + (U.list.length - 1) = U.list.length from by rw [Tr.size_list]; omega, List.take_length, ← txt_len CG.out.2.2.2.1] at n2
      simp only [List.take_zero, Nat.zero_add] at m2 z1
      have e0 : sB [] = 0 := rfl
      dsimp only at *
      omega))
    have HJF : Hid (jnT (Tr.splitT T1 m).1 ⟨rs, ro, rl + pl, Ab.lnV rs ro (rl + pl) O A⟩ (Tr.splitT U 1).2 = Tr.joinT (Tr.splitT T1 m).1 (bothP ⟨rs, ro, rl, rn⟩ ⟨ps, po, pl, pn⟩) (Tr.splitT U 1).2) := by
      have e := gd_lnV GB.out.1
      unfold bothP at e
      dsimp only at e
      unfold Hid
      rw [e]
      exact jnT_fit GB.out.1.fit
    have SG1 := Hid.mk' (split_gdw (t := T1) m GT1.out.wh.1 GT1.out.ft (by omega))
    have SG2 := Hid.mk' (split_gdw (t := U) 1 GU.out.wh.1 GU.out.ft (by omega))
    clear hj
    go_wp2_with fail
    go_region_held3 (fun w' => w'.cell? ⟨gp, m * 4, none⟩ = some (.int .i64 rs) ∧ w'.cell? ⟨gp, m * 4 + 1, none⟩ = some (.int .i64 ro) ∧ w'.cell? ⟨gp, m * 4 + 2, none⟩ = some (.int .i64 rl) ∧ w'.cell? ⟨gq, 0, none⟩ = some (.int .i64 ps) ∧ w'.cell? ⟨gq, 1, none⟩ = some (.int .i64 po) ∧ w'.cell? ⟨gq, 2, none⟩ = some (.int .i64 pl)) (first | (with_reducible exact hS2.out (Below.refl _ _).drew) | (with_reducible exact hS2.out (bAlloc (Below.refl _ _) _).drew) | (with_reducible exact hS2.out B8.out) | (with_reducible exact hS2.out (bAlloc B8.out _)) | (with_reducible exact hS2.out (bset (bset (bset B8.out (Nat.le_refl _) _ _) (Nat.le_refl _) _ _) (Nat.le_refl _) _ _))) (first | (go_at_call 112; refine (CJ.out w7.drew).mono ?_; rintro e w8 ⟨rfl, hb8⟩; have B8 := Hid.mk' (bT (Below.refl _ w7).drew hb8)) | (go_at_call 112; refine (CJ.out (w7.alloc (.cells #[.int .i64 0, .int .i64 0, .int .i64 0] 57)).drew).mono ?_; rintro e w8 ⟨rfl, hb8⟩; have B8 := Hid.mk' (bT (bAlloc (Below.refl _ w7) (.cells #[.int .i64 0, .int .i64 0, .int .i64 0] 57)).drew hb8); have X8 := Hid.mk' ((Blk.new w7 57 #[.int .i64 0, .int .i64 0, .int .i64 0]).keep (bT (Below.refl _ _).drew hb8)); have q0 := X8.out.cell (j := 0) rfl; have q1 := X8.out.cell (j := 1) rfl; have q2 := X8.out.cell (j := 2) rfl; have qf0 := X8.out.frozen 0; have qf1 := X8.out.frozen 1; have qf2 := X8.out.frozen 2; have qz := X8.out.lt) | fail)
    all_goals (first
      | (have X9 := Hid.mk' (Blk.new w8 57 #[.int .i64 rs, .int .i64 ro, .int .i64 (rl + pl)])
         have P9 := Hid.mk' (P7.out.keep (bAlloc B8.out (.cells #[.int .i64 rs, .int .i64 ro, .int .i64 (rl + pl)] 57)))
         generalize hW9 : w8.alloc (.cells #[.int .i64 rs, .int .i64 ro, .int .i64 (rl + pl)] 57) = W9 at *
         obtain ⟨gj, hgj⟩ : ∃ g, w8.heap.size = g := ⟨_, rfl⟩
         rw [hgj] at X9 ⊢
         clear hgj hW9)
      | (have X9 := Hid.mk' (blk_set (j := 2) (blk_set (j := 1) (blk_set (j := 0) X8.out (.int .i64 rs)) (.int .i64 ro)) (.int .i64 (rl + pl)))
         have P9 := Hid.mk' (P7.out.keep (bset (bset (bset B8.out (Nat.le_refl _) 0 (.int .i64 rs)) (Nat.le_refl _) 1 (.int .i64 ro)) (Nat.le_refl _) 2 (.int .i64 (rl + pl))))
         simp only [List.setIfInBounds_toArray, List.set_cons_zero, List.set_cons_succ] at X9
         generalize hW9 : ((w8.setCell ⟨w7.heap.size, 0, none⟩ (.int .i64 rs)).setCell ⟨w7.heap.size, 1, none⟩ (.int .i64 ro)).setCell ⟨w7.heap.size, 2, none⟩ (.int .i64 (rl + pl)) = W9 at *
         obtain ⟨gj, hgj⟩ : ∃ g, w7.heap.size = g := ⟨_, rfl⟩
         rw [hgj] at X9 ⊢
         clear hgj hW9))
    all_goals (
      have D3 := Hid.mk' (Splitr_yes T1 _ m _ GT1 (by omega) P9.out.rl.rdr (show Hid (m ≤ T1.size) by unfold Hid; have := HM.out; omega))
      go_wp2_with fail
      refine D3.out.mono ?_
      rintro e w11 ⟨l1, l2, rfl, h1, h2, hb11⟩
      have P11 := Hid.mk' (P9.out.left hb11 h1)
      have X11 := Hid.mk' (X9.out.keep hb11)
      obtain ⟨y1, z1, e1⟩ := own_shape' h1
      obtain ⟨y2, z2, e2⟩ := own_shape' h2
      subst e1 e2
      clear h1 h2 hb11 D3 P9 X9
      have D4 := Hid.mk' (Splitr_yes U _ 1 _ GU (by omega) P11.out.ru.rdr (show Hid (1 ≤ U.size) by unfold Hid; omega))
      rw [show ((1 : Nat) : Int) = 1 from rfl] at D4
      go_wp2_with fail
      refine D4.out.mono ?_
      rintro e w12 ⟨l3, l4, rfl, h3, h4, hb12⟩
      have P12 := Hid.mk' (P11.out.right hb12 h4)
      have X12 := Hid.mk' (X11.out.keep hb12)
      obtain ⟨y3, z3, e3⟩ := own_shape' h3
      obtain ⟨y4, z4, e4⟩ := own_shape' h4
      subst e3 e4
      clear h3 h4 hb12 D4 P11 X11
      have b0 := P12.out.b3.cell (j := 0) rfl
      have b1 := P12.out.b3.cell (j := 1) rfl
      have b2 := P12.out.b3.cell (j := 2) rfl
      have b3 := P12.out.b3.cell (j := 3) rfl
      have v0 := X12.out.cell (j := 0) rfl
      have v1 := X12.out.cell (j := 1) rfl
      have v2 := X12.out.cell (j := 2) rfl
      have D6 := Hid.mk' (rpiece_any a0 a1 ar c0 c1 t.size cr (E + 1) O A base rs ro (rl + pl) w12 hro.out.1.1 hro.out.1.2 (by have := which_len rs (O := O) (A := A) (n := 1048576) hbO (by omega); omega) (Ab.own_keep K.out.o P12.out.be) (Ab.own_keep K.out.a P12.out.be))
      go_wp2_with fail
      refine D6.out.mono ?_
      rintro e w13 ⟨rfl, hb13⟩
      have P13 := Hid.mk' (P12.out.keep hb13)
      clear hb13 D6 P12 X12 b0 b1 b2 b3 v0 v1 v2
      have D7 := Hid.mk' (Joinr_any (Tr.splitT T1 m).1 (Tr.splitT U 1).2 _ _ rs ro (rl + pl) (Ab.lnV rs ro (rl + pl) O A) w13 SG1.out.1 SG2.out.2.1 (by have := SG1.out.2.2.1; have := SG2.out.2.2.2; omega) P13.out.rl.rdr P13.out.ru.rdr)
      rw [HJF.out] at D7
      go_wp2_with fail
      refine D7.out.mono ?_
      rintro e w14 ⟨lj, rfl, hj14, hb14⟩
      have PA := Hid.mk' (P13.out.left hb14 hj14)
      obtain ⟨xj, dj, ej⟩ := own_shape' hj14
      subst ej
      have HJW : Hid (w14.ownsRow (w.heap.size + 2) 128 10 (.slice xj (Tr.joinT (Tr.splitT T1 m).1 (bothP ⟨rs, ro, rl, rn⟩ ⟨ps, po, pl, pn⟩) (Tr.splitT U 1).2).size dj) (Tr.joinT (Tr.splitT T1 m).1 (bothP ⟨rs, ro, rl, rn⟩ ⟨ps, po, pl, pn⟩) (Tr.splitT U 1).2).size (rcells (rowsT (Tr.joinT (Tr.splitT T1 m).1 (bothP ⟨rs, ro, rl, rn⟩ ⟨ps, po, pl, pn⟩) (Tr.splitT U 1).2)))) := Rk.own_lower hj14 (by have := P13.out.b6.lt; omega)
      clear hj14 hb14 D7 P13
      generalize hTJ : Tr.joinT (Tr.splitT T1 m).1 (bothP ⟨rs, ro, rl, rn⟩ ⟨ps, po, pl, pn⟩) (Tr.splitT U 1).2 = TJ at *
      have HTJ := Hid.mk' hTJ
      clear hTJ
      have b2 := PA.out.b3.cell (j := 2) rfl
      have f2 := PA.out.b3.frozen 2
      have PC := Hid.mk' (PA.out.set3 2 (.slice xj TJ.size dj))
      simp only [List.setIfInBounds_toArray, List.set_cons_zero, List.set_cons_succ] at PC
      have zz := PA.out.b6.lt
      have zy := PA.out.b3.lt
      have e0 := PC.out.b3.cell (j := 0) rfl
      have e1 := PC.out.b3.cell (j := 1) rfl
      have e2 := PC.out.b3.cell (j := 2) rfl
      have e3 := PC.out.b3.cell (j := 3) rfl
      have z0 := PC.out.b6.cell (j := 0) rfl
      have z1 := PC.out.b6.cell (j := 1) rfl
      have z2 := PC.out.b6.cell (j := 2) rfl
      have z3 := PC.out.b6.cell (j := 3) rfl
      have h0 := PC.out.b6.frozen 0
      have h1 := PC.out.b6.frozen 1
      have h2 := PC.out.b6.frozen 2
      have h3 := PC.out.b6.frozen 3
      clear PA
      go_wp2
      all_goals exact bodyPost_ret (v := .agg #[.slice a0 O.length c0, .slice a1 A.length c1, .slice xj TJ.size dj, .int .i64 (E + 1)]) (by simp [results, Tryz.results69, go_sem, z0, z1, z2, z3]) rfl ⟨TJ, xj, dj, ⟨T, U, T1, U1, HC.out, HC2.out, HMR.out⟩, rfl, by
        have h1 : ∀ k, (Value.slice xj TJ.size dj).ownBlock = some k → w.heap.size + 2 ≤ k := fun k hk => (HJW.out.lt k hk).1
        have n1 : (Value.slice xj TJ.size dj).ownBlock ≠ some w.heap.size := fun e => by have := h1 _ e; omega
        have n2 : (Value.slice xj TJ.size dj).ownBlock ≠ some (w.heap.size + 1) := fun e => by have := h1 _ e; omega
        exact Rk.own_lower (own_off (own_off (own_off (own_off (own_off HJW.out n1) n2) n2) n2) n2) (by omega), setb (setb (setb (setb PC.out.be _ _) _ _) _ _) _ _⟩)

end Go.Proofs.YtmhpeppbhjpkiaaGreat

