/- The reference's put. -/
import Derived.Test.YtmhpeppbhjpkiaaGreatPm35
import Derived.Test.YtmhpeppbhjpkiaaGreatPm14
import Derived.Deep.CutRange
import Derived.Deep.RegionHeld3
namespace Go.Proofs.YtmhpeppbhjpkiaaGreat
open Go.RowKit

/-- what the reference's put gives -/
def RputG (w : World) (a0 : Option Addr) (c0 : Nat) (O A l : List UInt8) (t : Tr) (off E : Int) (e : Ending) (w' : World) : Prop := ∃ t' x1 d1 xr dr, PutR O A l t off t' ∧ e = .returned (.agg #[.slice a0 O.length c0, .slice x1 (A ++ l).length d1, .slice xr t'.size dr, .int .i64 (E + 1)]) ∧ w'.ownsRow w.heap.size 5 1 (.slice x1 (A ++ l).length d1) (A ++ l).length (Ab.bv (A ++ l)) ∧ w'.ownsRow w.heap.size 128 10 (.slice xr t'.size dr) t'.size (rcells (rowsT t')) ∧ Below w.heap.size w w'
theorem bv_app (a b : List UInt8) : Ab.bv (a ++ b) = Ab.bv a ++ Ab.bv b := by simp [Ab.bv]
set_option maxRecDepth 100000 in
set_option maxHeartbeats 8000000 in
theorem rput_any (a0 a1 ar ap : Option Addr) (c0 c1 cr cp : Nat) (E : Int) (O A l : List UInt8) (base : Nat) (P : Nat → Prop) (t : Tr) (off : Int) (w : World) (K : Hid (Kr w base P a0 c0 a1 c1 ar cr O A t)) (hP : Hid (∀ b, P b → b < w.heap.size)) (hv : Hid (Ab.Rd w (.slice ap l.length cp) l)) (hl : Hid (l ≠ [])) (hw : Hid t.whole) (hg : Hid (Gds O A t.list)) (hs : Hid (t.size ≤ 524280)) (hlo : 0 ≤ off) (hhi : off ≤ t.byt) (hz : Hid ((txt O A t.list).length + l.length ≤ 1048575)) (hAl : A.length + l.length ≤ 1048576) (hbO : O.length ≤ 1048576) (hE : 0 ≤ E ∧ E ≤ 4611686018427387904) :
    Calls Tryz.prog 67 #[.agg #[.slice a0 O.length c0, .slice a1 A.length c1, .slice ar t.size cr, .int .i64 E], .int .i64 off, .slice ap l.length cp] w fun e w' => RputG w a0 c0 O A l t off E e w' := by
  obtain ⟨i5, hi5, hz5, hs5, hb5⟩ := info_parts Ab.info5
  obtain ⟨AL, hAL⟩ : ∃ AL, A ++ l = AL := ⟨_, rfl⟩
  have HAL := Hid.mk' hAL
  have hALl : AL.length = A.length + l.length := by rw [← hAL, List.length_append]
  have HALl := Hid.mk' hALl
  clear hAL hALl
  have hE1 := hE.1
  have hE2 := hE.2
  have hbt : t.byt ≤ 1048576 := by
    have := txt_len hg.out
    rw [← byt_list] at this
    have := hz.out
    omega
  have B0 := Hid.mk' (bAA w (.cells #[.slice a0 O.length c0, .slice a1 A.length c1, .slice ar t.size cr, .int .i64 E] 31) (.cells #[.slice none 0 0, .slice none 0 0, .slice none 0 0, .int .i64 0] 31))
  have Z3 := Hid.mk' ((Blk.new w 31 #[.slice a0 O.length c0, .slice a1 A.length c1, .slice ar t.size cr, .int .i64 E]).keep (bAlloc (Below.refl _ _) (.cells #[.slice none 0 0, .slice none 0 0, .slice none 0 0, .int .i64 0] 31)))
  have Z6 := Blk.new (w.alloc (.cells #[.slice a0 O.length c0, .slice a1 A.length c1, .slice ar t.size cr, .int .i64 E] 31)) 31 #[.slice none 0 0, .slice none 0 0, .slice none 0 0, .int .i64 0]
  rw [World.size_alloc] at Z6
  have Z6 := Hid.mk' Z6
  have C1 := Hid.mk' (rcut_any a0 a1 ar ar c0 c1 t.size cr cr E O A base P t off _ (Ab.own_keep K.out.o B0.out) (Ab.own_keep K.out.a B0.out) (K.out.r.keep B0.out) hw hg (show Hid (t.size ≤ 524286) by unfold Hid; have := hs.out; omega) hlo hhi hbt hbO (by omega))
  go_enter Tryz.func67, Tryz.ntmps67
  go_wp2_with fail
  refine C1.out.mono ?_
  rintro e w3 ⟨T, U, x1, d1, x2, d2, hcut, rfl, hT, hU, hb3⟩
  have HC := Hid.mk' hcut
  have B3 := Hid.mk' (bT B0.out hb3)
  have Y3 := Hid.mk' (Z3.out.keep hb3)
  have Y6 := Hid.mk' (Z6.out.keep hb3)
  have hsz3 : w.heap.size + 2 ≤ w3.heap.size := by have := hb3.size; simp at this; omega
  have conv : ∀ {v : Value} {X : Tr}, Rq ((w.alloc (.cells #[.slice a0 O.length c0, .slice a1 A.length c1, .slice ar t.size cr, .int .i64 E] 31)).alloc (.cells #[.slice none 0 0, .slice none 0 0, .slice none 0 0, .int .i64 0] 31)) w3 P v (rowsT X) → Rdq w3 (Pq9 w P w3.heap.size) v (rowsT X) := fun h => h.mono (fun b hb => by
    rcases hb with h | h
    · exact .inl h
    · simp at h; exact .inr ⟨by omega, by omega⟩)
  have RT := Hid.mk' (conv hT)
  have RU := Hid.mk' (conv hU)
  clear hcut hT hU hb3 conv C1 Z3 Z6 B0
  have y0 := Y3.out.cell (j := 0) rfl
  have y1 := Y3.out.cell (j := 1) rfl
  have y2 := Y3.out.cell (j := 2) rfl
  have y3 := Y3.out.cell (j := 3) rfl
  have yz := Y3.out.lt
  have U4 := Hid.mk' (bAlloc (Below.refl _ w3) (.cells #[.int .i64 1, .int .i64 (A.length : Int), .int .i64 (l.length : Int)] 57))
  have Y9 := Hid.mk' (Blk.new w3 57 #[.int .i64 1, .int .i64 (A.length : Int), .int .i64 (l.length : Int)])
  have KA := Hid.mk' (Ab.own_keep K.out.a (bT B3.out U4.out))
  have KV := Hid.mk' (hv.out.keep (bT B3.out U4.out))
  go_wp2_with (at_builtin; refine Rk.append_srv rfl (.tmp 29) (.tmp 31) 22 rfl (w3.heap.size + 1) 5 i5 (.int .u8 0) 1 1 Tryz.underlying22 hi5 hz5 hs5 hb5 rfl (by decide) (.slice none 0 0) 0 [] rfl (World.ownsRow_nil _ _ _ _) (.slice a1 A.length c1) A.length (Ab.bv A) rfl (Rk.own_srv KA.out) (by rw [Ab.bv_length, Nat.mul_one]) (Ab.bv_one _) (by unfold maxLen; omega) (by omega) (by simp) ?_)
  intro v4 w4 hown4 hgrow4 _
  have HO4 : Hid (w4.ownsRow (w3.heap.size + 1) 5 1 v4 A.length (Ab.bv A)) := by unfold Hid; simpa using hown4
  have HB4 : Hid (Below (w3.heap.size + 1) (w3.alloc (.cells #[.int .i64 1, .int .i64 (A.length : Int), .int .i64 (l.length : Int)] 57)) w4) := (Below.refl _ _).grown hgrow4 (by simp) (fun k hk => by simp [Value.ownBlock] at hk)
  have hs4 := HB4.out.size
  have BW4 : Hid (Below w3.heap.size w3 w4) := Hid.mk' (U4.out.trans (HB4.out.mono (by omega)))
  obtain ⟨x4, d4, e4⟩ := own_shape' HO4.out
  subst e4
  clear hown4 hgrow4 y0 y1 y2 y3 yz
  go_wp2_with (at_builtin; refine Rk.append_srv rfl (.tmp 33) (.tmp 34) 22 rfl (w3.heap.size + 1) 5 i5 (.int .u8 0) 1 1 Tryz.underlying22 hi5 hz5 hs5 hb5 rfl (by decide) (.slice x4 A.length d4) A.length (Ab.bv A) rfl HO4.out (.slice ap l.length cp) l.length (Ab.bv l) rfl (rd_srvK (hv.out.keep (bT B3.out BW4.out)) rfl) (by rw [Ab.bv_length, Nat.mul_one]) (Ab.bv_one _) (by unfold maxLen; omega) (by omega) (by have := hs4; simp at this; omega) ?_)
  intro v5 w5 hown5 hgrow5 _
  have HO5 : Hid (w5.ownsRow (w3.heap.size + 1) 5 1 v5 AL.length (Ab.bv AL)) := by unfold Hid; rw [← HAL.out, bv_app, List.length_append]; exact hown5
  have HB5 : Hid (Below (w3.heap.size + 1) (w3.alloc (.cells #[.int .i64 1, .int .i64 (A.length : Int), .int .i64 (l.length : Int)] 57)) w5) := HB4.out.grown hgrow5 (by have := hs4; simp at this; omega) (fun k hk => (HO4.out.lt k hk).1)
  have BW5 : Hid (Below w3.heap.size w3 w5) := Hid.mk' (U4.out.trans (HB5.out.mono (by omega)))
  obtain ⟨x5, d5, e5⟩ := own_shape' HO5.out
  subst e5
  have P5 : Hid (Ps w w5 P w3.heap.size #[.slice a0 O.length c0, .slice a1 A.length c1, .slice ar t.size cr, .int .i64 E] #[.int .i64 1, .int .i64 (A.length : Int), .int .i64 (l.length : Int)] (.slice x5 AL.length d5) AL.length (Ab.bv AL) (.slice x1 T.size d1) T (.slice x2 U.size d2) U) :=
    ⟨hP.out, hsz3, Y3.out.keep BW5.out, Y6.out.keep BW5.out, by
      have := Y9.out
      unfold Blk at this ⊢
      rw [HB5.out.block _ (by omega)]; exact this, Rk.own_lower HO5.out (by omega), RT.out.keep BW5.out, RU.out.keep BW5.out, bT B3.out BW5.out⟩
  obtain ⟨g9, hg9⟩ : ∃ g, w3.heap.size = g := ⟨_, rfl⟩
  rw [hg9] at P5 ⊢
  clear hown5 hgrow5 HO4 HB4 BW4 HO5 HB5 BW5 Y3 Y6 Y9 RT RU U4 KA KV B3 hs4 hsz3 hg9
  have P6 := Hid.mk' (P5.out.set3 1 (.slice x5 AL.length d5))
  have y0 := P5.out.b3.cell (j := 1) rfl
  have yf := P5.out.b3.frozen 1
  have yz := P5.out.b3.lt
  simp only [List.setIfInBounds_toArray, List.set_cons_zero, List.set_cons_succ] at P6
  have CG := Hid.mk' (CutR.ok HC.out hw.out hg.out)
  have szT : T.size + U.size ≤ 524281 := by have := CG.out.2.2.2.2.2.2; have := hs.out; omega
  have GT := Hid.mk' (gdw_of CG.out.1 CG.out.2.2.1 (by omega))
  have GU := Hid.mk' (gdw_of CG.out.2.1 CG.out.2.2.2.1 (by omega))
  have NG := Hid.mk' (newP_good (O := O) hl.out hAl)
  have D1 := Hid.mk' (Piecesr_any T _ _ (show Hid (T.size ≤ 524287) by unfold Hid; omega) GT.out.ft P6.out.rl.rdr)
  clear P5
  go_wp2_with fail
  refine D1.out.mono ?_
  rintro e w7 ⟨lp, rfl, hop, hb7⟩
  have P7 := Hid.mk' (P6.out.keep hb7)
  have HP := Hid.mk' hop
  obtain ⟨gx, gc, ep⟩ := own_shape' hop
  subst ep
  clear hop hb7 P6 D1 y0 yf yz
  have HGp : Hid (∀ (b : Bool) (T' : Tr) (q : Pc), JoinR T (newP A l) T' q b → T'.whole ∧ Gds O AL T'.list ∧ Gd O AL q ∧ T'.size ≤ T.size) := by
    intro b T' q h
    have := JoinR.ok (O := O) (A := A ++ l) h CG.out.1 (CG.out.2.2.1.more l) NG.out.1 (by rw [txt_more CG.out.2.2.1 l, CG.out.2.2.2.2.1, NG.out.2, List.length_take]; have := hz.out; omega)
    rw [HAL.out] at this
    exact ⟨this.1, this.2.1, this.2.2.1, this.2.2.2.2⟩
  go_upto_if 42 with fail
  go_cut [7] from 42 to 64 (fun x7 wx => ∃ T' q b xl dl, JoinR T (newP A l) T' q b ∧ x7 = .slice xl T'.size dl ∧ Hid (Ps w wx P g9 #[.slice a0 O.length c0, .slice x5 AL.length d5, .slice ar t.size cr, .int .i64 E] #[.int .i64 q.s, .int .i64 q.o, .int .i64 q.l] (.slice x5 AL.length d5) AL.length (Ab.bv AL) (.slice xl T'.size dl) T' (.slice x2 U.size d2) U))
  case first =>
    rcases Nat.eq_zero_or_pos T.size with h0 | h0
    · have hz0 : ¬ (0 : Int) < (T.size : Int) := by omega
      have hz9 : ¬ 0 < T.size := by omega
      have H0 := Hid.mk' h0
      clear h0
      have JN : Hid (JoinR T (newP A l) T (newP A l) false) := .inl ⟨rfl, rfl, rfl, fun m r hm _ => by have := H0.out; omega⟩
      go_wp2_with fail
      go_meet
      exact ⟨T, newP A l, false, x1, d1, JN.out, rfl, P7.out⟩
    · obtain ⟨m, hm⟩ : ∃ m, m + 1 = T.size := ⟨T.size - 1, by omega⟩
      have hml : m < T.list.length := by rw [Tr.size_list]; omega
      obtain ⟨r, hr⟩ : ∃ r, T.list[m]? = some r := ⟨_, List.getElem?_eq_getElem hml⟩
      have GR := Hid.mk' (CG.out.2.2.1.at hr)
      obtain ⟨gp, rfl⟩ := own_pos HP.out h0
      have hc : ∀ i, i < 4 → w7.cell? ⟨gp, m * 4 + i, none⟩ = r.cs[i]? := fun i hi => by
        rw [HP.out.cellAt (m * 4 + i) (by omega)]; exact cells_at4 hr i hi
      obtain ⟨rs, ro, rl, rn⟩ := r
      have k0 := hc 0 (by omega)
      have k1 := hc 1 (by omega)
      have k2 := hc 2 (by omega)
      simp only [Pc.cs, List.getElem?_cons_zero, List.getElem?_cons_succ, Nat.add_zero] at k0 k1 k2
      have s0 := P7.out.b9.cell (j := 0) rfl
      have s1 := P7.out.b9.cell (j := 1) rfl
      have s2 := P7.out.b9.cell (j := 2) rfl
      have hz0 : (0 : Int) < (T.size : Int) := by omega
      have hm1 : (T.size : Int) - 1 = (m : Int) := by omega
      have hmI : (m : Int) < (T.size : Int) := by omega
      have hmb : (T.size : Int) ≤ 524281 := by omega
      have hm0 : (0 : Int) ≤ (m : Int) := by omega
      have HR := Hid.mk' hr
      have HM := Hid.mk' hm
      obtain ⟨o', l', eo, el, _, _, _⟩ := Ab.hd_parts GR.out.hold
      have hro : -9223372036854775808 ≤ ro ∧ ro ≤ 9223372036854775807 := by
        have := which_len rs (O := O) (A := A) (n := 1048576) hbO (by omega)
        dsimp only at eo el
        omega
      have SPL := Hid.mk' (split_gdw (t := T) m GT.out.wh.1 GT.out.ft (by omega))
      have hS2 : Hid (∀ {W' : World}, Below w7.heap.size w7 W' → W'.cell? ⟨gp, m * 4, none⟩ = some (.int .i64 rs) ∧ W'.cell? ⟨gp, m * 4 + 1, none⟩ = some (.int .i64 ro) ∧ W'.cell? ⟨gp, m * 4 + 2, none⟩ = some (.int .i64 rl) ∧ W'.cell? ⟨g9, 0, none⟩ = some (.int .i64 1) ∧ W'.cell? ⟨g9, 1, none⟩ = some (.int .i64 (A.length : Int)) ∧ W'.cell? ⟨g9, 2, none⟩ = some (.int .i64 (l.length : Int))) := by
        unfold Hid; intro W' hb
        exact ⟨(hb.cell (cell_lt k0)).trans k0, (hb.cell (cell_lt k1)).trans k1, (hb.cell (cell_lt k2)).trans k2, (hb.cell (cell_lt s0)).trans s0, (hb.cell (cell_lt s1)).trans s1, (hb.cell (cell_lt s2)).trans s2⟩
      clear hc hr hm hml eo el
      cases hj : Ab.jnB rs ro rl 1 (A.length : Int) (l.length : Int) with
      | false =>
        have CJ := Hid.mk' (fun W => Ab.refJoins_no rs ro rl 1 (A.length : Int) (l.length : Int) W hro.1 hro.2 (by omega) (by omega) hj)
        have JN : Hid (JoinR T (newP A l) T (newP A l) false) := .inl ⟨rfl, rfl, rfl, fun m' r' hm' hr' => by
          obtain rfl : m = m' := by have := HM.out; omega
          rw [HR.out] at hr'
          obtain rfl := by simpa using hr'
          exact hj⟩
        clear hj
        go_wp2_with fail
        go_region_held3 (fun w' => w'.cell? ⟨gp, m * 4, none⟩ = some (.int .i64 rs) ∧ w'.cell? ⟨gp, m * 4 + 1, none⟩ = some (.int .i64 ro) ∧ w'.cell? ⟨gp, m * 4 + 2, none⟩ = some (.int .i64 rl) ∧ w'.cell? ⟨g9, 0, none⟩ = some (.int .i64 1) ∧ w'.cell? ⟨g9, 1, none⟩ = some (.int .i64 (A.length : Int)) ∧ w'.cell? ⟨g9, 2, none⟩ = some (.int .i64 (l.length : Int))) (first | (with_reducible exact hS2.out (Below.refl _ _).drew) | (with_reducible exact hS2.out (bAlloc (Below.refl _ _) _).drew) | (with_reducible exact hS2.out B8.out) | (with_reducible exact hS2.out (bAlloc B8.out _)) | (with_reducible exact hS2.out (bset (bset (bset B8.out (Nat.le_refl _) _ _) (Nat.le_refl _) _ _) (Nat.le_refl _) _ _))) (first | (go_at_call 112; refine (CJ.out w7.drew).mono ?_; rintro e w8 ⟨rfl, hb8⟩; have B8 := Hid.mk' (bT (Below.refl _ w7).drew hb8)) | (go_at_call 112; refine (CJ.out (w7.alloc (.cells #[.int .i64 0, .int .i64 0, .int .i64 0] 57)).drew).mono ?_; rintro e w8 ⟨rfl, hb8⟩; have B8 := Hid.mk' (bT (bAlloc (Below.refl _ w7) (.cells #[.int .i64 0, .int .i64 0, .int .i64 0] 57)).drew hb8); have X8 := Hid.mk' ((Blk.new w7 57 #[.int .i64 0, .int .i64 0, .int .i64 0]).keep (bT (Below.refl _ _).drew hb8)); have q0 := X8.out.cell (j := 0) rfl; have q1 := X8.out.cell (j := 1) rfl; have q2 := X8.out.cell (j := 2) rfl; have qf0 := X8.out.frozen 0; have qf1 := X8.out.frozen 1; have qf2 := X8.out.frozen 2; have qz := X8.out.lt) | fail)
        all_goals go_wp2_with fail
        all_goals go_meet
        all_goals exact ⟨T, newP A l, false, x1, d1, JN.out, rfl, P7.out.keep (by first | exact bAlloc B8.out _ | exact bset (bset (bset B8.out (Nat.le_refl _) _ _) (Nat.le_refl _) _ _) (Nat.le_refl _) _ _ | exact B8.out)⟩
      | true =>
        have CJ := Hid.mk' (fun W => Ab.refJoins_yes rs ro rl 1 (A.length : Int) (l.length : Int) W hj)
        have JN : Hid (JoinR T (newP A l) (Tr.splitT T m).1 (bothP ⟨rs, ro, rl, rn⟩ (newP A l)) true) := .inr ⟨rfl, m, _, HM.out, HR.out, hj, rfl, rfl⟩
        clear hj
        go_wp2_with fail
        go_region_held3 (fun w' => w'.cell? ⟨gp, m * 4, none⟩ = some (.int .i64 rs) ∧ w'.cell? ⟨gp, m * 4 + 1, none⟩ = some (.int .i64 ro) ∧ w'.cell? ⟨gp, m * 4 + 2, none⟩ = some (.int .i64 rl) ∧ w'.cell? ⟨g9, 0, none⟩ = some (.int .i64 1) ∧ w'.cell? ⟨g9, 1, none⟩ = some (.int .i64 (A.length : Int)) ∧ w'.cell? ⟨g9, 2, none⟩ = some (.int .i64 (l.length : Int))) (first | (with_reducible exact hS2.out (Below.refl _ _).drew) | (with_reducible exact hS2.out (bAlloc (Below.refl _ _) _).drew) | (with_reducible exact hS2.out B8.out) | (with_reducible exact hS2.out (bAlloc B8.out _)) | (with_reducible exact hS2.out (bset (bset (bset B8.out (Nat.le_refl _) _ _) (Nat.le_refl _) _ _) (Nat.le_refl _) _ _))) (first | (go_at_call 112; refine (CJ.out w7.drew).mono ?_; rintro e w8 ⟨rfl, hb8⟩; have B8 := Hid.mk' (bT (Below.refl _ w7).drew hb8)) | (go_at_call 112; refine (CJ.out (w7.alloc (.cells #[.int .i64 0, .int .i64 0, .int .i64 0] 57)).drew).mono ?_; rintro e w8 ⟨rfl, hb8⟩; have B8 := Hid.mk' (bT (bAlloc (Below.refl _ w7) (.cells #[.int .i64 0, .int .i64 0, .int .i64 0] 57)).drew hb8); have X8 := Hid.mk' ((Blk.new w7 57 #[.int .i64 0, .int .i64 0, .int .i64 0]).keep (bT (Below.refl _ _).drew hb8)); have q0 := X8.out.cell (j := 0) rfl; have q1 := X8.out.cell (j := 1) rfl; have q2 := X8.out.cell (j := 2) rfl; have qf0 := X8.out.frozen 0; have qf1 := X8.out.frozen 1; have qf2 := X8.out.frozen 2; have qz := X8.out.lt) | fail)
        all_goals (first
          | (have X9 := Hid.mk' (Blk.new w8 57 #[.int .i64 rs, .int .i64 ro, .int .i64 (rl + (l.length : Int))])
             have P9 := Hid.mk' (P7.out.keep (bAlloc B8.out (.cells #[.int .i64 rs, .int .i64 ro, .int .i64 (rl + (l.length : Int))] 57)))
             generalize hW9 : w8.alloc (.cells #[.int .i64 rs, .int .i64 ro, .int .i64 (rl + (l.length : Int))] 57) = W9 at *
             obtain ⟨gj, hgj⟩ : ∃ g, w8.heap.size = g := ⟨_, rfl⟩
             rw [hgj] at X9 ⊢
             clear hgj hW9)
          | (have X9 := Hid.mk' (blk_set (j := 2) (blk_set (j := 1) (blk_set (j := 0) X8.out (.int .i64 rs)) (.int .i64 ro)) (.int .i64 (rl + (l.length : Int))))
             have P9 := Hid.mk' (P7.out.keep (bset (bset (bset B8.out (Nat.le_refl _) 0 (.int .i64 rs)) (Nat.le_refl _) 1 (.int .i64 ro)) (Nat.le_refl _) 2 (.int .i64 (rl + (l.length : Int)))))
             simp only [List.setIfInBounds_toArray, List.set_cons_zero, List.set_cons_succ] at X9
             generalize hW9 : ((w8.setCell ⟨w7.heap.size, 0, none⟩ (.int .i64 rs)).setCell ⟨w7.heap.size, 1, none⟩ (.int .i64 ro)).setCell ⟨w7.heap.size, 2, none⟩ (.int .i64 (rl + (l.length : Int))) = W9 at *
             obtain ⟨gj, hgj⟩ : ∃ g, w7.heap.size = g := ⟨_, rfl⟩
             rw [hgj] at X9 ⊢
             clear hgj hW9))
        all_goals (
          have x0 := X9.out.cell (j := 0) rfl
          have x1' := X9.out.cell (j := 1) rfl
          have x2' := X9.out.cell (j := 2) rfl
          have t0 := P9.out.b9.cell (j := 0) rfl
          have t1 := P9.out.b9.cell (j := 1) rfl
          have t2 := P9.out.b9.cell (j := 2) rfl
          have u0 := P9.out.b9.frozen 0
          have u1 := P9.out.b9.frozen 1
          have u2 := P9.out.b9.frozen 2
          have uz := P9.out.b9.lt
          have P10 := Hid.mk' (P9.out.set9 (.int .i64 rs) (.int .i64 ro) (.int .i64 (rl + (l.length : Int))))
          have D3 := Hid.mk' (Splitr_yes T _ m _ GT (by omega) P10.out.rl.rdr (show Hid (m ≤ T.size) by unfold Hid; have := HM.out; omega))
          go_wp2_with fail
          refine D3.out.mono ?_
          rintro e w11 ⟨l1, l2, rfl, h1, h2, hb11⟩
          have P11 := Hid.mk' (P10.out.left hb11 h1)
          obtain ⟨y1, z1, e1⟩ := own_shape' h1
          obtain ⟨y2, z2, e2⟩ := own_shape' h2
          subst e1 e2
          clear h1 h2 hb11 x0 x1' x2' t0 t1 t2 u0 u1 u2 uz
          go_wp2_with fail
          go_meet
          exact ⟨_, _, true, y1, z1, JN.out, rfl, P11.out⟩)
  case rest =>
  obtain ⟨T', q, b, xl, dl, hj, rfl, P8⟩ := hcut
  obtain ⟨j1, j2, j3, j5⟩ := HGp.out b T' q hj
  have HJ := Hid.mk' hj
  have HJF : Hid (jnT T' ⟨q.s, q.o, q.l, Ab.lnV q.s q.o q.l O AL⟩ U = Tr.joinT T' q U) := by
    unfold Hid
    rw [gd_lnV j3]
    exact jnT_fit j3.fit
  obtain ⟨o', l', eo, el, _, _, _⟩ := Ab.hd_parts j3.hold
  have hqo : -9223372036854775808 ≤ q.o ∧ q.o ≤ 9223372036854775807 := by
    have := which_len q.s (O := O) (A := AL) (n := 1048576) hbO (by rw [HALl.out]; exact hAl)
    omega
  have GT' := Hid.mk' (gdw_of j1 j2 (by omega))
  have szT' : Hid (T'.size + U.size ≤ 524287) := by unfold Hid; omega
  clear hj j1 j2 j3 j5 eo el
  have b0 := P8.out.b3.cell (j := 0) rfl
  have b1 := P8.out.b3.cell (j := 1) rfl
  have b2 := P8.out.b3.cell (j := 2) rfl
  have b3 := P8.out.b3.cell (j := 3) rfl
  have s0 := P8.out.b9.cell (j := 0) rfl
  have s1 := P8.out.b9.cell (j := 1) rfl
  have s2 := P8.out.b9.cell (j := 2) rfl
  have D2 := Hid.mk' (rpiece_any a0 x5 ar c0 d5 t.size cr E O AL (min base (w.heap.size + 2)) q.s q.o q.l wc hqo.1 hqo.2 (by have := which_len q.s (O := O) (A := AL) (n := 1048576) hbO (by rw [HALl.out]; exact hAl); omega) (Rk.own_lower (Ab.own_keep K.out.o P8.out.be) (Nat.min_le_left _ _)) (Rk.own_lower P8.out.ad (Nat.min_le_right _ _)))
  go_wp2_with fail
  refine D2.out.mono ?_
  rintro e w9 ⟨rfl, hb9⟩
  have P9 := Hid.mk' (P8.out.keep hb9)
  clear hb9 D2 P8 b0 b1 b2 b3 s0 s1 s2
  have D3 := Hid.mk' (Joinr_any T' U _ _ q.s q.o q.l (Ab.lnV q.s q.o q.l O AL) w9 GT' GU szT'.out P9.out.rl.rdr P9.out.ru.rdr)
  rw [HJF.out] at D3
  go_wp2_with fail
  refine D3.out.mono ?_
  rintro e w10 ⟨lj, rfl, hj10, hb10⟩
  have PA := Hid.mk' (P9.out.left hb10 hj10)
  obtain ⟨xj, dj, ej⟩ := own_shape' hj10
  subst ej
  have HJW : Hid (w10.ownsRow (w.heap.size + 2) 128 10 (.slice xj (Tr.joinT T' q U).size dj) (Tr.joinT T' q U).size (rcells (rowsT (Tr.joinT T' q U)))) := Rk.own_lower hj10 (by have := P9.out.b6.lt; omega)
  clear hj10 hb10 D3 P9
  generalize hTJ : Tr.joinT T' q U = TJ at *
  have HTJ := Hid.mk' hTJ
  clear hTJ
  have b2 := PA.out.b3.cell (j := 2) rfl
  have f2 := PA.out.b3.frozen 2
  have PB := Hid.mk' (PA.out.set3 2 (.slice xj TJ.size dj))
  simp only [List.setIfInBounds_toArray, List.set_cons_zero, List.set_cons_succ] at PB
  have c3 := PB.out.b3.cell (j := 3) rfl
  have f3 := PB.out.b3.frozen 3
  have PC := Hid.mk' (PB.out.set3 3 (.int .i64 (E + 1)))
  simp only [List.setIfInBounds_toArray, List.set_cons_zero, List.set_cons_succ] at PC
  have zz := PA.out.b6.lt
  have zy := PA.out.b3.lt
  have e0 := PC.out.b3.cell (j := 0) rfl
  have e1 := PC.out.b3.cell (j := 1) rfl
  have e2 := PC.out.b3.cell (j := 2) rfl
  have e3 := PC.out.b3.cell (j := 3) rfl
  have z0 := PC.out.b6.cell (j := 0) rfl
  have z1 := PC.out.b6.cell (j := 1) rfl
  have z2 := PC.out.b6.cell (j := 2) rfl
  have z3 := PC.out.b6.cell (j := 3) rfl
  have h0 := PC.out.b6.frozen 0
  have h1 := PC.out.b6.frozen 1
  have h2 := PC.out.b6.frozen 2
  have h3 := PC.out.b6.frozen 3
  have hadd : IntKind.i64.wrap (E + 1) = E + 1 := by rw [IntKind.wrap_i64]; omega
  clear PA PB
  go_wp2
  all_goals exact bodyPost_ret (v := .agg #[.slice a0 O.length c0, .slice x5 AL.length d5, .slice xj TJ.size dj, .int .i64 (E + 1)]) (by simp [results, Tryz.results67, go_sem, z0, z1, z2, z3]) rfl ⟨TJ, x5, d5, xj, dj, ⟨T, U, T', q, b, HC.out, HJ.out, HTJ.out.symm⟩, by rw [HAL.out], by
    rw [HAL.out]
    have h := PC.out.ad_ne
    exact Rk.own_lower (own_off (own_off (own_off (own_off PC.out.ad h.2.2) h.2.2) h.2.2) h.2.2) (by omega), by
    have h1 : ∀ k, (Value.slice xj TJ.size dj).ownBlock = some k → w.heap.size + 2 ≤ k := fun k hk => (HJW.out.lt k hk).1
    have n1 : (Value.slice xj TJ.size dj).ownBlock ≠ some w.heap.size := fun e => by have := h1 _ e; omega
    have n2 : (Value.slice xj TJ.size dj).ownBlock ≠ some (w.heap.size + 1) := fun e => by have := h1 _ e; omega
    exact Rk.own_lower (own_off (own_off (own_off (own_off (own_off (own_off HJW.out n1) n1) n2) n2) n2) n2) (by omega), setb (setb (setb (setb PC.out.be _ _) _ _) _ _) _ _⟩

end Go.Proofs.YtmhpeppbhjpkiaaGreat

