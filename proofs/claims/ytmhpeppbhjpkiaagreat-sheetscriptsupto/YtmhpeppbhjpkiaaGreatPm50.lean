/- The reference's New. -/
import Derived.Test.YtmhpeppbhjpkiaaGreatPm38
import Derived.Test.YtmhpeppbhjpkiaaGreatPm16
namespace Go.Proofs.YtmhpeppbhjpkiaaGreat
open Go.RowKit

theorem glu_nil_size : (Tr.gluT (Tr.mk none) (Tr.mk none)).size = 0 := by rw [← Tr.size_list, Tr.gluT_list]; rfl
theorem rows_nil {t : Tr} (h : t.size = 0) : rcells (rowsT t) = [] := by
  have : rowsT t = [] := List.eq_nil_of_length_eq_zero (by rw [rowsT_length]; exact h)
  rw [this]; rfl
/-- what the reference's New gives -/
def RnewG (w : World) (l : List UInt8) (e : Ending) (w' : World) : Prop := ∃ t x0 d0 xr dr, NewR l t ∧ e = .returned (.agg #[.slice x0 l.length d0, .slice none 0 0, .slice xr t.size dr, .int .i64 0]) ∧ Ko w' w.heap.size x0 d0 none 0 xr dr l [] t ∧ Below w.heap.size w w'
set_option maxRecDepth 8000 in
set_option maxHeartbeats 4000000 in
theorem rNew_any (ao : Option Addr) (c : Nat) (l : List UInt8) (w : World) (hz : l.length ≤ 1048576) (hv : Hid (Ab.Rd w (.slice ao l.length c) l)) :
    Calls Tryz.prog 8 #[.slice ao l.length c] w fun e w' => RnewG w l e w' := by
  obtain ⟨i5, hi5, hz5, hs5, hb5⟩ := info_parts Ab.info5
  have B0 := Hid.mk' (bAA w (.cells #[.slice none 0 0, .slice none 0 0, .slice none 0 0, .int .i64 0] 31) (.cells #[.slice none 0 0, .slice none 0 0, .slice none 0 0, .int .i64 0] 31))
  have Y2 := Hid.mk' ((Blk.new w 31 #[.slice none 0 0, .slice none 0 0, .slice none 0 0, .int .i64 0]).keep (bAlloc (Below.refl _ _) (.cells #[.slice none 0 0, .slice none 0 0, .slice none 0 0, .int .i64 0] 31)))
  have Y3 := Blk.new (w.alloc (.cells #[.slice none 0 0, .slice none 0 0, .slice none 0 0, .int .i64 0] 31)) 31 #[.slice none 0 0, .slice none 0 0, .slice none 0 0, .int .i64 0]
  rw [World.size_alloc] at Y3
  have Y3 := Hid.mk' Y3
  go_enter Tryz.func8, Tryz.ntmps8
  go_wp2_with (at_builtin; refine Rk.append_srv rfl (.tmp 5) (.tmp 6) 22 rfl (w.heap.size + 2) 5 i5 (.int .u8 0) 1 1 Tryz.underlying22 hi5 hz5 hs5 hb5 rfl (by decide) (.slice none 0 0) 0 [] rfl (World.ownsRow_nil _ _ _ _) (.slice ao l.length c) l.length (Ab.bv l) rfl (rd_srvK (hv.out.keep B0.out) rfl) (by rw [Ab.bv_length, Nat.mul_one]) (Ab.bv_one _) (by unfold maxLen; omega) (by omega) (by simp) ?_)
  intro v3 w3 hown3 hgrow3 _
  have HO3 : Hid (w3.ownsRow (w.heap.size + 2) 5 1 v3 l.length (Ab.bv l)) := by unfold Hid; simpa using hown3
  have hb3 : Below (w.heap.size + 2) ((w.alloc (.cells #[.slice none 0 0, .slice none 0 0, .slice none 0 0, .int .i64 0] 31)).alloc (.cells #[.slice none 0 0, .slice none 0 0, .slice none 0 0, .int .i64 0] 31)) w3 := (Below.refl _ _).grown hgrow3 (by simp) (fun k hk => by simp [Value.ownBlock] at hk)
  have V2 : Hid (Blk w3 w.heap.size 31 #[.slice none 0 0, .slice none 0 0, .slice none 0 0, .int .i64 0]) := by
    have h := Y2.out; unfold Hid; unfold Blk at h ⊢; rw [hb3.block _ (by omega)]; exact h
  have V3 : Hid (Blk w3 (w.heap.size + 1) 31 #[.slice none 0 0, .slice none 0 0, .slice none 0 0, .int .i64 0]) := by
    have h := Y3.out; unfold Hid; unfold Blk at h ⊢; rw [hb3.block _ (by omega)]; exact h
  have B3 : Hid (Below w.heap.size w w3) := B0.out.trans (hb3.mono (by omega))
  obtain ⟨x0, d0, e0⟩ := own_shape' HO3.out
  subst e0
  clear hown3 hgrow3 hb3 Y2 Y3 B0
  have c0 := V3.out.cell (j := 0) rfl
  have f0 := V3.out.frozen 0
  have cz := V3.out.lt
  have V4 := Hid.mk' (blk_set (j := 0) V3.out (.slice x0 l.length d0))
  have Q4 := Hid.mk' (blk_off (B := w.heap.size + 1) (j := 0) V2.out (by omega) (.slice x0 l.length d0))
  simp only [List.setIfInBounds_toArray, List.set_cons_zero] at V4
  have HO4 := Hid.mk' (own_off (k := w.heap.size + 1) (j := 0) (u := .slice x0 l.length d0) HO3.out (fun e => by have := HO3.out.lt _ e; omega))
  have B4 : Hid (Below w.heap.size w (w3.setCell ⟨w.heap.size + 1, 0, none⟩ (.slice x0 l.length d0))) := setb B3.out _ _
  by_cases hl : l = []
  · have HL := Hid.mk' hl
    have hl0 : Hid (l.length = 0) := by unfold Hid; rw [hl]; rfl
    have hn : ¬ (0 : Int) < (l.length : Int) := by have := hl0.out; omega
    have hn2 : ¬ 0 < l.length := by have := hl0.out; omega
    clear hl
    have z0 := Q4.out.cell (j := 0) rfl
    have z1 := Q4.out.cell (j := 1) rfl
    have z2 := Q4.out.cell (j := 2) rfl
    have z3 := Q4.out.cell (j := 3) rfl
    have q0 := Q4.out.frozen 0
    have q1 := Q4.out.frozen 1
    have q2 := Q4.out.frozen 2
    have q3 := Q4.out.frozen 3
    have b0 := V4.out.cell (j := 0) rfl
    have b1 := V4.out.cell (j := 1) rfl
    have b2 := V4.out.cell (j := 2) rfl
    have b3 := V4.out.cell (j := 3) rfl
    have hz := Q4.out.lt
    go_wp2
    all_goals exact bodyPost_ret (v := .agg #[.slice x0 l.length d0, .slice none 0 0, .slice none 0 0, .int .i64 0]) (by simp [results, Tryz.results8, go_sem, z0, z1, z2, z3]) rfl ⟨Tr.gluT (Tr.mk none) (Tr.mk none), x0, d0, none, 0, .inl ⟨HL.out, rfl⟩, by rw [glu_nil_size], ⟨by
        have n : (Value.slice x0 l.length d0).ownBlock ≠ some w.heap.size := fun e => by have := HO4.out.lt _ e; omega
        exact Rk.own_lower (own_off (own_off (own_off (own_off HO4.out n) n) n) n) (by omega), World.ownsRow_nil _ _ _ _, by rw [rows_nil glu_nil_size, glu_nil_size]; exact World.ownsRow_nil _ _ _ _⟩, bset (bset (bset (bset B4.out (Nat.le_refl _) _ _) (Nat.le_refl _) _ _) (Nat.le_refl _) _ _) (Nat.le_refl _) _ _⟩
  · have HL := Hid.mk' hl
    have hlp : 0 < l.length := by
      rcases Nat.eq_zero_or_pos l.length with h | h
      · exact absurd (List.length_eq_zero_iff.1 h) hl
      · exact h
    have hlI : (0 : Int) < (l.length : Int) := by omega
    have NR : Hid (NewR l (Tr.joinT (Tr.mk none) ⟨0, 0, l.length, Ab.nl l⟩ (Tr.mk none))) := .inr ⟨hl, rfl⟩
    have NO := Hid.mk' (NR.out.ok hz)
    have GP : Hid (Gd l [] ⟨0, 0, l.length, Ab.nl l⟩) := NO.out.2.1 _ (by rw [Tr.joinT_list]; simp [Tr.list])
    have HJ : Hid (jnT (Tr.mk none) ⟨0, 0, (l.length : Int), Ab.lnV 0 0 (l.length : Int) l []⟩ (Tr.mk none) = Tr.joinT (Tr.mk none) ⟨0, 0, l.length, Ab.nl l⟩ (Tr.mk none)) := by
      have e := gd_lnV GP.out
      dsimp only at e
      unfold Hid
      rw [e]
      exact jnT_fit GP.out.fit
    have b0 := V4.out.cell (j := 0) rfl
    have b1 := V4.out.cell (j := 1) rfl
    have b2 := V4.out.cell (j := 2) rfl
    have b3 := V4.out.cell (j := 3) rfl
    have D1 := Hid.mk' (rpiece_any x0 none none d0 0 0 0 0 l [] (w.heap.size + 2) 0 0 (l.length : Int) _ (by omega) (by omega) (by unfold Ab.which; simp; omega) HO4 (World.ownsRow_nil _ _ _ _))
    rw [show ([] : List UInt8).length = 0 from rfl] at D1
    clear hl
    go_wp2_with fail
    refine D1.out.mono ?_
    rintro e w5 ⟨rfl, hb5'⟩
    have V5 := Hid.mk' (V4.out.keep hb5')
    have Q5 := Hid.mk' (Q4.out.keep hb5')
    have HO5 := Hid.mk' (own_keep' HO4.out hb5')
    have B5 := Hid.mk' (bT B4.out hb5')
    clear hb5' D1 V4 Q4 HO4 B4 b0 b1 b2 b3 c0 f0 cz V2 V3 HO3 B3
    have D2 := Hid.mk' (Joinr_any (Tr.mk none) (Tr.mk none) (.slice none 0 0) (.slice none 0 0) 0 0 (l.length : Int) (Ab.lnV 0 0 (l.length : Int) l []) w5 gdw_nil gdw_nil (by decide) (rdr_nil _) (rdr_nil _))
    rw [HJ.out] at D2
    go_wp2_with fail
    refine D2.out.mono ?_
    rintro e w6 ⟨lj, rfl, hj6, hb6⟩
    have V6 := Hid.mk' (V5.out.keep hb6)
    have Q6 := Hid.mk' (Q5.out.keep hb6)
    have HO6 := Hid.mk' (own_keep' HO5.out hb6)
    have B6 := Hid.mk' (bT B5.out hb6)
    obtain ⟨xj, dj, ej⟩ := own_shape' hj6
    subst ej
    have HJW : Hid (w6.ownsRow (w.heap.size + 2) 128 10 (.slice xj (Tr.joinT (Tr.mk none) ⟨0, 0, l.length, Ab.nl l⟩ (Tr.mk none)).size dj) (Tr.joinT (Tr.mk none) ⟨0, 0, l.length, Ab.nl l⟩ (Tr.mk none)).size (rcells (rowsT (Tr.joinT (Tr.mk none) ⟨0, 0, l.length, Ab.nl l⟩ (Tr.mk none))))) := Rk.own_lower hj6 (by have := V5.out.lt; omega)
    clear hj6 hb6 D2 V5 Q5 HO5 B5
    generalize Tr.joinT (Tr.mk none) ⟨0, 0, l.length, Ab.nl l⟩ (Tr.mk none) = TJ at *
    have c2 := V6.out.cell (j := 2) rfl
    have f2 := V6.out.frozen 2
    have V7 := Hid.mk' (blk_set (j := 2) V6.out (.slice xj TJ.size dj))
    have Q7 := Hid.mk' (blk_off (B := w.heap.size + 1) (j := 2) Q6.out (by omega) (.slice xj TJ.size dj))
    simp only [List.setIfInBounds_toArray, List.set_cons_zero, List.set_cons_succ] at V7
    have z0 := Q7.out.cell (j := 0) rfl
    have z1 := Q7.out.cell (j := 1) rfl
    have z2 := Q7.out.cell (j := 2) rfl
    have z3 := Q7.out.cell (j := 3) rfl
    have q0 := Q7.out.frozen 0
    have q1 := Q7.out.frozen 1
    have q2 := Q7.out.frozen 2
    have q3 := Q7.out.frozen 3
    have b0 := V7.out.cell (j := 0) rfl
    have b1 := V7.out.cell (j := 1) rfl
    have b2 := V7.out.cell (j := 2) rfl
    have b3 := V7.out.cell (j := 3) rfl
    have hz9 := Q6.out.lt
    have hz8 := V6.out.lt
    go_wp2
    all_goals exact bodyPost_ret (v := .agg #[.slice x0 l.length d0, .slice none 0 0, .slice xj TJ.size dj, .int .i64 0]) (by simp [results, Tryz.results8, go_sem, z0, z1, z2, z3]) rfl ⟨TJ, x0, d0, xj, dj, NR.out, rfl, ⟨by
        have n : (Value.slice x0 l.length d0).ownBlock ≠ some w.heap.size := fun e => by have := HO6.out.lt _ e; omega
        have n2 : (Value.slice x0 l.length d0).ownBlock ≠ some (w.heap.size + 1) := fun e => by have := HO6.out.lt _ e; omega
        exact Rk.own_lower (own_off (own_off (own_off (own_off (own_off HO6.out n2) n) n) n) n) (by omega), World.ownsRow_nil _ _ _ _, by
        have n : (Value.slice xj TJ.size dj).ownBlock ≠ some w.heap.size := fun e => by have := HJW.out.lt _ e; omega
        have n2 : (Value.slice xj TJ.size dj).ownBlock ≠ some (w.heap.size + 1) := fun e => by have := HJW.out.lt _ e; omega
        exact Rk.own_lower (own_off (own_off (own_off (own_off (own_off HJW.out n2) n) n) n) n) (by omega)⟩, bset (bset (bset (bset (setb B6.out _ _) (Nat.le_refl _) _ _) (Nat.le_refl _) _ _) (Nat.le_refl _) _ _) (Nat.le_refl _) _ _⟩

end Go.Proofs.YtmhpeppbhjpkiaaGreat

