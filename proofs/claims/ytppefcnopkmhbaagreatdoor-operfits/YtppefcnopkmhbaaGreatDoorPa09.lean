/- Lpr, Tkffn, Tkffe, Tkffm, Tkftn, Tkfte, Tkftm -/
import Derived.Test.YtppefcnopkmhbaaGreatDoorPa08
import Derived.Test.YtppefcnopkmhbaaGreatDoorPa02
namespace Go.Proofs.YtppefcnopkmhbaaGreatDoor
open Go.RowKit

theorem rgB_mk {l : List UInt8} {F T : Int} {L D : Bool} (h1 : 0 ≤ F) (h2 : F ≤ T) (h3 : T ≤ l.length) (h4 : D = false ∨ leB l F = true) : rgB l F T L D = true := by
  unfold rgB
  rw [decide_eq_true ⟨h1, h2, h3⟩, Bool.true_and]
  rcases h4 with h4 | h4
  · rw [h4]; simp
  · rw [h4]; simp
/-- the bytes from a to b -/
def sl (l : List UInt8) (a b : Nat) : List UInt8 := (l.drop a).take (b - a)
theorem sl_app (l : List UInt8) {a b c : Nat} (h1 : a ≤ b) (h2 : b ≤ c) : sl l a b ++ sl l b c = sl l a c := by
  unfold sl
  rw [show c - a = (b - a) + (c - b) from by omega, List.take_add, List.drop_drop, show a + (b - a) = b from by omega]
theorem sl_self (l : List UInt8) (a : Nat) : sl l a a = [] := by unfold sl; rw [Nat.sub_self, List.take_zero]
theorem sl_one {l : List UInt8} {e : Nat} (h : e < l.length) (hl : le (at8 l e) = true) : sl l e (e + 1) = [10] := by
  unfold sl
  rw [show e + 1 - e = 1 from by omega, List.drop_eq_getElem_cons h, List.take_succ_cons, List.take_zero]
  rw [le_ten, at8_eq h] at hl
  rw [eq_of_beq hl]
theorem sl_zero (l : List UInt8) (b : Nat) : sl l 0 b = l.take b := by unfold sl; rw [List.drop_zero, Nat.sub_zero]
theorem sl_end (l : List UInt8) (a : Nat) : sl l a l.length = l.drop a := by unfold sl; rw [List.take_of_length_le (by simp)]
theorem sl_len {l : List UInt8} {a b : Nat} (hb : b ≤ l.length) : (sl l a b).length = b - a := by unfold sl; simp; omega
theorem ln_sl (l : List UInt8) (i : Nat) : ln l i = sl l (sp l i) (en l (sp l i)) := rfl
theorem sp_mono {l : List UInt8} {i j : Nat} (h : i ≤ j) (hj : j ≤ nl l) : sp l i ≤ sp l j := by
  rcases Nat.lt_or_ge (sp l j) (sp l i) with hh | hh
  · have := (sp_st hj).lt (sp_st (by omega)) hh; omega
  · exact hh
theorem en_last (l : List UInt8) : en l (sp l (nl l)) = l.length := by
  have hs := sp_st (t := l) (n := nl l) (Nat.le_refl _)
  rcases Nat.lt_or_ge (en l (sp l (nl l))) l.length with h1 | h1
  · have := (hs.next h1).low; omega
  · have := en_le hs.low'; omega
theorem lnT {l : List UInt8} {i : Nat} (h : i + 1 ≤ nl l) : ln l i ++ [10] = sl l (sp l i) (sp l (i + 1)) := by
  obtain ⟨h1, h2⟩ := sp_next h
  rw [ln_sl, h2, ← sl_one h1 (en_edge h1)]
  exact sl_app l (en_ge l _) (by omega)
/-- k lines from f on, each with a line end -/
def cat (l : List UInt8) (f : Nat) : Nat → List UInt8
  | 0 => []
  | k + 1 => (cat l f k ++ ln l (f + k)) ++ [10]
theorem cat_in {l : List UInt8} {f : Nat} : ∀ k, f + k ≤ nl l → cat l f k = sl l (sp l f) (sp l (f + k))
  | 0, _ => by rw [Nat.add_zero, sl_self]; rfl
  | k + 1, h => by
    unfold cat
    rw [cat_in k (by omega), List.append_assoc, lnT (by omega)]
    exact sl_app l (sp_mono (by omega) (by omega)) (sp_mono (by omega) (by omega))
theorem cat_last {l : List UInt8} {f : Nat} (h : f ≤ nl l) : cat l f (nl l + 1 - f) = l.drop (sp l f) ++ [10] := by
  rw [show nl l + 1 - f = (nl l - f) + 1 from by omega]
  unfold cat
  rw [cat_in (nl l - f) (by omega), show f + (nl l - f) = nl l from by omega, ln_sl, en_last, sl_app l (sp_mono h (Nat.le_refl _)) (sp_le (Nat.le_refl _)), sl_end]
theorem cat_len {l : List UInt8} {f k : Nat} (h : f + k ≤ nl l + 1) : (cat l f k).length ≤ l.length + 1 := by
  rcases Nat.lt_or_ge (nl l) (f + k) with hh | hh
  · rcases Nat.eq_zero_or_pos k with h0 | h0
    · subst h0; exact Nat.zero_le _
    · obtain rfl : k = nl l + 1 - f := by omega
      rw [cat_last (by omega), List.length_append, List.length_drop]; simp
  · rw [cat_in k hh, sl_len (sp_le hh)]
    have := sp_le hh; omega
/-- the lines but f to t, of the first i -/
def RR (l : List UInt8) (f t i : Nat) : List UInt8 := if i ≤ f then jl l i else if i ≤ t + 1 then jl l f else l.take (sp l f) ++ sl l (sp l (t + 1)) (en l (sp l (i - 1)))
/-- how many of them -/
def lft (f t i : Nat) : Nat := if i ≤ f then i else if i ≤ t + 1 then f else i + f - (t + 1)
theorem jl_ten {l : List UInt8} {i : Nat} (h0 : 0 < i) (h : i ≤ nl l) : jl l i ++ [10] = l.take (sp l i) := by
  obtain ⟨k, rfl⟩ : ∃ k, i = k + 1 := ⟨i - 1, by omega⟩
  exact jl_end h
theorem RR_skip {l : List UInt8} {f t i : Nat} (h1 : f ≤ i) (h2 : i ≤ t) : RR l f t (i + 1) = RR l f t i ∧ lft f t (i + 1) = lft f t i := by
  unfold RR lft
  rw [if_neg (show ¬ i + 1 ≤ f by omega), if_pos (show i + 1 ≤ t + 1 by omega), if_neg (show ¬ i + 1 ≤ f by omega), if_pos (show i + 1 ≤ t + 1 by omega)]
  rcases Nat.lt_or_ge f i with h | h
  · rw [if_neg (by omega), if_pos (by omega), if_neg (by omega), if_pos (by omega)]; exact ⟨rfl, rfl⟩
  · obtain rfl : i = f := by omega
    rw [if_pos (Nat.le_refl _), if_pos (Nat.le_refl _)]; exact ⟨rfl, rfl⟩
theorem RR_step {l : List UInt8} {f t i : Nat} (hft : f ≤ t) (hi : i ≤ nl l) (h : i < f ∨ t < i) : RR l f t (i + 1) = (if 0 < lft f t i then RR l f t i ++ [10] else RR l f t i) ++ ln l i ∧ lft f t (i + 1) = lft f t i + 1 := by
  rcases h with h | h
  · have e1 : RR l f t (i + 1) = jl l (i + 1) := if_pos (by omega)
    have e2 : RR l f t i = jl l i := if_pos (by omega)
    have e3 : lft f t i = i := if_pos (by omega)
    have e4 : lft f t (i + 1) = i + 1 := if_pos (by omega)
    rw [e1, e2, e3, e4]
    refine ⟨?_, rfl⟩
    rw [← jl_next hi]
    rcases Nat.eq_zero_or_pos i with h0 | h0
    · subst h0; rw [if_neg (by omega), sp_zero]; rfl
    · rw [if_pos h0, jl_ten h0 hi]
  · have e1 : RR l f t (i + 1) = l.take (sp l f) ++ sl l (sp l (t + 1)) (en l (sp l i)) := by
      unfold RR; rw [if_neg (by omega), if_neg (by omega), Nat.add_sub_cancel]
    have e4 : lft f t (i + 1) = i + 1 + f - (t + 1) := by unfold lft; rw [if_neg (by omega), if_neg (by omega)]
    rw [e1, e4]
    rcases Nat.lt_or_ge (t + 1) i with h1 | h1
    · have e2 : RR l f t i = l.take (sp l f) ++ sl l (sp l (t + 1)) (en l (sp l (i - 1))) := by unfold RR; rw [if_neg (by omega), if_neg (by omega)]
      have e3 : lft f t i = i + f - (t + 1) := by unfold lft; rw [if_neg (by omega), if_neg (by omega)]
      rw [e2, e3, if_pos (by omega)]
      refine ⟨?_, by omega⟩
      obtain ⟨q1, q2⟩ := sp_next (l := l) (i := i - 1) (by omega)
      rw [show i - 1 + 1 = i from by omega] at q2
      have m1 := sp_mono (l := l) (i := t + 1) (j := i - 1) (by omega) (by omega)
      have m2 := en_ge l (sp l (i - 1))
      rw [List.append_assoc, List.append_assoc]
      congr 1
      rw [← sl_one q1 (en_edge q1), ln_sl, q2, sl_app l (by omega) (en_ge l _), sl_app l (by omega) (by have := en_ge l (en l (sp l (i - 1)) + 1); omega)]
    · obtain rfl : i = t + 1 := by omega
      have e2 : RR l f t (t + 1) = jl l f := by unfold RR; rw [if_neg (by omega), if_pos (by omega)]
      have e3 : lft f t (t + 1) = f := by unfold lft; rw [if_neg (by omega), if_pos (by omega)]
      rw [e2, e3]
      refine ⟨?_, by omega⟩
      rcases Nat.eq_zero_or_pos f with h0 | h0
      · subst h0; rw [if_neg (by omega), sp_zero]; rfl
      · rw [if_pos h0, jl_ten h0 (by omega)]; rfl
theorem jl_len {l : List UInt8} (i : Nat) : (jl l i).length ≤ l.length := by
  cases i with
  | zero => exact Nat.zero_le _
  | succ i => unfold jl; rw [List.length_take]; omega
theorem RR_len {l : List UInt8} {f t i : Nat} (hft : f ≤ t) (hi : i ≤ nl l + 1) : (RR l f t i).length ≤ l.length := by
  unfold RR
  split
  · exact jl_len _
  · split
    · exact jl_len _
    · rename_i h1 h2
      have m0 := sp_le (t := l) (n := i - 1) (by omega)
      have m1 := en_le m0
      have m2 := sp_mono (l := l) (i := f) (j := t + 1) (by omega) (by omega)
      have m3 := sp_le (t := l) (n := t + 1) (by omega)
      rw [List.length_append, List.length_take, sl_len m1]; omega
theorem tkb_f (l : List UInt8) (a b : Nat) : tkb l a b false = sl l a b := rfl
theorem tkb_t (l : List UInt8) (a b : Nat) : tkb l a b true = sl l (a + 1) b := rfl
theorem lack_no {l : List UInt8} {a b : Nat} (h : a < b) (hb : b ≤ l.length) (hl : le (at8 l (b - 1)) = true) : lack (sl l a b) = false := by
  have hlen : (sl l a b).length = b - a := sl_len hb
  unfold lack leB
  rw [hlen, decide_eq_true (by omega), Bool.true_and]
  have e : at8 (sl l a b) ((((b - a : Nat) : Int) - 1).toNat) = at8 l (b - 1) := by
    unfold at8 sl
    rw [List.getD_eq_getElem?_getD, List.getD_eq_getElem?_getD, List.getElem?_take, if_pos (by omega), List.getElem?_drop]
    congr 2; omega
  rw [e, hl]; rfl
theorem lack_yes {l : List UInt8} (h : l.length = 0 ∨ le (at8 l (l.length - 1)) = false) : lack l = true := by
  unfold lack leB
  rcases h with h | h
  · rw [h]; rfl
  · rcases Nat.eq_zero_or_pos l.length with h0 | h0
    · rw [h0]; rfl
    · rw [decide_eq_true (by omega), Bool.true_and, show (((l.length : Nat) : Int) - 1).toNat = l.length - 1 from by omega, h]; rfl
/-- how many lines Take tells of -/
def cnt (l : List UInt8) (f t : Nat) : Nat := if f = 0 ∧ t = nl l ∧ 0 < t ∧ (ln l t).length = 0 then t - f else t + 1 - f
theorem lines_out {l : List UInt8} {f t : Nat} (hft : f ≤ t) (ht : t ≤ nl l) : ∃ (F T : Nat) (D : Bool), whY l (sp l f) (en l (sp l t)) = ⟨F, T, true, D, 0⟩ ∧ F ≤ T ∧ T ≤ l.length ∧ rgB l F T true D = true ∧ tk l F T true D = cat l f (cnt l f t) ∧ l.take F ++ l.drop T = RR l f t (nl l + 1) := by
  have hs := sp_le (t := l) (n := f) (by omega)
  have hs2 := sp_le ht
  have hm := sp_mono hft ht
  have he := en_le hs2
  have heg := en_ge l (sp l t)
  unfold whY
  rcases Nat.lt_or_ge t (nl l) with htn | htn
  · obtain ⟨h1, h2⟩ := sp_next (l := l) (i := t) htn
    rw [if_pos h1]
    refine ⟨sp l f, en l (sp l t) + 1, false, rfl, by omega, by omega, rgB_mk (by omega) (by omega) (by omega) (.inl rfl), ?_, ?_⟩
    · have hc : cnt l f t = t + 1 - f := if_neg (fun h => by omega)
      rw [hc, cat_in (t + 1 - f) (by omega), show f + (t + 1 - f) = t + 1 from by omega, h2]
      have hlk : lack (sl l (sp l f) (en l (sp l t) + 1)) = false := lack_no (by omega) (by omega) (by simpa using en_edge h1)
      unfold tk
      rw [show (true && false) = false from rfl, tkb_f, hlk]; rfl
    · unfold RR
      rw [if_neg (by omega), if_neg (by omega), Nat.add_sub_cancel, en_last, sl_end, h2]
  · obtain rfl : t = nl l := by omega
    rw [en_last] at he heg ⊢
    rw [if_neg (by omega)]
    have hR : RR l f (nl l) (nl l + 1) = jl l f := by unfold RR; rw [if_neg (by omega), if_pos (Nat.le_refl _)]
    rw [hR]
    rcases Nat.eq_zero_or_pos f with hf | hf
    · subst hf
      rw [sp_zero, if_neg (by omega)]
      refine ⟨0, l.length, false, rfl, Nat.zero_le _, Nat.le_refl _, rgB_mk (by omega) (by omega) (by omega) (.inl rfl), ?_, by simp [jl]⟩
      have htk : tk l 0 l.length true false = if lack l = true then l ++ [10] else l := by
        unfold tk
        rw [show (true && false) = false from rfl, tkb_f, sl_end, List.drop_zero]; simp
      rw [htk]
      have hll : (ln l (nl l)).length = l.length - sp l (nl l) := by rw [ln_sl, en_last, sl_len (Nat.le_refl _)]
      have hst := sp_st (t := l) (n := nl l) (Nat.le_refl _)
      by_cases hx : 0 < nl l ∧ (ln l (nl l)).length = 0
      · have hc : cnt l 0 (nl l) = nl l := if_pos ⟨rfl, rfl, hx.1, hx.2⟩
        have hspn : sp l (nl l) = l.length := by have := hx.2; omega
        have hpos : 0 < sp l (nl l) := by
          rcases Nat.eq_zero_or_pos (sp l (nl l)) with h | h
          · have h5 := hst.num; rw [h] at h5; have h6 : nl (l.take 0) = 0 := rfl; omega
          · exact h
        have hle : le (at8 l (l.length - 1)) = true := by
          rcases hst.edge with h | ⟨_, h⟩
          · omega
          · rwa [hspn] at h
        have hlk : lack l = false := by
          have := lack_no (l := l) (a := 0) (b := l.length) (by omega) (Nat.le_refl _) hle
          rwa [sl_end, List.drop_zero] at this
        rw [hlk, hc, cat_in (nl l) (by omega), Nat.zero_add, hspn, sp_zero, sl_end]; rfl
      · have hc : cnt l 0 (nl l) = nl l + 1 - 0 := if_neg (fun h => hx ⟨h.2.2.1, h.2.2.2⟩)
        have hlk : lack l = true := by
          apply lack_yes
          rcases Nat.eq_zero_or_pos l.length with h0 | h0
          · exact .inl h0
          · right
            have hge : sp l (nl l) ≤ l.length - 1 := by
              rcases Nat.eq_zero_or_pos (nl l) with h1 | h1
              · have : sp l (nl l) = 0 := by rw [h1]; exact sp_zero l
                omega
              · have : ¬ (ln l (nl l)).length = 0 := fun h => hx ⟨h1, h⟩
                omega
            exact en_none hge (by rw [en_last]; omega)
        rw [hlk, hc, cat_last (Nat.zero_le _), sp_zero]; rfl
    · have hst := sp_st (t := l) (n := f) (by omega)
      have hpos : 0 < sp l f := by
        rcases Nat.eq_zero_or_pos (sp l f) with h | h
        · have h5 := hst.num; rw [h] at h5; have h6 : nl (l.take 0) = 0 := rfl; omega
        · exact h
      have hle : le (at8 l (sp l f - 1)) = true := by
        rcases hst.edge with h | ⟨_, h⟩
        · omega
        · exact h
      rw [if_pos hpos]
      refine ⟨sp l f - 1, l.length, true, by rw [show ((sp l f - 1 : Nat) : Int) = (sp l f : Int) - 1 from by omega], by omega, Nat.le_refl _, rgB_mk (by omega) (by omega) (by omega) (.inr ?_), ?_, ?_⟩
      · unfold leB
        rw [decide_eq_true (by omega), Int.toNat_natCast, hle]; rfl
      · have hc : cnt l f (nl l) = nl l + 1 - f := if_neg (fun h => by omega)
        rw [hc, cat_last (by omega)]
        unfold tk
        rw [show (true && true) = true from rfl, tkb_t, show sp l f - 1 + 1 = sp l f from by omega, sl_end]; rfl
      · rw [List.drop_length, List.append_nil]
        obtain ⟨k, rfl⟩ : ∃ k, f = k + 1 := ⟨f - 1, by omega⟩
        obtain ⟨q1, q2⟩ := sp_next (l := l) (i := k) (by omega)
        show _ = l.take (en l (sp l k))
        rw [q2, Nat.add_sub_cancel]

end Go.Proofs.YtppefcnopkmhbaaGreatDoor

namespace Go.Proofs.YtppefcnopkmhbaaGreatDoor
open Go.RowKit

set_option maxRecDepth 8000
set_option maxHeartbeats 4000000 in
theorem take_ff_none (w : World) :
    Calls Tryz.prog 100 #[.slice none 0 0, .agg #[.int .i64 0, .int .i64 0, .bool false, .bool false]] w fun e w' => ∃ v, e = tr true false v 0 ∧ w'.ownsRow w.heap.size 5 1 v (tk [] 0 0 false false).length (bv (tk [] 0 0 false false)) ∧ Below w.heap.size w w' := by
  obtain ⟨i5, hi5, hz5, hs5, hb5⟩ := info_parts info5
  have HT := Hid.mk' (tx_nil w)
  obtain ⟨B, hB0⟩ : ∃ B : List UInt8, B = [] := ⟨_, rfl⟩
  have HTK : Hid (tk [] 0 0 false false = B) := by unfold Hid; rw [hB0]; rfl
  have HBL : Hid (B.length = 0) := by unfold Hid; rw [hB0]; rfl
  have HB0 := Hid.mk' hB0
  clear hB0
  have SR : Hid (Srv (((w.alloc (.cells #[.int .i64 (0), .int .i64 (0), .bool false, .bool false] 28)).alloc (.cells #[.bool false, .bool false, .slice none 0 0] 33)).drew) (.slice none 0 0) 0 (bv B)) := by unfold Hid; rw [HB0.out]; exact .inl ⟨rfl, rfl, rfl⟩
  have CL := Hid.mk' (isLE_any none 0 0 0 [] _ (HT.out.keep (bAlloc (bAlloc (Below.refl _ w) (.cells #[.int .i64 (0), .int .i64 (0), .bool false, .bool false] 28)) (.cells #[.bool false, .bool false, .slice none 0 0] 33))))
  go_enter Tryz.func100, Tryz.ntmps100
  go_wp2_with (go_at_call 129; refine CL.out.mono ?_; rintro e w' ⟨rfl, hw⟩; have hq := hw.symm; subst hq; clear hw)
  go_region
  all_goals go_wp2_with (at_builtin; refine append_srv rfl (.const (.slice none 0 0)) (.tmp 57) 22 rfl (w.heap.size + 2) 5 i5 (.int .u8 0) 1 1 Tryz.underlying22 hi5 hz5 hs5 hb5 rfl (by decide) (.slice none 0 0) 0 [] rfl (World.ownsRow_nil _ _ _ _) (.slice none 0 0) 0 (bv B) rfl SR.out ?q1 (bv_one _) ?q2 ?q3 ?q4 ?_)
  case q1 => rw [bv_length, HBL.out, Nat.mul_one]
  case q2 => unfold maxLen; omega
  case q3 => omega
  case q4 => simp
  intro v1 w2 hown1 hgrow1 _
  have HW1 : Hid (w2.ownsRow (w.heap.size + 2) 5 1 v1 0 (bv B)) := by unfold Hid; simpa using hown1
  have L0 : Hid (Below (w.heap.size + 2) ((w.alloc (.cells #[.int .i64 (0), .int .i64 (0), .bool false, .bool false] 28)).alloc (.cells #[.bool false, .bool false, .slice none 0 0] 33)) w2) := (Below.refl _ _).drew.grown hgrow1 (by simp) (fun k hk => by simp [Value.ownBlock] at hk)
  have L1 : Hid (Below w.heap.size w w2) := (bAlloc (bAlloc (Below.refl _ w) (.cells #[.int .i64 (0), .int .i64 (0), .bool false, .bool false] 28)) (.cells #[.bool false, .bool false, .slice none 0 0] 33)).trans (L0.out.mono (by omega))
  obtain ⟨ax, cx, ev1⟩ := own_shape HW1.out
  subst ev1
  obtain ⟨k0, k1, k2, k3, z0, z1, z2, y0, y1, y2, hz⟩ := tk_cells L0.out
  clear hown1 hgrow1
  go_wp2
  exact bodyPost_ret (v := .tuple #[.agg #[.bool true, .bool false, .slice ax 0 cx], .int .i64 0]) (by simp [results, Tryz.results100, go_sem, z0, z1, z2]) rfl ⟨_, rfl, by rw [HTK.out]; have h := own_set3 (b := w.heap.size) HW1.out (x := .bool true) (y := .bool false) (z := .slice ax 0 cx); rw [HBL.out]; exact h, bset3' L1.out _ _ _⟩

end Go.Proofs.YtppefcnopkmhbaaGreatDoor

namespace Go.Proofs.YtppefcnopkmhbaaGreatDoor
open Go.RowKit

set_option maxRecDepth 8000
set_option maxHeartbeats 4000000 in
theorem take_ff_end (n : Nat) (l : List UInt8) (w : World) (a : Addr) (hbig : n ≤ 140737488351232) (HT : Hid (Tx w (some a) n n l)) :
    Calls Tryz.prog 100 #[.slice (some a) n n, .agg #[.int .i64 (n : Int), .int .i64 (n : Int), .bool false, .bool false]] w fun e w' => ∃ v, e = tr true false v 0 ∧ w'.ownsRow w.heap.size 5 1 v (tk l n n false false).length (bv (tk l n n false false)) ∧ Below w.heap.size w w' := by
  obtain ⟨i5, hi5, hz5, hs5, hb5⟩ := info_parts info5
  have hbn : (n : Int) ≤ 140737488351232 := by omega
  obtain ⟨B, hB⟩ : ∃ B, tkb l n n false = B := ⟨_, rfl⟩
  have HTK : Hid (tk l n n false false = B) := by unfold Hid tk; rw [← hB]; rfl
  have hB0 : B = [] := by rw [← hB]; unfold tkb; rw [show n - (n + false.toNat) = 0 from by simp]; rfl
  have HBL : Hid (B.length = 0) := by unfold Hid; rw [hB0]; rfl
  have HB0 := Hid.mk' hB0
  clear hB0
  clear hB
  have SR : Hid (Srv (((w.alloc (.cells #[.int .i64 ((n : Int)), .int .i64 ((n : Int)), .bool false, .bool false] 28)).alloc (.cells #[.bool false, .bool false, .slice none 0 0] 33)).drew) (.slice (some a) 0 0) 0 (bv B)) := by unfold Hid; rw [HB0.out]; exact .inr ⟨a, 0, rfl, fun j u hj => by simp [bv] at hj⟩
  have CL := Hid.mk' (isLE_any (some a) n n (n : Int) l _ (HT.out.keep (bAlloc (bAlloc (Below.refl _ w) (.cells #[.int .i64 ((n : Int)), .int .i64 ((n : Int)), .bool false, .bool false] 28)) (.cells #[.bool false, .bool false, .slice none 0 0] 33))))
  go_enter Tryz.func100, Tryz.ntmps100
  go_wp2_with (go_at_call 129; refine CL.out.mono ?_; rintro e w' ⟨rfl, hw⟩; have hq := hw.symm; subst hq; clear hw)
  go_region
  all_goals go_wp2_with (at_builtin; refine append_srv rfl (.const (.slice none 0 0)) (.tmp 57) 22 rfl (w.heap.size + 2) 5 i5 (.int .u8 0) 1 1 Tryz.underlying22 hi5 hz5 hs5 hb5 rfl (by decide) (.slice none 0 0) 0 [] rfl (World.ownsRow_nil _ _ _ _) (.slice (some a) 0 0) 0 (bv B) rfl SR.out ?q1 (bv_one _) ?q2 ?q3 ?q4 ?_)
  case q1 => rw [bv_length, HBL.out, Nat.mul_one]
  case q2 => unfold maxLen; omega
  case q3 => omega
  case q4 => simp
  intro v1 w2 hown1 hgrow1 _
  have HW1 : Hid (w2.ownsRow (w.heap.size + 2) 5 1 v1 0 (bv B)) := by unfold Hid; simpa using hown1
  have L0 : Hid (Below (w.heap.size + 2) ((w.alloc (.cells #[.int .i64 ((n : Int)), .int .i64 ((n : Int)), .bool false, .bool false] 28)).alloc (.cells #[.bool false, .bool false, .slice none 0 0] 33)) w2) := (Below.refl _ _).drew.grown hgrow1 (by simp) (fun k hk => by simp [Value.ownBlock] at hk)
  have L1 : Hid (Below w.heap.size w w2) := (bAlloc (bAlloc (Below.refl _ w) (.cells #[.int .i64 ((n : Int)), .int .i64 ((n : Int)), .bool false, .bool false] 28)) (.cells #[.bool false, .bool false, .slice none 0 0] 33)).trans (L0.out.mono (by omega))
  obtain ⟨ax, cx, ev1⟩ := own_shape HW1.out
  subst ev1
  obtain ⟨k0, k1, k2, k3, z0, z1, z2, y0, y1, y2, hz⟩ := tk_cells L0.out
  clear hown1 hgrow1
  go_wp2
  exact bodyPost_ret (v := .tuple #[.agg #[.bool true, .bool false, .slice ax 0 cx], .int .i64 0]) (by simp [results, Tryz.results100, go_sem, z0, z1, z2]) rfl ⟨_, rfl, by rw [HTK.out]; have h := own_set3 (b := w.heap.size) HW1.out (x := .bool true) (y := .bool false) (z := .slice ax 0 cx); rw [HBL.out]; exact h, bset3' L1.out _ _ _⟩

end Go.Proofs.YtppefcnopkmhbaaGreatDoor

namespace Go.Proofs.YtppefcnopkmhbaaGreatDoor
open Go.RowKit

set_option maxRecDepth 8000
set_option maxHeartbeats 4000000 in
theorem take_ff_mid (ao0 : Option Addr) (n c f t : Nat) (l : List UInt8) (w : World) (hft : f ≤ t) (htn : t ≤ n) (hbig : n ≤ 140737488351232) (HT : Hid (Tx w ao0 n c l)) (a : Addr) (hao : ao0 = some a) (hce : ¬ c = f) :
    Calls Tryz.prog 100 #[.slice ao0 n c, .agg #[.int .i64 (f : Int), .int .i64 (t : Int), .bool false, .bool false]] w fun e w' => ∃ v, e = tr true false v 0 ∧ w'.ownsRow w.heap.size 5 1 v (tk l f t false false).length (bv (tk l f t false false)) ∧ Below w.heap.size w w' := by
  obtain ⟨i5, hi5, hz5, hs5, hb5⟩ := info_parts info5
  have hlen := Hid.mk' HT.out.len
  have hcap := HT.out.cap
  have hbn : (n : Int) ≤ 140737488351232 := by omega
  have hft' : (f : Int) ≤ t := by omega
  have htn' : (t : Int) ≤ n := by omega
  obtain ⟨B, hB⟩ : ∃ B, tkb l f t false = B := ⟨_, rfl⟩
  have HTK : Hid (tk l f t false false = B) := by unfold Hid tk; rw [← hB]; rfl
  obtain ⟨m, hm⟩ : ∃ m, t - f = m := ⟨_, rfl⟩
  have hB2 : B = (l.drop f).take m := by
    rw [← hB, ← hm]; rfl
  have hmI : (t : Int) - (f : Int) = (m : Int) := by omega
  have hmn : m ≤ n := by omega
  have HBL : Hid (B.length = m) := by unfold Hid; rw [hB2, List.length_take, List.length_drop, hlen.out]; omega
  subst hao
  have T1 := Hid.mk' ((HT.out.tail (s := f) (by omega)).head (i := m) (by omega))
  rw [← hB2] at T1
  have hcn : m ≤ c - (f) := by omega
  have hmN : t - (f) = m := by omega
  clear hB hB2
  have SR : Hid (Srv (((w.alloc (.cells #[.int .i64 ((f : Int)), .int .i64 ((t : Int)), .bool false, .bool false] 28)).alloc (.cells #[.bool false, .bool false, .slice none 0 0] 33)).drew) (.slice (some (a.add (f))) m (c - (f))) m (bv B)) := (T1.out.keep (bAlloc (bAlloc (Below.refl _ w) (.cells #[.int .i64 ((f : Int)), .int .i64 ((t : Int)), .bool false, .bool false] 28)) (.cells #[.bool false, .bool false, .slice none 0 0] 33)).drew).srv
  have CL := Hid.mk' (isLE_any (some a) n c (f : Int) l _ (HT.out.keep (bAlloc (bAlloc (Below.refl _ w) (.cells #[.int .i64 ((f : Int)), .int .i64 ((t : Int)), .bool false, .bool false] 28)) (.cells #[.bool false, .bool false, .slice none 0 0] 33))))
  go_enter Tryz.func100, Tryz.ntmps100
  go_wp2_with (go_at_call 129; refine CL.out.mono ?_; rintro e w' ⟨rfl, hw⟩; have hq := hw.symm; subst hq; clear hw)
  go_region
  all_goals go_wp2_with (at_builtin; refine append_srv rfl (.const (.slice none 0 0)) (.tmp 57) 22 rfl (w.heap.size + 2) 5 i5 (.int .u8 0) 1 1 Tryz.underlying22 hi5 hz5 hs5 hb5 rfl (by decide) (.slice none 0 0) 0 [] rfl (World.ownsRow_nil _ _ _ _) (.slice (some (a.add (f))) m (c - (f))) m (bv B) rfl SR.out ?q1 (bv_one _) ?q2 ?q3 ?q4 ?_)
  case q1 => rw [bv_length, HBL.out, Nat.mul_one]
  case q2 => unfold maxLen; omega
  case q3 => omega
  case q4 => simp
  intro v1 w2 hown1 hgrow1 _
  have HW1 : Hid (w2.ownsRow (w.heap.size + 2) 5 1 v1 m (bv B)) := by unfold Hid; simpa using hown1
  have L0 : Hid (Below (w.heap.size + 2) ((w.alloc (.cells #[.int .i64 ((f : Int)), .int .i64 ((t : Int)), .bool false, .bool false] 28)).alloc (.cells #[.bool false, .bool false, .slice none 0 0] 33)) w2) := (Below.refl _ _).drew.grown hgrow1 (by simp) (fun k hk => by simp [Value.ownBlock] at hk)
  have L1 : Hid (Below w.heap.size w w2) := (bAlloc (bAlloc (Below.refl _ w) (.cells #[.int .i64 ((f : Int)), .int .i64 ((t : Int)), .bool false, .bool false] 28)) (.cells #[.bool false, .bool false, .slice none 0 0] 33)).trans (L0.out.mono (by omega))
  obtain ⟨ax, cx, ev1⟩ := own_shape HW1.out
  subst ev1
  obtain ⟨k0, k1, k2, k3, z0, z1, z2, y0, y1, y2, hz⟩ := tk_cells L0.out
  clear hown1 hgrow1
  go_wp2
  exact bodyPost_ret (v := .tuple #[.agg #[.bool true, .bool false, .slice ax m cx], .int .i64 0]) (by simp [results, Tryz.results100, go_sem, z0, z1, z2]) rfl ⟨_, rfl, by rw [HTK.out]; have h := own_set3 (b := w.heap.size) HW1.out (x := .bool true) (y := .bool false) (z := .slice ax m cx); rw [HBL.out]; exact h, bset3' L1.out _ _ _⟩

end Go.Proofs.YtppefcnopkmhbaaGreatDoor

namespace Go.Proofs.YtppefcnopkmhbaaGreatDoor
open Go.RowKit

set_option maxRecDepth 8000
set_option maxHeartbeats 4000000 in
theorem take_ft_none (w : World) :
    Calls Tryz.prog 100 #[.slice none 0 0, .agg #[.int .i64 0, .int .i64 0, .bool false, .bool true]] w fun e w' => ∃ v, e = tr true false v 0 ∧ w'.ownsRow w.heap.size 5 1 v (tk [] 0 0 false true).length (bv (tk [] 0 0 false true)) ∧ Below w.heap.size w w' := by
  obtain ⟨i5, hi5, hz5, hs5, hb5⟩ := info_parts info5
  have HT := Hid.mk' (tx_nil w)
  obtain ⟨B, hB0⟩ : ∃ B : List UInt8, B = [] := ⟨_, rfl⟩
  have HTK : Hid (tk [] 0 0 false true = B) := by unfold Hid; rw [hB0]; rfl
  have HBL : Hid (B.length = 0) := by unfold Hid; rw [hB0]; rfl
  have HB0 := Hid.mk' hB0
  clear hB0
  have SR : Hid (Srv (((w.alloc (.cells #[.int .i64 (0), .int .i64 (0), .bool false, .bool true] 28)).alloc (.cells #[.bool false, .bool false, .slice none 0 0] 33)).drew) (.slice none 0 0) 0 (bv B)) := by unfold Hid; rw [HB0.out]; exact .inl ⟨rfl, rfl, rfl⟩
  have CL := Hid.mk' (isLE_any none 0 0 0 [] _ (HT.out.keep (bAlloc (bAlloc (Below.refl _ w) (.cells #[.int .i64 (0), .int .i64 (0), .bool false, .bool true] 28)) (.cells #[.bool false, .bool false, .slice none 0 0] 33))))
  go_enter Tryz.func100, Tryz.ntmps100
  go_wp2_with (go_at_call 129; refine CL.out.mono ?_; rintro e w' ⟨rfl, hw⟩; have hq := hw.symm; subst hq; clear hw)
  go_region
  all_goals go_wp2_with (at_builtin; refine append_srv rfl (.const (.slice none 0 0)) (.tmp 57) 22 rfl (w.heap.size + 2) 5 i5 (.int .u8 0) 1 1 Tryz.underlying22 hi5 hz5 hs5 hb5 rfl (by decide) (.slice none 0 0) 0 [] rfl (World.ownsRow_nil _ _ _ _) (.slice none 0 0) 0 (bv B) rfl SR.out ?q1 (bv_one _) ?q2 ?q3 ?q4 ?_)
  case q1 => rw [bv_length, HBL.out, Nat.mul_one]
  case q2 => unfold maxLen; omega
  case q3 => omega
  case q4 => simp
  intro v1 w2 hown1 hgrow1 _
  have HW1 : Hid (w2.ownsRow (w.heap.size + 2) 5 1 v1 0 (bv B)) := by unfold Hid; simpa using hown1
  have L0 : Hid (Below (w.heap.size + 2) ((w.alloc (.cells #[.int .i64 (0), .int .i64 (0), .bool false, .bool true] 28)).alloc (.cells #[.bool false, .bool false, .slice none 0 0] 33)) w2) := (Below.refl _ _).drew.grown hgrow1 (by simp) (fun k hk => by simp [Value.ownBlock] at hk)
  have L1 : Hid (Below w.heap.size w w2) := (bAlloc (bAlloc (Below.refl _ w) (.cells #[.int .i64 (0), .int .i64 (0), .bool false, .bool true] 28)) (.cells #[.bool false, .bool false, .slice none 0 0] 33)).trans (L0.out.mono (by omega))
  obtain ⟨ax, cx, ev1⟩ := own_shape HW1.out
  subst ev1
  obtain ⟨k0, k1, k2, k3, z0, z1, z2, y0, y1, y2, hz⟩ := tk_cells L0.out
  clear hown1 hgrow1
  go_wp2
  exact bodyPost_ret (v := .tuple #[.agg #[.bool true, .bool false, .slice ax 0 cx], .int .i64 0]) (by simp [results, Tryz.results100, go_sem, z0, z1, z2]) rfl ⟨_, rfl, by rw [HTK.out]; have h := own_set3 (b := w.heap.size) HW1.out (x := .bool true) (y := .bool false) (z := .slice ax 0 cx); rw [HBL.out]; exact h, bset3' L1.out _ _ _⟩

end Go.Proofs.YtppefcnopkmhbaaGreatDoor

namespace Go.Proofs.YtppefcnopkmhbaaGreatDoor
open Go.RowKit

set_option maxRecDepth 8000
set_option maxHeartbeats 4000000 in
theorem take_ft_end (n : Nat) (l : List UInt8) (w : World) (a : Addr) (hbig : n ≤ 140737488351232) (HT : Hid (Tx w (some a) n n l)) :
    Calls Tryz.prog 100 #[.slice (some a) n n, .agg #[.int .i64 (n : Int), .int .i64 (n : Int), .bool false, .bool true]] w fun e w' => ∃ v, e = tr true false v 0 ∧ w'.ownsRow w.heap.size 5 1 v (tk l n n false true).length (bv (tk l n n false true)) ∧ Below w.heap.size w w' := by
  obtain ⟨i5, hi5, hz5, hs5, hb5⟩ := info_parts info5
  have hbn : (n : Int) ≤ 140737488351232 := by omega
  obtain ⟨B, hB⟩ : ∃ B, tkb l n n false = B := ⟨_, rfl⟩
  have HTK : Hid (tk l n n false true = B) := by unfold Hid tk; rw [← hB]; rfl
  have hB0 : B = [] := by rw [← hB]; unfold tkb; rw [show n - (n + false.toNat) = 0 from by simp]; rfl
  have HBL : Hid (B.length = 0) := by unfold Hid; rw [hB0]; rfl
  have HB0 := Hid.mk' hB0
  clear hB0
  clear hB
  have SR : Hid (Srv (((w.alloc (.cells #[.int .i64 ((n : Int)), .int .i64 ((n : Int)), .bool false, .bool true] 28)).alloc (.cells #[.bool false, .bool false, .slice none 0 0] 33)).drew) (.slice (some a) 0 0) 0 (bv B)) := by unfold Hid; rw [HB0.out]; exact .inr ⟨a, 0, rfl, fun j u hj => by simp [bv] at hj⟩
  have CL := Hid.mk' (isLE_any (some a) n n (n : Int) l _ (HT.out.keep (bAlloc (bAlloc (Below.refl _ w) (.cells #[.int .i64 ((n : Int)), .int .i64 ((n : Int)), .bool false, .bool true] 28)) (.cells #[.bool false, .bool false, .slice none 0 0] 33))))
  go_enter Tryz.func100, Tryz.ntmps100
  go_wp2_with (go_at_call 129; refine CL.out.mono ?_; rintro e w' ⟨rfl, hw⟩; have hq := hw.symm; subst hq; clear hw)
  go_region
  all_goals go_wp2_with (at_builtin; refine append_srv rfl (.const (.slice none 0 0)) (.tmp 57) 22 rfl (w.heap.size + 2) 5 i5 (.int .u8 0) 1 1 Tryz.underlying22 hi5 hz5 hs5 hb5 rfl (by decide) (.slice none 0 0) 0 [] rfl (World.ownsRow_nil _ _ _ _) (.slice (some a) 0 0) 0 (bv B) rfl SR.out ?q1 (bv_one _) ?q2 ?q3 ?q4 ?_)
  case q1 => rw [bv_length, HBL.out, Nat.mul_one]
  case q2 => unfold maxLen; omega
  case q3 => omega
  case q4 => simp
  intro v1 w2 hown1 hgrow1 _
  have HW1 : Hid (w2.ownsRow (w.heap.size + 2) 5 1 v1 0 (bv B)) := by unfold Hid; simpa using hown1
  have L0 : Hid (Below (w.heap.size + 2) ((w.alloc (.cells #[.int .i64 ((n : Int)), .int .i64 ((n : Int)), .bool false, .bool true] 28)).alloc (.cells #[.bool false, .bool false, .slice none 0 0] 33)) w2) := (Below.refl _ _).drew.grown hgrow1 (by simp) (fun k hk => by simp [Value.ownBlock] at hk)
  have L1 : Hid (Below w.heap.size w w2) := (bAlloc (bAlloc (Below.refl _ w) (.cells #[.int .i64 ((n : Int)), .int .i64 ((n : Int)), .bool false, .bool true] 28)) (.cells #[.bool false, .bool false, .slice none 0 0] 33)).trans (L0.out.mono (by omega))
  obtain ⟨ax, cx, ev1⟩ := own_shape HW1.out
  subst ev1
  obtain ⟨k0, k1, k2, k3, z0, z1, z2, y0, y1, y2, hz⟩ := tk_cells L0.out
  clear hown1 hgrow1
  go_wp2
  exact bodyPost_ret (v := .tuple #[.agg #[.bool true, .bool false, .slice ax 0 cx], .int .i64 0]) (by simp [results, Tryz.results100, go_sem, z0, z1, z2]) rfl ⟨_, rfl, by rw [HTK.out]; have h := own_set3 (b := w.heap.size) HW1.out (x := .bool true) (y := .bool false) (z := .slice ax 0 cx); rw [HBL.out]; exact h, bset3' L1.out _ _ _⟩

end Go.Proofs.YtppefcnopkmhbaaGreatDoor

namespace Go.Proofs.YtppefcnopkmhbaaGreatDoor
open Go.RowKit

set_option maxRecDepth 8000
set_option maxHeartbeats 4000000 in
theorem take_ft_mid (ao0 : Option Addr) (n c f t : Nat) (l : List UInt8) (w : World) (hft : f ≤ t) (htn : t ≤ n) (hbig : n ≤ 140737488351232) (HT : Hid (Tx w ao0 n c l)) (a : Addr) (hao : ao0 = some a) (hce : ¬ c = f) :
    Calls Tryz.prog 100 #[.slice ao0 n c, .agg #[.int .i64 (f : Int), .int .i64 (t : Int), .bool false, .bool true]] w fun e w' => ∃ v, e = tr true false v 0 ∧ w'.ownsRow w.heap.size 5 1 v (tk l f t false true).length (bv (tk l f t false true)) ∧ Below w.heap.size w w' := by
  obtain ⟨i5, hi5, hz5, hs5, hb5⟩ := info_parts info5
  have hlen := Hid.mk' HT.out.len
  have hcap := HT.out.cap
  have hbn : (n : Int) ≤ 140737488351232 := by omega
  have hft' : (f : Int) ≤ t := by omega
  have htn' : (t : Int) ≤ n := by omega
  obtain ⟨B, hB⟩ : ∃ B, tkb l f t false = B := ⟨_, rfl⟩
  have HTK : Hid (tk l f t false true = B) := by unfold Hid tk; rw [← hB]; rfl
  obtain ⟨m, hm⟩ : ∃ m, t - f = m := ⟨_, rfl⟩
  have hB2 : B = (l.drop f).take m := by
    rw [← hB, ← hm]; rfl
  have hmI : (t : Int) - (f : Int) = (m : Int) := by omega
  have hmn : m ≤ n := by omega
  have HBL : Hid (B.length = m) := by unfold Hid; rw [hB2, List.length_take, List.length_drop, hlen.out]; omega
  subst hao
  have T1 := Hid.mk' ((HT.out.tail (s := f) (by omega)).head (i := m) (by omega))
  rw [← hB2] at T1
  have hcn : m ≤ c - (f) := by omega
  have hmN : t - (f) = m := by omega
  clear hB hB2
  have SR : Hid (Srv (((w.alloc (.cells #[.int .i64 ((f : Int)), .int .i64 ((t : Int)), .bool false, .bool true] 28)).alloc (.cells #[.bool false, .bool false, .slice none 0 0] 33)).drew) (.slice (some (a.add (f))) m (c - (f))) m (bv B)) := (T1.out.keep (bAlloc (bAlloc (Below.refl _ w) (.cells #[.int .i64 ((f : Int)), .int .i64 ((t : Int)), .bool false, .bool true] 28)) (.cells #[.bool false, .bool false, .slice none 0 0] 33)).drew).srv
  have CL := Hid.mk' (isLE_any (some a) n c (f : Int) l _ (HT.out.keep (bAlloc (bAlloc (Below.refl _ w) (.cells #[.int .i64 ((f : Int)), .int .i64 ((t : Int)), .bool false, .bool true] 28)) (.cells #[.bool false, .bool false, .slice none 0 0] 33))))
  go_enter Tryz.func100, Tryz.ntmps100
  go_wp2_with (go_at_call 129; refine CL.out.mono ?_; rintro e w' ⟨rfl, hw⟩; have hq := hw.symm; subst hq; clear hw)
  go_region
  all_goals go_wp2_with (at_builtin; refine append_srv rfl (.const (.slice none 0 0)) (.tmp 57) 22 rfl (w.heap.size + 2) 5 i5 (.int .u8 0) 1 1 Tryz.underlying22 hi5 hz5 hs5 hb5 rfl (by decide) (.slice none 0 0) 0 [] rfl (World.ownsRow_nil _ _ _ _) (.slice (some (a.add (f))) m (c - (f))) m (bv B) rfl SR.out ?q1 (bv_one _) ?q2 ?q3 ?q4 ?_)
  case q1 => rw [bv_length, HBL.out, Nat.mul_one]
  case q2 => unfold maxLen; omega
  case q3 => omega
  case q4 => simp
  intro v1 w2 hown1 hgrow1 _
  have HW1 : Hid (w2.ownsRow (w.heap.size + 2) 5 1 v1 m (bv B)) := by unfold Hid; simpa using hown1
  have L0 : Hid (Below (w.heap.size + 2) ((w.alloc (.cells #[.int .i64 ((f : Int)), .int .i64 ((t : Int)), .bool false, .bool true] 28)).alloc (.cells #[.bool false, .bool false, .slice none 0 0] 33)) w2) := (Below.refl _ _).drew.grown hgrow1 (by simp) (fun k hk => by simp [Value.ownBlock] at hk)
  have L1 : Hid (Below w.heap.size w w2) := (bAlloc (bAlloc (Below.refl _ w) (.cells #[.int .i64 ((f : Int)), .int .i64 ((t : Int)), .bool false, .bool true] 28)) (.cells #[.bool false, .bool false, .slice none 0 0] 33)).trans (L0.out.mono (by omega))
  obtain ⟨ax, cx, ev1⟩ := own_shape HW1.out
  subst ev1
  obtain ⟨k0, k1, k2, k3, z0, z1, z2, y0, y1, y2, hz⟩ := tk_cells L0.out
  clear hown1 hgrow1
  go_wp2
  exact bodyPost_ret (v := .tuple #[.agg #[.bool true, .bool false, .slice ax m cx], .int .i64 0]) (by simp [results, Tryz.results100, go_sem, z0, z1, z2]) rfl ⟨_, rfl, by rw [HTK.out]; have h := own_set3 (b := w.heap.size) HW1.out (x := .bool true) (y := .bool false) (z := .slice ax m cx); rw [HBL.out]; exact h, bset3' L1.out _ _ _⟩

end Go.Proofs.YtppefcnopkmhbaaGreatDoor
