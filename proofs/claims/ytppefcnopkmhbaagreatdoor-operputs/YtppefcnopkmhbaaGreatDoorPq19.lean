/- Ptl, Opr, Dox -/
import Derived.Test.YtppefcnopkmhbaaGreatDoorPq16
import Derived.Test.YtppefcnopkmhbaaGreatDoorPq18
import Derived.MapKept
namespace Go.Proofs.YtppefcnopkmhbaaGreatDoor
open Go.RowKit

set_option maxRecDepth 8000
/-- the line that putLines puts ahead of -/
def plI (l : List UInt8) (k : Nat) (ah : Bool) : Nat := if ah = true then nl (l.take k) else nl (l.take k) + 1
def plP (l : List UInt8) (i : Nat) : Nat := if i ≤ nl l then sp l i else l.length
def plY (l : List UInt8) (i : Nat) (X : List UInt8) : List UInt8 := if i ≤ nl l then X else 10 :: X.take (X.length - 1)
/-- what putLines answers -/
def plX (l : List UInt8) (i : Nat) (X : List UInt8) : Ef := ⟨sw l (plP l i) (plP l i) (plY l i X), fbh l (sw l (plP l i) (plP l i) (plY l i X)) i, false, false, [], 0, false⟩
theorem ten_own (W : World) : (W.alloc (.cells #[.int .u8 10] 5)).ownsRow W.heap.size 5 1 (.slice (some ⟨W.heap.size, 0, none⟩) 1 1) 1 (bv [10]) :=
  ⟨rfl, .inr ⟨W.heap.size, 1, _, rfl, Nat.le_refl _, Blk.new W 5 _, Nat.le_refl _, by unfold maxLen; omega, rfl, rfl⟩⟩
theorem start_call {ao : Option Addr} {n c i : Nat} {l : List UInt8} {W : World} (HT : Tx W ao n c l) (hn : n ≤ 1048576) (hi : i ≤ n + 1) :
    Calls Tryz.prog 82 #[.slice ao n c, .int .i64 (i : Int)] W fun e w' => e = .returned (.tuple #[.int .i64 (if i ≤ nl l then (sp l i : Int) else 0), .int .i64 (if i ≤ nl l then 0 else 2)]) ∧ w' = W := by
  have h := start_any ao n c (i : Int) l W (by omega) HT
  have e : pr (aStart l (i : Int)) = .returned (.tuple #[.int .i64 (if i ≤ nl l then (sp l i : Int) else 0), .int .i64 (if i ≤ nl l then 0 else 2)]) := by
    by_cases h : i ≤ nl l
    · rw [if_pos h, if_pos h]
      unfold pr aStart ans
      rw [ln_at h]
      rfl
    · rw [if_neg h, if_neg h]
      refine pr_startN ?_
      unfold lnB
      exact decide_eq_false (by omega)
  rw [e] at h
  exact h
set_option maxHeartbeats 8000000 in
set_option linter.unusedSimpArgs false in
theorem putLines_any (w0 : World) (ao : Option Addr) (n c k : Nat) (l : List UInt8) (xp : Option Addr) (xn xc : Nat) (X : List UInt8) (ah : Bool) (w : World) (HT : Hid (Tx w ao n c l)) (hk : k ≤ n) (hbig : n ≤ 1048576) (hB0 : Hid (Below w0.heap.size w0 w)) (HX : Hid (Wb w w0.heap.size w.heap.size (.slice xp xn xc) X)) (hX : X.length ≤ 1048576) (hX1 : 1 ≤ X.length) :
    Calls Tryz.prog 49 #[.slice ao n c, .int .i64 (k : Int), .slice xp xn xc, .bool ah] w fun e w' => EaP (plX l (plI l k ah) X) w0 e w' := by
  have hln := HT.out.len
  have hXl : xn = X.length := by obtain ⟨_, _, e⟩ := HX.out.shape; simp at e; exact e.2.1
  obtain ⟨x, hx⟩ : ∃ x, plX l (plI l k ah) X = x := ⟨_, rfl⟩
  rw [hx]
  have HPX := Hid.mk' hx
  clear hx
  obtain ⟨W1, hW1⟩ : ∃ x, w.alloc (.cells #[.slice none 0 0, .int .i64 0, .bool false, .bool false, .slice none 0 0, .int .i64 0, .bool false] 35) = x := ⟨_, rfl⟩
  obtain ⟨B, hB⟩ : ∃ b, w.heap.size = b := ⟨_, rfl⟩
  have HB := Hid.mk' hB
  have J1 : Hid (Blk W1 B 35 (ef7 (.slice none 0 0) 0 false false (.slice none 0 0) 0 false)) := by unfold Hid; rw [← hW1, ← hB]; exact Blk.new w 35 _
  have hb1 : Below w.heap.size w W1 := by rw [← hW1]; exact bAlloc (Below.refl _ _) _
  have B1 := Hid.mk' (bT hB0.out hb1)
  have HT1 := Hid.mk' (HT.out.keep hb1)
  have HX1 := Hid.mk' ((HX.out.keep hb1).wide (Nat.le_refl _) hb1.size)
  have HB0 := Hid.mk' hB0.out.size
  have hnk := nl_take_le l k
  have hnl := nl_le l
  have CO := Hid.mk' (lof_at' (ao := ao) (c := c) hk HT1.out)
  have CST : Hid (∀ (W : World) (i : Nat), i ≤ n + 1 → Below W1.heap.size W1 W → Calls Tryz.prog 82 #[.slice ao n c, .int .i64 (i : Int)] W fun e w' => e = .returned (.tuple #[.int .i64 (if i ≤ nl l then (sp l i : Int) else 0), .int .i64 (if i ≤ nl l then 0 else 2)]) ∧ w' = W) := fun W i hi hW => start_call (HT1.out.keep hW) hbig hi
  have CS : Hid (∀ (W : World) (p : Nat) (yp : Option Addr) (yn yc : Nat) (Y : List UInt8), p ≤ n → Y.length ≤ 1048577 → Below W1.heap.size W1 W → Wb W w0.heap.size W.heap.size (.slice yp yn yc) Y → Calls Tryz.prog 83 #[.slice ao n c, .int .i64 (p : Int), .int .i64 (p : Int), .slice yp yn yc] W fun e w' => EsP (sw l p p Y) w0 e w' ∧ Below W.heap.size W w') := fun W p yp yn yc Y hp hY hW h => swap_two w0 ao n c p p l yp yn yc Y W (HT1.out.keep hW) (Nat.le_refl _) hp (by omega) (bT B1.out hW) h (by omega)
  have CF : Hid (∀ (W : World) (eo : Option Addr) (ec i en : Nat) (E : List Er) (DD : List Ed), i ≤ n + 1 → E.length = en → en ≤ 1 → Below W1.heap.size W1 W → Edz W eo E → E.map Er.d = DD → nsum DD ≤ 1048577 → Calls Tryz.prog 84 #[.slice ao n c, .slice eo en ec, .int .i64 (i : Int)] W fun e w' => e = .returned (.int .i64 (fbh l DD i)) ∧ Below W.heap.size W w') := fun W eo ec i en E DD hi hen he1 hW hE hD hs => fbh_call (HT1.out.keep hW) hbig hi hen (by omega) hE hD (by omega)
  have HXT := Hid.mk' (HX1.out.tx (by omega))
  have HXL := Hid.mk' hXl
  rw [← hXl] at hX hX1
  clear hb1 HT HX hB0 hXl
  obtain ⟨i0, hi0⟩ : ∃ i0, nl (l.take k) = i0 := ⟨_, rfl⟩
  rw [hi0] at CO hnk
  have HI0 := Hid.mk' hi0
  clear hi0
  have hwi : IntKind.i64.wrap ((i0 : Int) + 1) = (i0 : Int) + 1 := by rw [IntKind.wrap_i64]; omega
  cases ah with
  | true =>
    have hin : i0 ≤ nl l := hnk
    have CST9 : Hid (∀ (W : World), Below W1.heap.size W1 W → Calls Tryz.prog 82 #[.slice ao n c, .int .i64 ((i0 : Int))] W fun e w' => e = .returned (.tuple #[.int .i64 ((sp l (i0) : Int)), .int .i64 0]) ∧ w' = W) := fun W hW => by
      have h := CST.out W (i0) (by omega) hW
      rw [if_pos hin, if_pos hin] at h
      exact h
    clear CST
    obtain ⟨p, hp⟩ : ∃ p, sp l (i0) = p := ⟨_, rfl⟩
    have hpn : p ≤ n := by have := sp_le (t := l) hin; omega
    rw [hp] at CST9
    have HPP := Hid.mk' hp
    clear hp
    go_enter Tryz.func49, Tryz.ntmps49
    go_upto_region 1 with fail
    clear hW1 hB
    go_upto_region 8 with (first | (go_at_call 77; refine CO.out.mono ?_; rintro e w2 ⟨rfl, hb2⟩; have J2 := Hid.mk' (J1.out.keep hb2); have B2 := Hid.mk' hb2; clear hb2 J1 CO) | (go_at_call 82; refine (CST9.out w2 B2.out).mono ?_; rintro e w' ⟨rfl, hw⟩; have hq := hw.symm; subst hq; clear hw) | fail)
    clear CST9
    have HYL : Hid (X.length ≤ 1048577) := by have := HXL.out; unfold Hid; omega
    have HYW : Hid (Wb w2 w0.heap.size w2.heap.size (.slice xp xn xc) X) := (HX1.out.keep B2.out).wide (Nat.le_refl _) B2.out.size
    clear HX1 HXT
    obtain ⟨D, hD⟩ : ∃ D, sw l p p (X) = D := ⟨_, rfl⟩
    have HDS := Hid.mk' hD
    have hns := nsum_sw l p p (X)
    have hsl := sw_len l p p (X)
    have CX := Hid.mk' (CS.out w2 p xp xn xc (X) hpn HYL.out B2.out HYW.out)
    rw [hD] at CX hns hsl
    clear hD CS
    go_wp2_with fail
    refine CX.out.mono ?_
    rintro e w5 ⟨⟨v, F, rfl, hF, hE, hb5⟩, hk5⟩
    obtain ⟨eo, ec, rfl, hZ, -⟩ := hE.edz
    obtain ⟨en, hen⟩ : ∃ en, F.length = en := ⟨_, rfl⟩
    rw [hen] at hE ⊢
    have hen1 : en ≤ 1 := by rw [← hen, ← List.length_map (f := Er.d), hF]; exact hsl
    have J5 := Hid.mk' (J2.out.keep hk5)
    have HF := Hid.mk' hF
    have E5 := Hid.mk' hE
    have B5 := Hid.mk' hb5
    have K5 := Hid.mk' (bT B2.out hk5)
    have CY := Hid.mk' (CF.out w5 eo ec (i0) en F D (by omega) hen hen1 K5.out hZ hF (by have := HYL.out; omega))
    obtain ⟨cf, hcf⟩ : ∃ cf, fbh l D (i0) = cf := ⟨_, rfl⟩
    rw [hcf] at CY
    have HCF := Hid.mk' hcf
    clear hF hE hb5 hk5 hZ CX CF hcf
    dsimp only
    go_wp2_with fail
    refine CY.out.mono ?_
    rintro e w6 ⟨rfl, hb6⟩
    have J6 := Hid.mk' (J5.out.keep hb6)
    have E6 := Hid.mk' ((E5.out.keep hb6).wide (Nat.le_refl _) hb6.size)
    have B6 := Hid.mk' (B5.out.trans (hb6.mono B5.out.size))
    clear hb6 CY J5
    dsimp only
    obtain ⟨j0, j1, j2, j3, j4, j5, j6⟩ := ef_cells J6.out
    obtain ⟨f0, f1, f2, f3, f4, f5, f6⟩ := ef_frozen J6.out
    have hbk := ef_store J6.out (.slice eo en ec) (.int .i64 cf) (.bool false) (.bool false) (.slice none 0 0) (.int .i64 0) (.bool false)
    have hgr := ef_grown w6 B (.slice eo en ec) (.int .i64 cf) (.bool false) (.bool false) (.slice none 0 0) (.int .i64 0) (.bool false)
    go_wp2_with fail
    generalize (((((((w6.setCell ⟨B, 0, none⟩ (.slice eo en ec)).setCell ⟨B, 1, none⟩ (.int .i64 cf)).setCell ⟨B, 2, none⟩ (.bool false)).setCell ⟨B, 3, none⟩ (.bool false)).setCell ⟨B, 4, none⟩ (.slice none 0 0)).setCell ⟨B, 5, none⟩ (.int .i64 0)).setCell ⟨B, 6, none⟩ (.bool false)) = w9 at *
    obtain ⟨g0, g1, g2, g3, g4, g5, g6⟩ := ef_cells hbk
    refine bodyPost_ret (v := .agg #[.slice eo en ec, .int .i64 cf, .bool false, .bool false, .slice none 0 0, .int .i64 0, .bool false]) (by simp [results, Tryz.results49, go_sem, g0, g1, g2, g3, g4, g5, g6]) rfl ?_
    have hI : plI l k true = i0 := by unfold plI; rw [if_pos rfl, HI0.out]
    have HP2 : (⟨D, cf, false, false, [], 0, false⟩ : Ef) = x := by
      rw [← HPX.out, ← HCF.out, ← HDS.out, hI]
      unfold plX plP plY
      rw [if_pos hin, if_pos hin, HPP.out]
    rw [← HP2]
    exact EaP.out (x := ⟨D, cf, false, false, [], 0, false⟩) HF.out (Efm.bare E6.out) B6.out J6.out (by have := HB.out; have := HB0.out; omega) hgr
  | false =>
    by_cases hin : i0 + 1 ≤ nl l
    · skip
      have CST9 : Hid (∀ (W : World), Below W1.heap.size W1 W → Calls Tryz.prog 82 #[.slice ao n c, .int .i64 ((i0 : Int) + 1)] W fun e w' => e = .returned (.tuple #[.int .i64 ((sp l (i0 + 1) : Int)), .int .i64 0]) ∧ w' = W) := fun W hW => by
        have h := CST.out W (i0 + 1) (by omega) hW
        rw [if_pos hin, if_pos hin] at h
        exact h
      clear CST
      obtain ⟨p, hp⟩ : ∃ p, sp l (i0 + 1) = p := ⟨_, rfl⟩
      have hpn : p ≤ n := by have := sp_le (t := l) hin; omega
      rw [hp] at CST9
      have HPP := Hid.mk' hp
      clear hp
      go_enter Tryz.func49, Tryz.ntmps49
      go_upto_region 1 with fail
      clear hW1 hB
      go_upto_region 8 with (first | (go_at_call 77; refine CO.out.mono ?_; rintro e w2 ⟨rfl, hb2⟩; have J2 := Hid.mk' (J1.out.keep hb2); have B2 := Hid.mk' hb2; clear hb2 J1 CO) | (go_at_call 82; refine (CST9.out w2 B2.out).mono ?_; rintro e w' ⟨rfl, hw⟩; have hq := hw.symm; subst hq; clear hw) | fail)
      clear CST9
      have HYL : Hid (X.length ≤ 1048577) := by have := HXL.out; unfold Hid; omega
      have HYW : Hid (Wb w2 w0.heap.size w2.heap.size (.slice xp xn xc) X) := (HX1.out.keep B2.out).wide (Nat.le_refl _) B2.out.size
      clear HX1 HXT
      obtain ⟨D, hD⟩ : ∃ D, sw l p p (X) = D := ⟨_, rfl⟩
      have HDS := Hid.mk' hD
      have hns := nsum_sw l p p (X)
      have hsl := sw_len l p p (X)
      have CX := Hid.mk' (CS.out w2 p xp xn xc (X) hpn HYL.out B2.out HYW.out)
      rw [hD] at CX hns hsl
      clear hD CS
      go_wp2_with fail
      refine CX.out.mono ?_
      rintro e w5 ⟨⟨v, F, rfl, hF, hE, hb5⟩, hk5⟩
      obtain ⟨eo, ec, rfl, hZ, -⟩ := hE.edz
      obtain ⟨en, hen⟩ : ∃ en, F.length = en := ⟨_, rfl⟩
      rw [hen] at hE ⊢
      have hen1 : en ≤ 1 := by rw [← hen, ← List.length_map (f := Er.d), hF]; exact hsl
      have J5 := Hid.mk' (J2.out.keep hk5)
      have HF := Hid.mk' hF
      have E5 := Hid.mk' hE
      have B5 := Hid.mk' hb5
      have K5 := Hid.mk' (bT B2.out hk5)
      have CY := Hid.mk' (CF.out w5 eo ec (i0 + 1) en F D (by omega) hen hen1 K5.out hZ hF (by have := HYL.out; omega))
      obtain ⟨cf, hcf⟩ : ∃ cf, fbh l D (i0 + 1) = cf := ⟨_, rfl⟩
      rw [hcf] at CY
      have HCF := Hid.mk' hcf
      clear hF hE hb5 hk5 hZ CX CF hcf
      dsimp only
      go_wp2_with fail
      refine CY.out.mono ?_
      rintro e w6 ⟨rfl, hb6⟩
      have J6 := Hid.mk' (J5.out.keep hb6)
      have E6 := Hid.mk' ((E5.out.keep hb6).wide (Nat.le_refl _) hb6.size)
      have B6 := Hid.mk' (B5.out.trans (hb6.mono B5.out.size))
      clear hb6 CY J5
      dsimp only
      obtain ⟨j0, j1, j2, j3, j4, j5, j6⟩ := ef_cells J6.out
      obtain ⟨f0, f1, f2, f3, f4, f5, f6⟩ := ef_frozen J6.out
      have hbk := ef_store J6.out (.slice eo en ec) (.int .i64 cf) (.bool false) (.bool false) (.slice none 0 0) (.int .i64 0) (.bool false)
      have hgr := ef_grown w6 B (.slice eo en ec) (.int .i64 cf) (.bool false) (.bool false) (.slice none 0 0) (.int .i64 0) (.bool false)
      go_wp2_with fail
      generalize (((((((w6.setCell ⟨B, 0, none⟩ (.slice eo en ec)).setCell ⟨B, 1, none⟩ (.int .i64 cf)).setCell ⟨B, 2, none⟩ (.bool false)).setCell ⟨B, 3, none⟩ (.bool false)).setCell ⟨B, 4, none⟩ (.slice none 0 0)).setCell ⟨B, 5, none⟩ (.int .i64 0)).setCell ⟨B, 6, none⟩ (.bool false)) = w9 at *
      obtain ⟨g0, g1, g2, g3, g4, g5, g6⟩ := ef_cells hbk
      refine bodyPost_ret (v := .agg #[.slice eo en ec, .int .i64 cf, .bool false, .bool false, .slice none 0 0, .int .i64 0, .bool false]) (by simp [results, Tryz.results49, go_sem, g0, g1, g2, g3, g4, g5, g6]) rfl ?_
      have hI : plI l k false = i0 + 1 := by unfold plI; rw [if_neg (by decide), HI0.out]
      have HP2 : (⟨D, cf, false, false, [], 0, false⟩ : Ef) = x := by
        rw [← HPX.out, ← HCF.out, ← HDS.out, hI]
        unfold plX plP plY
        rw [if_pos hin, if_pos hin, HPP.out]
      rw [← HP2]
      exact EaP.out (x := ⟨D, cf, false, false, [], 0, false⟩) HF.out (Efm.bare E6.out) B6.out J6.out (by have := HB.out; have := HB0.out; omega) hgr
    · skip
      have CST9 : Hid (∀ (W : World), Below W1.heap.size W1 W → Calls Tryz.prog 82 #[.slice ao n c, .int .i64 ((i0 : Int) + 1)] W fun e w' => e = .returned (.tuple #[.int .i64 (0), .int .i64 2]) ∧ w' = W) := fun W hW => by
        have h := CST.out W (i0 + 1) (by omega) hW
        rw [if_neg hin, if_neg hin] at h
        exact h
      clear CST
      go_enter Tryz.func49, Tryz.ntmps49
      go_upto_region 1 with fail
      clear hW1 hB
      go_upto_region 7 with (first | (go_at_call 77; refine CO.out.mono ?_; rintro e w2 ⟨rfl, hb2⟩; have J2 := Hid.mk' (J1.out.keep hb2); have B2 := Hid.mk' hb2; clear hb2 J1 CO) | (go_at_call 82; refine (CST9.out w2 B2.out).mono ?_; rintro e w' ⟨rfl, hw⟩; have hq := hw.symm; subst hq; clear hw) | fail)
      clear CST9
      obtain ⟨m, hm⟩ : ∃ m, xn - 1 = m := ⟨_, rfl⟩
      have hwm : IntKind.i64.wrap ((xn : Int) - 1) = (m : Int) := by rw [IntKind.wrap_i64]; omega
      have hmx : m ≤ xn := by omega
      obtain ⟨a7, c7, hs7, hT7⟩ := sl_h HXT.out hmx
      have HM := Hid.mk' hm
      have T7 := Hid.mk' (hT7.keep (bT B2.out (bAlloc (Below.refl w2.heap.size w2) (.cells #[.int .u8 10] 5))))
      have HLm : Hid ((bv (X.take m)).length = m) := by unfold Hid; rw [bv_length, List.length_take, ← HXL.out]; omega
      clear hm hT7
      go_wp2_with (at_builtin; refine append_big rfl (.tmp 34) (.tmp 39) rfl w2.heap.size (.slice (some ⟨w2.heap.size, 0, none⟩) 1 1) 1 (bv [10]) rfl (ten_own w2) (.slice a7 m c7) m (bv (X.take m)) rfl T7.out.srv HLm.out (bv_one _) (by omega) (by omega) (by rw [World.size_alloc]; omega) ?_)
      intro v1 w3 hown hgrow _
      obtain ⟨yp, yc, rfl⟩ := own_shape hown
      have hb3 : Below w2.heap.size w2 w3 := (bAlloc (Below.refl w2.heap.size w2) (.cells #[.int .u8 10] 5)).grown hgrow (by rw [World.size_alloc]; omega) (by intro k hk; simp [Value.ownBlock] at hk; omega)
      have HYW : Hid (Wb w3 w0.heap.size w3.heap.size (.slice yp (1 + m) yc) (10 :: X.take m)) := (Wb.new (w := w2) hown).wide (Nat.le_trans B1.out.size B2.out.size) (Nat.le_refl _)
      have J3 := Hid.mk' (J2.out.keep hb3)
      have B3 := Hid.mk' (bT B2.out hb3)
      have HYL : Hid ((10 :: X.take m).length ≤ 1048577) := by unfold Hid; rw [List.length_cons, List.length_take, ← HXL.out]; omega
      clear hown hgrow hb3 J2 B2 hs7
      go_upto_region 8 with fail
      obtain ⟨D, hD⟩ : ∃ D, sw l n n (10 :: X.take m) = D := ⟨_, rfl⟩
      have HDS := Hid.mk' hD
      have hns := nsum_sw l n n (10 :: X.take m)
      have hsl := sw_len l n n (10 :: X.take m)
      have CX := Hid.mk' (CS.out w3 n yp (1 + m) yc (10 :: X.take m) (Nat.le_refl n) HYL.out B3.out HYW.out)
      rw [hD] at CX hns hsl
      clear hD CS
      go_wp2_with fail
      refine CX.out.mono ?_
      rintro e w5 ⟨⟨v, F, rfl, hF, hE, hb5⟩, hk5⟩
      obtain ⟨eo, ec, rfl, hZ, -⟩ := hE.edz
      obtain ⟨en, hen⟩ : ∃ en, F.length = en := ⟨_, rfl⟩
      rw [hen] at hE ⊢
      have hen1 : en ≤ 1 := by rw [← hen, ← List.length_map (f := Er.d), hF]; exact hsl
      have J5 := Hid.mk' (J3.out.keep hk5)
      have HF := Hid.mk' hF
      have E5 := Hid.mk' hE
      have B5 := Hid.mk' hb5
      have K5 := Hid.mk' (bT B3.out hk5)
      have CY := Hid.mk' (CF.out w5 eo ec (i0 + 1) en F D (by omega) hen hen1 K5.out hZ hF (by have := HYL.out; omega))
      obtain ⟨cf, hcf⟩ : ∃ cf, fbh l D (i0 + 1) = cf := ⟨_, rfl⟩
      rw [hcf] at CY
      have HCF := Hid.mk' hcf
      clear hF hE hb5 hk5 hZ CX CF hcf
      dsimp only
      go_wp2_with fail
      refine CY.out.mono ?_
      rintro e w6 ⟨rfl, hb6⟩
      have J6 := Hid.mk' (J5.out.keep hb6)
      have E6 := Hid.mk' ((E5.out.keep hb6).wide (Nat.le_refl _) hb6.size)
      have B6 := Hid.mk' (B5.out.trans (hb6.mono B5.out.size))
      clear hb6 CY J5
      dsimp only
      obtain ⟨j0, j1, j2, j3, j4, j5, j6⟩ := ef_cells J6.out
      obtain ⟨f0, f1, f2, f3, f4, f5, f6⟩ := ef_frozen J6.out
      have hbk := ef_store J6.out (.slice eo en ec) (.int .i64 cf) (.bool false) (.bool false) (.slice none 0 0) (.int .i64 0) (.bool false)
      have hgr := ef_grown w6 B (.slice eo en ec) (.int .i64 cf) (.bool false) (.bool false) (.slice none 0 0) (.int .i64 0) (.bool false)
      go_wp2_with fail
      generalize (((((((w6.setCell ⟨B, 0, none⟩ (.slice eo en ec)).setCell ⟨B, 1, none⟩ (.int .i64 cf)).setCell ⟨B, 2, none⟩ (.bool false)).setCell ⟨B, 3, none⟩ (.bool false)).setCell ⟨B, 4, none⟩ (.slice none 0 0)).setCell ⟨B, 5, none⟩ (.int .i64 0)).setCell ⟨B, 6, none⟩ (.bool false)) = w9 at *
      obtain ⟨g0, g1, g2, g3, g4, g5, g6⟩ := ef_cells hbk
      refine bodyPost_ret (v := .agg #[.slice eo en ec, .int .i64 cf, .bool false, .bool false, .slice none 0 0, .int .i64 0, .bool false]) (by simp [results, Tryz.results49, go_sem, g0, g1, g2, g3, g4, g5, g6]) rfl ?_
      have hI : plI l k false = i0 + 1 := by unfold plI; rw [if_neg (by decide), HI0.out]
      have HP2 : (⟨D, cf, false, false, [], 0, false⟩ : Ef) = x := by
        rw [← HPX.out, ← HCF.out, ← HDS.out, hI]
        unfold plX plP plY
        rw [if_neg hin, if_neg hin, hln, ← HXL.out, HM.out]
      rw [← HP2]
      exact EaP.out (x := ⟨D, cf, false, false, [], 0, false⟩) HF.out (Efm.bare E6.out) B6.out J6.out (by have := HB.out; have := HB0.out; omega) hgr
end Go.Proofs.YtppefcnopkmhbaaGreatDoor

namespace Go.Proofs.YtppefcnopkmhbaaGreatDoor
open Go.RowKit

set_option maxRecDepth 8000
theorem und_map : ∃ k e, Tryz.prog.underlying 84 = some (.map k e) ∧ Tryz.prog.underlying k = some .string := ⟨9, 82, by kernel_rfl, by kernel_rfl⟩
def Mpb (W : World) (r : Nat) (es : Array MapEntry) (c : Nat) : Prop := W.heap[r]? = some (.map es c)
theorem Mpb.lt {W : World} {r c : Nat} {es : Array MapEntry} (h : Mpb W r es c) : r < W.heap.size := (Array.getElem?_eq_some_iff.1 h).1
theorem Mpb.keep {W W' : World} {r c : Nat} {es : Array MapEntry} (h : Mpb W r es c) (hb : Below W.heap.size W W') : Mpb W' r es c := by unfold Mpb; rw [hb.block r h.lt]; exact h
theorem Blk.grown_map {W W' : World} {B e r : Nat} {cs : Array Value} (h : Blk W B e cs) (hg : W.grownBy W' (some r)) (hne : B ≠ r) : Blk W' B e cs := h.grown hg (by intro h; injection h with h; exact hne h)
theorem ins_any {W : World} {r c : Nat} {es : Array MapEntry} (hb : Mpb W r es c) (k : ByteArray) (v : Value) (hn : Instr.findNow .string (.string k) es.toList 0 = some none) :
    ∃ W', (Instr.mapUpdate 84 (.map (some r)) (.string k) v).run Tryz.prog W = .ok () W' ∧ Mpb W' r (es.push ⟨.string k, v, c⟩) (c + 1) ∧ W.grownBy W' (some r) ∧ W'.heap.size = W.heap.size := by
  obtain ⟨kt, et, hm, hk⟩ := und_map
  have hc : (Instr.checkKey false 10000 kt (.string k)).run Tryz.prog W = .ok () W := MapKept.run_checkKey (k := .string k) hk (by simp [MapKept.IsKey]) false 9999
  refine ⟨{ W with heap := W.heap.setIfInBounds r (.map (es.push ⟨.string k, v, c⟩) (c + 1)) }, ?_, ?_, ⟨rfl, rfl, rfl, by simp, fun k' hk' hne => ?_⟩, by simp⟩
  · simp [Instr.mapUpdate, run_underlying hm, MapKept.run_getObj_map hb, hc, MapKept.run_findKey hk hn, MapKept.run_setObj_map _ hb, Result.andThen]
  · exact (MapKept.heap_set hb).1
  · exact (MapKept.heap_set hb).2 k' (fun e => hne (by rw [e]))
theorem look_any {W : World} {r c : Nat} {es : Array MapEntry} (hb : Mpb W r es c) (s : ByteArray) {i : Nat} {v : Value} (hn : Instr.findNow .string (.string s) es.toList 0 = some (some (i, v))) :
    (Instr.lookup 84 (.map (some r)) (.string s) true).run Tryz.prog W = .ok (.tuple #[v, .bool true]) W := by
  obtain ⟨kt, et, hm, hk⟩ := und_map
  have hc : ∀ b, (Instr.checkKey b 10000 kt (.string s)).run Tryz.prog W = .ok () W := fun b => MapKept.run_checkKey (k := .string s) hk (by simp [MapKept.IsKey]) b 9999
  simp [Instr.lookup, run_underlying hm, MapKept.run_getObj_map hb, hc, MapKept.run_findKey hk hn, Result.andThen]
theorem look_none {W : World} {r c : Nat} {es : Array MapEntry} (hb : Mpb W r es c) (s : ByteArray) (hn : Instr.findNow .string (.string s) es.toList 0 = some none) :
    (Instr.lookup 84 (.map (some r)) (.string s) true).run Tryz.prog W = .ok (.tuple #[.nilFunc, .bool false]) W := by
  have hm : Tryz.prog.underlying 84 = some (.map 9 82) := by kernel_rfl
  have hk : Tryz.prog.underlying 9 = some .string := by kernel_rfl
  have hz : ∀ W, (zeroValue 82).run Tryz.prog W = .ok .nilFunc W := fun W => by kernel_rfl
  have hc : ∀ b, (Instr.checkKey b 10000 9 (.string s)).run Tryz.prog W = .ok () W := fun b => MapKept.run_checkKey (k := .string s) hk (by simp [MapKept.IsKey]) b 9999
  simp [Instr.lookup, run_underlying hm, MapKept.run_getObj_map hb, hc, MapKept.run_findKey hk hn, Result.andThen, hz]
/-- the operators -/
def opes (C1 C2 C3 : Nat) : Array MapEntry := #[⟨.string ⟨#[100]⟩, .func (.func 68) #[] #[], 0⟩, ⟨.string ⟨#[99]⟩, .func (.func 69) #[] #[], 1⟩, ⟨.string ⟨#[121]⟩, .func (.func 70) #[] #[], 2⟩, ⟨.string ⟨#[62]⟩, .func (.func 71) #[] #[], 3⟩, ⟨.string ⟨#[60]⟩, .func (.func 72) #[] #[], 4⟩, ⟨.string ⟨#[103, 126]⟩, .func (.func 106) #[] #[.pointer (some ⟨C1, 0, none⟩)], 5⟩, ⟨.string ⟨#[103, 117]⟩, .func (.func 106) #[] #[.pointer (some ⟨C2, 0, none⟩)], 6⟩, ⟨.string ⟨#[103, 85]⟩, .func (.func 106) #[] #[.pointer (some ⟨C3, 0, none⟩)], 7⟩]
def tfv (f : Nat) : Array Value := #[.func (.func f) #[] #[]]
def OprP (w : World) (e : Ending) (w' : World) : Prop := ∃ r C1 C2 C3, e = .returned (.map (some r)) ∧ Mpb w' r (opes C1 C2 C3) 8 ∧ Blk w' C1 110 (tfv 74) ∧ Blk w' C2 110 (tfv 75) ∧ Blk w' C3 110 (tfv 76) ∧ Below w.heap.size w w'
set_option maxHeartbeats 4000000 in
theorem opr_any (w : World) : Calls Tryz.prog 35 #[] w fun e w' => OprP w e w' := by
  obtain ⟨r, hr⟩ : ∃ r, w.heap.size = r := ⟨_, rfl⟩
  have hM : (Instr.makeMap 84 none).run Tryz.prog w = .ok (.map (some r)) (w.alloc (.map #[] 0)) := by rw [← hr]; rfl
  have m0 : Mpb (w.alloc (.map #[] 0)) r #[] 0 := by rw [← hr]; exact heap_alloc_new w _
  have b0 : Below w.heap.size w (w.alloc (.map #[] 0)) := bAlloc (Below.refl _ _) _
  generalize w.alloc (.map #[] 0) = W0 at *
  obtain ⟨W1, hI0, m1, g1, z1⟩ := ins_any m0 ⟨#[100]⟩ (.func (.func 68) #[] #[]) (by kernel_rfl)
  have b1 : Below w.heap.size w W1 := b0.grown g1 b0.size (fun g hg => by injection hg with hg; omega)
  obtain ⟨W2, hI1, m2, g2, z2⟩ := ins_any m1 ⟨#[99]⟩ (.func (.func 69) #[] #[]) (by kernel_rfl)
  have b2 : Below w.heap.size w W2 := b1.grown g2 b1.size (fun g hg => by injection hg with hg; omega)
  obtain ⟨W3, hI2, m3, g3, z3⟩ := ins_any m2 ⟨#[121]⟩ (.func (.func 70) #[] #[]) (by kernel_rfl)
  have b3 : Below w.heap.size w W3 := b2.grown g3 b2.size (fun g hg => by injection hg with hg; omega)
  obtain ⟨W4, hI3, m4, g4, z4⟩ := ins_any m3 ⟨#[62]⟩ (.func (.func 71) #[] #[]) (by kernel_rfl)
  have b4 : Below w.heap.size w W4 := b3.grown g4 b3.size (fun g hg => by injection hg with hg; omega)
  obtain ⟨W5, hI4, m5, g5, z5⟩ := ins_any m4 ⟨#[60]⟩ (.func (.func 72) #[] #[]) (by kernel_rfl)
  have b5 : Below w.heap.size w W5 := b4.grown g5 b4.size (fun g hg => by injection hg with hg; omega)
  have m5lt := m5.lt
  have sz0 : W5.heap.size ≤ W5.heap.size := Nat.le_refl _
  go_enter Tryz.func35, Tryz.ntmps35
  go_wp2_with (first | (go_at_call 73; (refine (letters_tog W5).mono ?_; rintro e V1 ⟨C1, rfl, hC0, hl0, hb0⟩; have m5k := m5.keep hb0; clear m5; have m5 := m5k; clear m5k; obtain ⟨U1, hI5, m6, g6, z6⟩ := ins_any m5 ⟨#[103, 126]⟩ (.func (.func 106) #[] #[.pointer (some ⟨C1, 0, none⟩)]) (by kernel_rfl); have l0 : r < C1 := (by first | exact Nat.lt_of_lt_of_le m5lt hl0 | exact Nat.lt_of_lt_of_le (Nat.lt_of_lt_of_le m5lt sz0) hl0); have k0 := hC0.grown_map g6 (Nat.ne_of_gt l0); have b6 : Below w.heap.size w U1 := (bT b5 hb0).grown g6 (bT b5 hb0).size (fun g hg => by injection hg with hg; omega); have sz1 : W5.heap.size ≤ U1.heap.size := (by have := hb0.size; omega); clear hC0 hb0)) | (go_at_call 73; (refine (letters_low U1).mono ?_; rintro e V2 ⟨C2, rfl, hC1, hl1, hb1⟩; have m6k := m6.keep hb1; clear m6; have m6 := m6k; clear m6k; obtain ⟨U2, hI6, m7, g7, z7⟩ := ins_any m6 ⟨#[103, 117]⟩ (.func (.func 106) #[] #[.pointer (some ⟨C2, 0, none⟩)]) (by kernel_rfl); have l1 : r < C2 := (by first | exact Nat.lt_of_lt_of_le m5lt hl1 | exact Nat.lt_of_lt_of_le (Nat.lt_of_lt_of_le m5lt sz1) hl1); have k1 := hC1.grown_map g7 (Nat.ne_of_gt l1); have q0 := (k0.keep hb1).grown_map g7 (Nat.ne_of_gt (l0)); clear k0; have k0 := q0; clear q0; have b7 : Below w.heap.size w U2 := (bT b6 hb1).grown g7 (bT b6 hb1).size (fun g hg => by injection hg with hg; omega); have sz2 : W5.heap.size ≤ U2.heap.size := (by have := hb1.size; omega); clear hC1 hb1)) | (go_at_call 73; (refine (letters_upp U2).mono ?_; rintro e V3 ⟨C3, rfl, hC2, hl2, hb2⟩; have m7k := m7.keep hb2; clear m7; have m7 := m7k; clear m7k; obtain ⟨U3, hI7, m8, g8, z8⟩ := ins_any m7 ⟨#[103, 85]⟩ (.func (.func 106) #[] #[.pointer (some ⟨C3, 0, none⟩)]) (by kernel_rfl); have l2 : r < C3 := (by first | exact Nat.lt_of_lt_of_le m5lt hl2 | exact Nat.lt_of_lt_of_le (Nat.lt_of_lt_of_le m5lt sz2) hl2); have k2 := hC2.grown_map g8 (Nat.ne_of_gt l2); have q0 := (k0.keep hb2).grown_map g8 (Nat.ne_of_gt (l0)); clear k0; have k0 := q0; clear q0; have q1 := (k1.keep hb2).grown_map g8 (Nat.ne_of_gt (l1)); clear k1; have k1 := q1; clear q1; have b8 : Below w.heap.size w U3 := (bT b7 hb2).grown g8 (bT b7 hb2).size (fun g hg => by injection hg with hg; omega); have sz3 : W5.heap.size ≤ U3.heap.size := (by have := hb2.size; omega); clear hC2 hb2)) | fail)
  go_ret
  exact ⟨r, C1, C2, C3, rfl, m8, k0, k1, k2, b8⟩
end Go.Proofs.YtppefcnopkmhbaaGreatDoor

namespace Go.Proofs.YtppefcnopkmhbaaGreatDoor
open Go.RowKit

set_option maxRecDepth 8000
/-- which operator -/
def kn (s : ByteArray) : Nat :=
  if s = ⟨#[100]⟩ then 1 else if s = ⟨#[99]⟩ then 2 else if s = ⟨#[121]⟩ then 3 else if s = ⟨#[62]⟩ then 4 else if s = ⟨#[60]⟩ then 5 else if s = ⟨#[103, 126]⟩ then 6 else if s = ⟨#[103, 117]⟩ then 7 else if s = ⟨#[103, 85]⟩ then 8 else 0
theorem kn_cases (s : ByteArray) : (s = ⟨#[100]⟩ ∧ kn s = 1) ∨ (s = ⟨#[99]⟩ ∧ kn s = 2) ∨ (s = ⟨#[121]⟩ ∧ kn s = 3) ∨ (s = ⟨#[62]⟩ ∧ kn s = 4) ∨ (s = ⟨#[60]⟩ ∧ kn s = 5) ∨ (s = ⟨#[103, 126]⟩ ∧ kn s = 6) ∨ (s = ⟨#[103, 117]⟩ ∧ kn s = 7) ∨ (s = ⟨#[103, 85]⟩ ∧ kn s = 8) ∨
    ((s ≠ ⟨#[100]⟩ ∧ s ≠ ⟨#[99]⟩ ∧ s ≠ ⟨#[121]⟩ ∧ s ≠ ⟨#[62]⟩ ∧ s ≠ ⟨#[60]⟩ ∧ s ≠ ⟨#[103, 126]⟩ ∧ s ≠ ⟨#[103, 117]⟩ ∧ s ≠ ⟨#[103, 85]⟩) ∧ kn s = 0) := by
  unfold kn
  by_cases h1 : s = ⟨#[100]⟩
  · subst h1; exact .inl ⟨rfl, by decide⟩
  by_cases h2 : s = ⟨#[99]⟩
  · subst h2; exact .inr (.inl ⟨rfl, by decide⟩)
  by_cases h3 : s = ⟨#[121]⟩
  · subst h3; exact .inr (.inr (.inl ⟨rfl, by decide⟩))
  by_cases h4 : s = ⟨#[62]⟩
  · subst h4; exact .inr (.inr (.inr (.inl ⟨rfl, by decide⟩)))
  by_cases h5 : s = ⟨#[60]⟩
  · subst h5; exact .inr (.inr (.inr (.inr (.inl ⟨rfl, by decide⟩))))
  by_cases h6 : s = ⟨#[103, 126]⟩
  · subst h6; exact .inr (.inr (.inr (.inr (.inr (.inl ⟨rfl, by decide⟩)))))
  by_cases h7 : s = ⟨#[103, 117]⟩
  · subst h7; exact .inr (.inr (.inr (.inr (.inr (.inr (.inl ⟨rfl, by decide⟩))))))
  by_cases h8 : s = ⟨#[103, 85]⟩
  · subst h8; exact .inr (.inr (.inr (.inr (.inr (.inr (.inr (.inl ⟨rfl, by decide⟩)))))))
  exact .inr (.inr (.inr (.inr (.inr (.inr (.inr (.inr ⟨⟨h1, h2, h3, h4, h5, h6, h7, h8⟩, by rw [if_neg h1, if_neg h2, if_neg h3, if_neg h4, if_neg h5, if_neg h6, if_neg h7, if_neg h8]⟩)))))))
theorem beq_ne {s k : ByteArray} (h : s ≠ k) : (s == k) = false := by
  cases e : (s == k) with
  | true => exact absurd ((MapKept.bytes_beq s k).1 e) h
  | false => rfl
theorem find_no {s : ByteArray} {C1 C2 C3 : Nat} (h : s ≠ ⟨#[100]⟩ ∧ s ≠ ⟨#[99]⟩ ∧ s ≠ ⟨#[121]⟩ ∧ s ≠ ⟨#[62]⟩ ∧ s ≠ ⟨#[60]⟩ ∧ s ≠ ⟨#[103, 126]⟩ ∧ s ≠ ⟨#[103, 117]⟩ ∧ s ≠ ⟨#[103, 85]⟩) : Instr.findNow .string (.string s) (opes C1 C2 C3).toList 0 = some none := by
  obtain ⟨h1, h2, h3, h4, h5, h6, h7, h8⟩ := h
  simp [opes, Instr.findNow, Instr.sameNow, beq_ne h1, beq_ne h2, beq_ne h3, beq_ne h4, beq_ne h5, beq_ne h6, beq_ne h7, beq_ne h8]
/-- what shift tells -/
def shX (l : List UInt8) (o : Option (List Ed)) (a : Nat) : Ef × Int := match o with
  | none => (ef0, 1)
  | some D => (⟨D, fbh l (D.take 1) a, false, false, [], 0, false⟩, 0)
theorem ShQ.ef {l : List UInt8} {o : Option (List Ed)} {a : Nat} {w w' : World} {e : Ending} (h : ShQ l o a w e w') : EfQ (shX l o a).1 (shX l o a).2 w e w' := by
  cases o with
  | none => exact h
  | some D => exact h
/-- letters through a function -/
def leEf (g : Int → Int) (l : List UInt8) (k f t : Nat) (L : Bool) (a : Nat) : Ef := ⟨sw l f t ((sl l f t).map (tw g)), hmc l k f L (a : Int), false, false, [], 0, false⟩
/-- c -/
def cEf (l : List UInt8) (f t : Nat) (L D : Bool) (a b : Nat) : Ef :=
  if L = true then ⟨sw l (sp l a) (en l (sp l b)) [], (sp l a : Int), true, true, tk l f t true D, hwE true (tk l f t true D), true⟩
  else if f = t then ⟨[], (f : Int), false, false, [], 0, true⟩
  else ⟨sw l f t [], (f : Int), true, false, tk l f t false D, hwE false (tk l f t false D), true⟩
/-- an operator, its range known to be right -/
def opX (l : List UInt8) (k o f t : Nat) (L D : Bool) (a b q : Nat) : Ef × Int :=
  if o = 1 then (rEf l f t L D a, 0)
  else if o = 2 then (cEf l f t L D a b, 0)
  else if o = 3 then (yEf l k f t L D (a : Int), 0)
  else if o = 4 then shX l (shf (hdI q) l (b + 1 - a) a 0) a
  else if o = 5 then shX l (shf (hdO q) l (b + 1 - a) a 0) a
  else if o = 6 then (leEf tgB l k f t L a, 0)
  else if o = 7 then (leEf loB l k f t L a, 0)
  else (leEf upB l k f t L a, 0)
/-- Do -/
def doX (l : List UInt8) (at' : Int) (s : ByteArray) (fF tT : Int) (L D : Bool) (q : Int) : Ef × Int :=
  if kn s = 0 ∨ ¬ (0 ≤ at' ∧ at' ≤ (l.length : Int)) ∨ ¬ (1 ≤ q ∧ q ≤ 9999) ∨ (lnO l at'.toNat fF tT L D).2.2 = false then (ef0, 2)
  else if fF = tT ∧ idl (kn s == 1) (kn s == 2) L = true then (ef0, 190)
  else opX l at'.toNat (kn s) fF.toNat tT.toNat L D (lnO l at'.toNat fF tT L D).1.toNat (lnO l at'.toNat fF tT L D).2.1.toNat q.toNat
/-- a range that is right -/
structure RgO (l : List UInt8) (fF tT : Int) (L D : Bool) (x : Int × Int × Bool) (f t a b : Nat) : Prop where
  eF : fF = (f : Int)
  eT : tT = (t : Int)
  eX : x = ((a : Int), (b : Int), true)
  ft : f ≤ t
  tn : t ≤ l.length
  ab : a ≤ b
  bn : b ≤ nl l
  rg : rgB l (f : Int) (t : Int) L D = true
  whO : L = true → wh l (a : Int) (b : Int) = ⟨(f : Int), (t : Int), true, D, 0⟩
theorem isW_yes {l : List UInt8} {a b fF tT : Int} {L D : Bool} (h : isW l a b fF tT L D = true) : wh l a b = ⟨fF, tT, L, D, 0⟩ := by
  unfold isW at h
  simp only [Bool.and_eq_true, beq_iff_eq] at h
  obtain ⟨h1, h2, h3, h4, h5⟩ := h
  cases e : wh l a b with
  | mk F T L' D' E => rw [e] at h1 h2 h3 h4 h5; simp at h1 h2 h3 h4 h5; subst h1 h2 h3 h4 h5; rfl
theorem wh_rgO {l : List UInt8} {a b fF tT : Int} {L D : Bool} (h : wh l a b = ⟨fF, tT, L, D, 0⟩) (hL : L = true) : ∃ f t a' b' : Nat, a = a' ∧ b = b' ∧ RgO l fF tT L D ((a' : Int), (b' : Int), true) f t a' b' := by
  subst hL
  cases hc : (lnB l a && lnB l b && decide (a ≤ b)) with
  | false => rw [wh_no hc] at h; simp [rno] at h
  | true =>
    obtain ⟨a', b', rfl, rfl, h1, h2, h3⟩ := wh_cases hc
    have hw := h
    rw [wh_yes h1 h2 h3] at h
    have hs1 := sp_le (t := l) h1
    have hs2 := sp_le (t := l) h2
    have hs3 := sp_mono h3 h2
    have he1 := en_ge l (sp l b')
    have he2 := en_le hs2
    unfold whY at h
    split at h
    · rename_i hlt
      simp at h
      obtain ⟨rfl, rfl, rfl⟩ := h
      refine ⟨sp l a', en l (sp l b') + 1, a', b', rfl, rfl, ⟨rfl, by omega, rfl, by omega, by omega, h3, h2, rgB_mk (by omega) (by omega) (by omega) (.inl rfl), fun _ => ?_⟩⟩
      rw [hw]; rfl
    · rename_i hlt
      split at h
      · rename_i h0
        simp at h
        obtain ⟨rfl, rfl, rfl⟩ := h
        obtain ⟨i, hi⟩ : ∃ i, a' = i + 1 := ⟨a' - 1, by have : a' ≠ 0 := (fun e => by subst e; rw [sp_zero] at h0; omega); omega⟩
        subst hi
        have hn := sp_next (l := l) h1
        refine ⟨sp l (i + 1) - 1, en l (sp l b'), i + 1, b', rfl, rfl, ⟨by omega, rfl, rfl, by omega, by omega, h3, h2, rgB_mk (by omega) (by omega) (by omega) (.inr ?_), fun _ => ?_⟩⟩
        · unfold leB
          rw [show (((sp l (i + 1) - 1 : Nat) : Int)).toNat = sp l (i + 1) - 1 from rfl, hn.2, Nat.add_sub_cancel, decide_eq_true (by omega), Bool.true_and]
          exact en_edge hn.1
        · rw [hw]; congr 1; omega
      · rename_i h0
        simp at h
        obtain ⟨rfl, rfl, rfl⟩ := h
        refine ⟨sp l a', en l (sp l b'), a', b', rfl, rfl, ⟨rfl, rfl, rfl, by omega, by omega, h3, h2, rgB_mk (by omega) (by omega) (by omega) (.inl rfl), fun _ => ?_⟩⟩
        rw [hw]
theorem lnO_ok {l : List UInt8} {k : Nat} {fF tT : Int} {L D : Bool} (h : (lnO l k fF tT L D).2.2 = true) : ∃ f t a b, RgO l fF tT L D (lnO l k fF tT L D) f t a b := by
  unfold lnO at h ⊢
  split at h
  · cases h
  · rename_i hb
    rw [if_neg hb]
    have h1 : 0 ≤ fF := by omega
    have h2 : fF ≤ tT := by omega
    have h3 : tT ≤ (l.length : Int) := by omega
    obtain ⟨f, rfl⟩ := Int.eq_ofNat_of_zero_le h1
    obtain ⟨t, rfl⟩ := Int.eq_ofNat_of_zero_le (show 0 ≤ tT by omega)
    have hm : (max (f : Int) ((t : Int) - 1)).toNat = max f (t - 1) := by omega
    cases L with
    | false =>
      rw [if_pos rfl]
      refine ⟨f, t, _, _, ⟨rfl, rfl, rfl, by omega, by omega, ?_, ?_, ?_, fun e => by cases e⟩⟩
      · rw [hm]; exact nl_mono l _ _ (by omega)
      · exact nl_take_le _ _
      · unfold rgB; rw [decide_eq_true ⟨by omega, by omega, by omega⟩]; rfl
    | true =>
      rw [if_neg (by simp)] at h ⊢
      generalize ((nl (l.take (f : Int).toNat) : Int) + if D = true then 1 else 0) = aa at h ⊢
      dsimp only at h ⊢
      split at h
      · rename_i hc
        rw [if_pos hc]
        have hc1 := (Bool.and_eq_true_iff.1 hc).1
        obtain ⟨f', t', a', b', e1, e2, hR⟩ := wh_rgO (isW_yes hc1) rfl
        rw [e1, e2]
        exact ⟨f', t', a', b', hR⟩
      · rename_i hc
        rw [if_neg hc]
        dsimp only at h ⊢
        obtain ⟨f', t', a', b', e1, e2, hR⟩ := wh_rgO (isW_yes h) rfl
        rw [e1, e2]
        rw [e1, e2] at h
        rw [h]
        exact ⟨f', t', a', b', hR⟩
end Go.Proofs.YtppefcnopkmhbaaGreatDoor
