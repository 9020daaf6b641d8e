/- The reference's Under. -/
import Derived.Test.YtaakgoojcogbcaaZRqu
import Derived.Test.YtaakgoojcogbcaaXh
import Derived.Test.YtaakgoojcogbcaaXn
import Derived.ArgAppend
namespace Go.Proofs.Ytaakgoojcogbcaa
open Go.RowKit
theorem tx_cells {W : World} {a : Addr} {n c : Nat} {l : List UInt8} (h : Tx W (some a) n c l) : ∀ (j : Nat) (u : Value), (bv l)[j]? = some u → W.cell? (a.add j) = some u := by
  intro j u hu
  have hj : j < l.length := by have := (List.getElem?_eq_some_iff.1 hu).1; rw [bv_length] at this; exact this
  rw [bv_at l j hj] at hu
  injection hu with hu
  subst hu
  exact h.cells a rfl j (by rw [← h.len]; exact hj)
theorem wd_none {t : List UInt8} {k a : Nat} (h1 : k ≤ a) (h2 : a ≤ t.length) (h3 : ∀ j, k ≤ j → j < a → le (at8 t j) = false ∧ iwt t j = false) (h4 : a = t.length ∨ le (at8 t a) = true) : WdN t k := by
  have := en_eq h1 h2 (fun j j1 j2 => (h3 j j1 j2).1) h4
  intro j j1 j2
  exact (h3 j j1 (by omega)).2
theorem wd_found {t : List UInt8} {k a x y : Nat} (h1 : k ≤ a) (h2 : a < t.length) (h3 : ∀ j, k ≤ j → j < a → le (at8 t j) = false ∧ iwt t j = false) (h4 : iwt t a = true) (h5 : le (at8 t a) = false) (x1 : x ≤ a) (x2 : ∀ j, x ≤ j → j < a → iwt t j = true) (x3 : x = 0 ∨ iwt t (x - 1) = false)
    (y1 : x ≤ y) (y2 : y ≤ t.length) (y3 : ∀ j, x ≤ j → j < y → iwt t j = true) (y4 : y = t.length ∨ iwt t y = false) : WdS t k x y := by
  have hay : a < y := by
    rcases Nat.lt_or_ge a y with h | h
    · exact h
    · rcases y4 with g | g
      · omega
      · rcases Nat.lt_or_ge y a with z | z
        · rw [x2 y y1 z] at g; cases g
        · rw [show y = a by omega, h4] at g; cases g
  have hae : a < en t k := by
    rcases Nat.lt_or_ge a (en t k) with h | h
    · exact h
    · have hk := en_ge t k
      have := en_edge (t := t) (s := k) (by omega)
      rcases Nat.lt_or_ge (en t k) a with z | z
      · rw [(h3 _ hk z).1] at this; cases this
      · rw [show en t k = a by omega, h5] at this; cases this
  refine ⟨⟨a, h1, hae, h4, fun j j1 j2 => (h3 j j1 j2).2, x1, hay⟩, ?_, y3, x3, y4⟩
  rcases Nat.lt_or_ge (en t k) y with h | h
  · have := iwt_end (t := t) (k := k) (by omega)
    rw [y3 _ (by omega) h] at this; cases this
  · exact h
set_option maxRecDepth 12000 in
set_option maxHeartbeats 16000000 in
theorem runder_any (ao : Option Addr) (n c : Nat) (k : Int) (t : List UInt8) (w : World) (hn : n ≤ 70368744177000) (HT : Hid (Tx w ao n c t)) :
    Calls Try.prog 23 #[.slice ao n c, .int .i64 k] w fun e w' => UnP t k w e w' := by
  obtain ⟨i0, hi, hz0, hz1, hz2⟩ := infoB
  have hlen := HT.out.len
  have hcap := HT.out.cap
  by_cases hp0 : k < 0
  · have HP : Hid (¬ (0 ≤ k ∧ k ≤ t.length)) := by unfold Hid; omega
    have hp0' : decide (k < 0) = true := decide_eq_true hp0
    go_enter Try.func23, Try.ntmps23
    go_wp2
    go_ret2
    exact ⟨Below.refl _ _, .inl ⟨HP.out, rfl⟩⟩
  by_cases hp1 : (n : Int) < k
  · have HP : Hid (¬ (0 ≤ k ∧ k ≤ t.length)) := by unfold Hid; omega
    have hp0' : decide (k < 0) = false := decide_eq_false hp0
    have hp1' : decide ((n : Int) < k) = true := decide_eq_true hp1
    go_enter Try.func23, Try.ntmps23
    go_wp2
    go_ret2
    exact ⟨Below.refl _ _, .inl ⟨HP.out, rfl⟩⟩
  obtain ⟨k, rfl⟩ : ∃ j : Nat, k = (j : Int) := ⟨k.toNat, by omega⟩
  have HP : Hid (0 ≤ (k : Int) ∧ (k : Int) ≤ t.length) := by unfold Hid; omega
  have hp0' : decide ((k : Int) < 0) = false := decide_eq_false hp0
  have hp1' : decide ((n : Int) < (k : Int)) = false := decide_eq_false hp1
  have hkn : k ≤ n := by omega
  have hp1c : decide (n < k) = false := decide_eq_false (by omega)
  have HEN : Hid (en t k ≤ n) := by unfold Hid; rw [← hlen]; exact en_le (by omega)
  have HWN := Hid.mk' (fun (a : Nat) => wd_none (t := t) (k := k) (a := a))
  have HWM := Hid.mk' (fun (a x y : Nat) => wd_found (t := t) (k := k) (a := a) (x := x) (y := y))
  rw [hlen] at HWN HWM
  clear hp0 hp1
  go_enter Try.func23, Try.ntmps23
  go_wp2_with fail
  go_loopg [6] (n - k) (fun m x6 wx => ∃ a : Nat, x6 = .int .i64 (a : Int) ∧ k ≤ a ∧ a + m = n ∧ Hid (∀ j, k ≤ j → j < a → le (at8 t j) = false ∧ iwt t j = false) ∧ wx = w)
  case atStart => exact ⟨k, rfl, Nat.le_refl _, by omega, fun i i1 i2 => by omega, rfl⟩
  case round =>
    obtain ⟨a, rfl, hka, ham, HA0, hw⟩ := hrel
    have hq := hw.symm
    subst hq
    by_cases hal : a = n
    · have ha1 : ¬ ((a : Int) < (n : Int)) := by omega
      have ha2 : ((a : Int) == (n : Int)) = true := by simpa using (by omega : (a : Int) = n)
      have HN := Hid.mk' (HWN.out a hka (by omega) HA0.out (.inl hal))
      clear hal
      go_wp2
      go_ret2
      exact ⟨Below.refl _ _, .inr (.inl ⟨HP.out, by rw [Int.toNat_natCast]; exact HN.out, rfl⟩)⟩
    have ha1 : ((a : Int) < (n : Int)) := by omega
    have ha2 : ((a : Int) == (n : Int)) = false := beq_false_of_ne (by omega)
    have han : a < n := by omega
    clear hal
    obtain ⟨g, o, e1, hc⟩ := HT.out.at (by omega)
    subst e1
    have HC := Hid.mk' hc
    clear hc
    have ca := HC.out a han
    by_cases h10 : le (at8 t a) = true
    · have h10' : (((at8 t a).toNat : Int) == 10) = true := h10
      have HN := Hid.mk' (HWN.out a hka (by omega) HA0.out (.inr h10))
      clear h10
      go_wp2
      go_ret2
      exact ⟨Below.refl _ _, .inr (.inl ⟨HP.out, by rw [Int.toNat_natCast]; exact HN.out, rfl⟩)⟩
    have HAn : Hid (le (at8 t a) = false) := by unfold Hid; simpa using h10
    have h10' : (((at8 t a).toNat : Int) == 10) = false := HAn.out
    have h10n : ¬ (((at8 t a).toNat : Int) = 10) := by simpa using h10'
    have h10m : (((at8 t a).toNat : Int) != 10) = true := by simpa using h10'
    clear h10
    obtain ⟨K, HK⟩ : ∃ K, Hid (kd ((at8 t a).toNat : Int) false = K) := ⟨_, rfl⟩
    have CK := Hid.mk' (rof_any ((at8 t a).toNat : Int) false w)
    rw [HK.out] at CK
    go_wp2_with fail
    refine CK.out.mono ?_
    rintro e w9 ⟨rfl, hw⟩
    have hq := hw.symm
    subst hq
    by_cases hK : K = 2
    · have HA1 : Hid (iwt t a = true) := by unfold Hid iwt iwb; rw [HK.out]; exact decide_eq_true hK
      subst hK
      clear CK HK
      go_wp2_with fail
      go_loopg [6] a (fun m x6 wx => ∃ x : Nat, x6 = .int .i64 (x : Int) ∧ x ≤ a ∧ m = x ∧ Hid (∀ i, x ≤ i → i < a → iwt t i = true) ∧ wx = w)
      case atStart => exact ⟨a, rfl, Nat.le_refl _, rfl, fun i i1 i2 => by omega, rfl⟩
      case round =>
        obtain ⟨x, rfl, hxa, hm, HI, hw⟩ := hrel
        have hq := hw.symm
        subst hq
        by_cases hx0 : x = 0
        · have hx0' : decide ((0 : Int) < (x : Int)) = false := decide_eq_false (by omega)
          have hx1 : ¬ ((0 : Int) < (x : Int)) := by omega
          have HX0 : Hid (x = 0 ∨ iwt t (x - 1) = false) := .inl hx0
          clear hx0
          go_wp2_with fail
          go_loopg [7] (n - x) (fun m x7 wx => ∃ y : Nat, x7 = .int .i64 (y : Int) ∧ x ≤ y ∧ y ≤ n ∧ y + m = n ∧ Hid (∀ i, x ≤ i → i < y → iwt t i = true) ∧ wx = w)
          case atStart => exact ⟨x, rfl, Nat.le_refl _, by omega, by omega, fun i i1 i2 => by omega, rfl⟩
          case round =>
            obtain ⟨y, rfl, hxy0, hyn, hym, HJ, hw⟩ := hrel
            have hq := hw.symm
            subst hq
            by_cases hyl : y = n
            · have hy1 : ¬ ((y : Int) < (n : Int)) := by omega
              have HY0 : Hid (y = n ∨ iwt t y = false) := .inl hyl
              clear hyl
              have HS := Hid.mk' (HWM.out a x y (by omega) han HA0.out HA1.out HAn.out (by omega) HI.out HX0.out (by omega) (by omega) HJ.out HY0.out)
              have hay := HS.out.hi
              have hen := HEN.out
              have hxy : x < y := by obtain ⟨q, _, _, _, _, h5, h6⟩ := HS.out.a; omega
              clear hay hen
              have hcx : ¬ c = x := by omega
              have hs1 : (x : Int) ≤ (y : Int) := by omega
              have hs2 : (y : Int) ≤ (c : Int) := by omega
              have hs3 : (0 : Int) ≤ (x : Int) := by omega
              have kc := fun (w : World) (C : Array Value) (n c : Nat) => Lib.run_convert_bytes_const (P := Try.prog) w 22 5 C n c Try.underlying22 Try.underlying5
              obtain ⟨WL, HWL⟩ : ∃ WL, Hid (wlist t x y = WL) := ⟨_, rfl⟩
              have hWL : WL.length = y - x := by rw [← HWL.out]; unfold wlist; rw [List.length_take, List.length_drop]; omega
              have hqt := qt_len WL
              have HXT : Hid (Tx w (some ⟨g, o + x, none⟩) (y - x) (c - x) WL) := by
                have := (HT.out.tail (s := x) (by omega)).mid (e := y) (by omega) (by omega)
                rw [add_none] at this
                rw [← HWL.out]; exact this
              go_wp2_with fail
              refine (rquote_any _ (some ⟨g, o + x, none⟩) (y - x) (c - x) WL (by omega) (HXT.out.keep (bAlloc (Below.refl _ _) _))).mono ?_
              rintro e w2 ⟨vq, rfl, hoq, hbq⟩
              have U2 := Hid.mk' (bT (bAlloc (Below.refl _ w) (.cells #[.int .u8 92, .int .u8 60] 5 (2, 3))) hbq)
              have P0 : Hid (Tx w2 (some ⟨w.heap.size, 0, none⟩) 2 2 [92, 60]) := (tx_lit (l := [92, 60]) (heap_alloc_new w (.cells #[.int .u8 92, .int .u8 60] 5 (2, 3))) rfl (by decide)).keep hbq
              obtain ⟨gq, cq, eq, hcq, hcm⟩ := own_some hoq (by omega)
              subst eq
              have PQ := Hid.mk' (hoq.cells (g := gq) rfl)
              clear hoq hbq HXT hcq hcm
              go_wp2_with (at_builtin; refine wpList_append_grows w2 rfl (.tmp 79) (.tmp 84) 22 rfl 5 i0 (.int .u8 0) 1 1 Try.underlying22 hi hz0 hz1 hz2 rfl (by decide) (some ⟨w.heap.size, 0, none⟩) 2 2 (bv [92, 60]) rfl (fun h => by cases h) rfl (fun b hb => by injection hb with hb; subst hb; exact tx_cells P0.out) ⟨gq, 0, none⟩ (qt WL).length cq (bv (qt WL)) rfl (by rw [bv_length, Nat.mul_one]) PQ.out (bv_one _) (by omega) (by unfold maxLen; omega) (by omega) ?_)
              intro v3 w3 hown hgrow
              have O3 := Hid.mk' (own_lower hown U2.out.size)
              have U3 : Hid (Below w.heap.size w w3) := bT U2.out ((Below.refl _ _).grown hgrow (Nat.le_refl _) (fun k hk => by cases hk))
              obtain ⟨a3, c3, e3⟩ := own_shape hown
              subst e3
              clear hown hgrow P0 PQ U2
              go_wp2_with (at_builtin; refine append_srv rfl (.tmp 86) (.tmp 87) 22 rfl w.heap.size 5 i0 (.int .u8 0) 1 1 Try.underlying22 hi hz0 hz1 hz2 rfl (by decide) _ _ _ rfl (O3.out.alloc _) (.slice (some ⟨w3.heap.size, 0, none⟩) 2 2) 2 [.int .u8 92, .int .u8 62] rfl (.inr ⟨⟨w3.heap.size, 0, none⟩, 2, rfl, fun k u hk => lit_cells w3 _ 5 k u hk⟩) rfl (by intro u hu; simp at hu; rcases hu with hu | hu <;> (subst hu; rfl)) (by unfold maxLen; omega) (by omega) (bAlloc U3.out _).size ?_)
              intro v5 w5 hown hgrow _
              have hul : (upat WL).length = 2 + (qt WL).length + 2 := by unfold upat; simp; omega
              have hue : bv [92, 60] ++ (bv (qt WL) ++ [.int .u8 92, .int .u8 62]) = bv (upat WL) := by unfold upat; rw [bv_append, bv_append, List.append_assoc]; rfl
              try rw [List.append_assoc] at hown
              rw [hue, ← hul] at hown
              have B5 : Hid (Below w.heap.size w w5) := (bAlloc U3.out _).grown hgrow (bAlloc U3.out _).size (fun k hk => (O3.out.lt k hk).1)
              have O5 := Hid.mk' hown
              obtain ⟨a5, c5, e5⟩ := own_shape hown
              subst e5
              obtain ⟨U, HU⟩ : ∃ U, Hid ((upat WL).length = U) := ⟨_, rfl⟩
              rw [HU.out] at O5 ⊢
              clear hown hgrow hul hue hqt hWL O3 U3 kc
              by_cases h256 : 256 < U
              · have h256' : decide ((256 : Int) < (U : Int)) = true := decide_eq_true (by omega)
                have HR := Hid.mk' h256
                clear h256
                go_wp2
                go_ret2
                exact ⟨B5.out, .inr (.inr ⟨HP.out, x, y, by rw [Int.toNat_natCast]; exact HS.out, .inl ⟨by rw [HWL.out, HU.out]; exact HR.out, rfl⟩⟩)⟩
              · have h256' : decide ((256 : Int) < (U : Int)) = false := decide_eq_false (by omega)
                have HR : Hid (U ≤ 256) := by unfold Hid; omega
                clear h256
                go_wp2
                go_ret2
                exact ⟨B5.out, .inr (.inr ⟨HP.out, x, y, by rw [Int.toNat_natCast]; exact HS.out, .inr ⟨by rw [HWL.out, HU.out]; exact HR.out, _, rfl, by rw [HWL.out, HU.out]; exact O5.out⟩⟩)⟩
            · have hy1 : ((y : Int) < (n : Int)) := by omega
              have cy := HC.out y (by omega)
              obtain ⟨K, HK⟩ : ∃ K, Hid (kd ((at8 t y).toNat : Int) false = K) := ⟨_, rfl⟩
              have CK := Hid.mk' (rof_any ((at8 t y).toNat : Int) false w)
              rw [HK.out] at CK
              go_wp2_with fail
              refine CK.out.mono ?_
              rintro e w9 ⟨rfl, hw⟩
              have hq := hw.symm
              subst hq
              by_cases hK : K = 2
              · have HY1 : Hid (iwt t y = true) := by unfold Hid iwt iwb; rw [HK.out]; exact decide_eq_true hK
                subst hK
                clear CK HK cy
                go_wp2
                go_roundg (n - (y + 1))
                case measure => omega
                case rel =>
                  refine ⟨y + 1, by go_num, by omega, by omega, by omega, fun i i1 i2 => ?_, rfl⟩
                  rcases Nat.lt_or_ge i y with h | h
                  · exact HJ.out i i1 h
                  · rw [show i = y by omega]; exact HY1.out
              · have HY0 : Hid (y = n ∨ iwt t y = false) := .inr (by unfold iwt iwb; rw [HK.out]; exact decide_eq_false hK)
                have hK' : (K == 2) = false := by simpa using hK
                have hKn : (K != 2) = true := by simpa using hK
                clear hK CK HK cy hyl
                have HS := Hid.mk' (HWM.out a x y (by omega) han HA0.out HA1.out HAn.out (by omega) HI.out HX0.out (by omega) (by omega) HJ.out HY0.out)
                have hay := HS.out.hi
                have hen := HEN.out
                have hxy : x < y := by obtain ⟨q, _, _, _, _, h5, h6⟩ := HS.out.a; omega
                clear hay hen
                have hcx : ¬ c = x := by omega
                have hs1 : (x : Int) ≤ (y : Int) := by omega
                have hs2 : (y : Int) ≤ (c : Int) := by omega
                have hs3 : (0 : Int) ≤ (x : Int) := by omega
                have kc := fun (w : World) (C : Array Value) (n c : Nat) => Lib.run_convert_bytes_const (P := Try.prog) w 22 5 C n c Try.underlying22 Try.underlying5
                obtain ⟨WL, HWL⟩ : ∃ WL, Hid (wlist t x y = WL) := ⟨_, rfl⟩
                have hWL : WL.length = y - x := by rw [← HWL.out]; unfold wlist; rw [List.length_take, List.length_drop]; omega
                have hqt := qt_len WL
                have HXT : Hid (Tx w (some ⟨g, o + x, none⟩) (y - x) (c - x) WL) := by
                  have := (HT.out.tail (s := x) (by omega)).mid (e := y) (by omega) (by omega)
                  rw [add_none] at this
                  rw [← HWL.out]; exact this
                go_wp2_with fail
                refine (rquote_any _ (some ⟨g, o + x, none⟩) (y - x) (c - x) WL (by omega) (HXT.out.keep (bAlloc (Below.refl _ _) _))).mono ?_
                rintro e w2 ⟨vq, rfl, hoq, hbq⟩
                have U2 := Hid.mk' (bT (bAlloc (Below.refl _ w) (.cells #[.int .u8 92, .int .u8 60] 5 (2, 3))) hbq)
                have P0 : Hid (Tx w2 (some ⟨w.heap.size, 0, none⟩) 2 2 [92, 60]) := (tx_lit (l := [92, 60]) (heap_alloc_new w (.cells #[.int .u8 92, .int .u8 60] 5 (2, 3))) rfl (by decide)).keep hbq
                obtain ⟨gq, cq, eq, hcq, hcm⟩ := own_some hoq (by omega)
                subst eq
                have PQ := Hid.mk' (hoq.cells (g := gq) rfl)
                clear hoq hbq HXT hcq hcm
                go_wp2_with (at_builtin; refine wpList_append_grows w2 rfl (.tmp 79) (.tmp 84) 22 rfl 5 i0 (.int .u8 0) 1 1 Try.underlying22 hi hz0 hz1 hz2 rfl (by decide) (some ⟨w.heap.size, 0, none⟩) 2 2 (bv [92, 60]) rfl (fun h => by cases h) rfl (fun b hb => by injection hb with hb; subst hb; exact tx_cells P0.out) ⟨gq, 0, none⟩ (qt WL).length cq (bv (qt WL)) rfl (by rw [bv_length, Nat.mul_one]) PQ.out (bv_one _) (by omega) (by unfold maxLen; omega) (by omega) ?_)
                intro v3 w3 hown hgrow
                have O3 := Hid.mk' (own_lower hown U2.out.size)
                have U3 : Hid (Below w.heap.size w w3) := bT U2.out ((Below.refl _ _).grown hgrow (Nat.le_refl _) (fun k hk => by cases hk))
                obtain ⟨a3, c3, e3⟩ := own_shape hown
                subst e3
                clear hown hgrow P0 PQ U2
                go_wp2_with (at_builtin; refine append_srv rfl (.tmp 86) (.tmp 87) 22 rfl w.heap.size 5 i0 (.int .u8 0) 1 1 Try.underlying22 hi hz0 hz1 hz2 rfl (by decide) _ _ _ rfl (O3.out.alloc _) (.slice (some ⟨w3.heap.size, 0, none⟩) 2 2) 2 [.int .u8 92, .int .u8 62] rfl (.inr ⟨⟨w3.heap.size, 0, none⟩, 2, rfl, fun k u hk => lit_cells w3 _ 5 k u hk⟩) rfl (by intro u hu; simp at hu; rcases hu with hu | hu <;> (subst hu; rfl)) (by unfold maxLen; omega) (by omega) (bAlloc U3.out _).size ?_)
                intro v5 w5 hown hgrow _
                have hul : (upat WL).length = 2 + (qt WL).length + 2 := by unfold upat; simp; omega
                have hue : bv [92, 60] ++ (bv (qt WL) ++ [.int .u8 92, .int .u8 62]) = bv (upat WL) := by unfold upat; rw [bv_append, bv_append, List.append_assoc]; rfl
                try rw [List.append_assoc] at hown
                rw [hue, ← hul] at hown
                have B5 : Hid (Below w.heap.size w w5) := (bAlloc U3.out _).grown hgrow (bAlloc U3.out _).size (fun k hk => (O3.out.lt k hk).1)
                have O5 := Hid.mk' hown
                obtain ⟨a5, c5, e5⟩ := own_shape hown
                subst e5
                obtain ⟨U, HU⟩ : ∃ U, Hid ((upat WL).length = U) := ⟨_, rfl⟩
                rw [HU.out] at O5 ⊢
                clear hown hgrow hul hue hqt hWL O3 U3 kc
                by_cases h256 : 256 < U
                · have h256' : decide ((256 : Int) < (U : Int)) = true := decide_eq_true (by omega)
                  have HR := Hid.mk' h256
                  clear h256
                  go_wp2
                  go_ret2
                  exact ⟨B5.out, .inr (.inr ⟨HP.out, x, y, by rw [Int.toNat_natCast]; exact HS.out, .inl ⟨by rw [HWL.out, HU.out]; exact HR.out, rfl⟩⟩)⟩
                · have h256' : decide ((256 : Int) < (U : Int)) = false := decide_eq_false (by omega)
                  have HR : Hid (U ≤ 256) := by unfold Hid; omega
                  clear h256
                  go_wp2
                  go_ret2
                  exact ⟨B5.out, .inr (.inr ⟨HP.out, x, y, by rw [Int.toNat_natCast]; exact HS.out, .inr ⟨by rw [HWL.out, HU.out]; exact HR.out, _, rfl, by rw [HWL.out, HU.out]; exact O5.out⟩⟩)⟩
        · have hx0' : decide ((0 : Int) < (x : Int)) = true := decide_eq_true (by omega)
          have hx1 : (0 : Int) < (x : Int) := by omega
          have cy := HC.out (x - 1) (by omega)
          have hw3 : IntKind.i64.wrap ((x : Int) - 1) = ((x - 1 : Nat) : Int) := by rw [IntKind.wrap_i64]; omega
          have hx2 : ((x - 1 : Nat) : Int) < (n : Int) := by omega
          obtain ⟨K, HK⟩ : ∃ K, Hid (kd ((at8 t (x - 1)).toNat : Int) false = K) := ⟨_, rfl⟩
          have CK := Hid.mk' (rof_any ((at8 t (x - 1)).toNat : Int) false w)
          rw [HK.out] at CK
          go_wp2_with fail
          refine CK.out.mono ?_
          rintro e w9 ⟨rfl, hw⟩
          have hq := hw.symm
          subst hq
          by_cases hK : K = 2
          · have HY1 : Hid (iwt t (x - 1) = true) := by unfold Hid iwt iwb; rw [HK.out]; exact decide_eq_true hK
            subst hK
            clear CK HK cy
            go_wp2
            go_roundg (x - 1)
            case measure => omega
            case rel =>
              refine ⟨x - 1, rfl, by omega, rfl, fun i i1 i2 => ?_, rfl⟩
              rcases Nat.lt_or_ge i x with h | h
              · rw [show i = x - 1 by omega]; exact HY1.out
              · exact HI.out i h i2
          · have HX0 : Hid (x = 0 ∨ iwt t (x - 1) = false) := .inr (by unfold iwt iwb; rw [HK.out]; exact decide_eq_false hK)
            have hK' : (K == 2) = false := by simpa using hK
            have hKn : (K != 2) = true := by simpa using hK
            clear hK CK HK cy hx2 hw3 hx0
            go_wp2_with fail
            go_loopg [7] (n - x) (fun m x7 wx => ∃ y : Nat, x7 = .int .i64 (y : Int) ∧ x ≤ y ∧ y ≤ n ∧ y + m = n ∧ Hid (∀ i, x ≤ i → i < y → iwt t i = true) ∧ wx = w)
            case atStart => exact ⟨x, rfl, Nat.le_refl _, by omega, by omega, fun i i1 i2 => by omega, rfl⟩
            case round =>
              obtain ⟨y, rfl, hxy0, hyn, hym, HJ, hw⟩ := hrel
              have hq := hw.symm
              subst hq
              by_cases hyl : y = n
              · have hy1 : ¬ ((y : Int) < (n : Int)) := by omega
                have HY0 : Hid (y = n ∨ iwt t y = false) := .inl hyl
                clear hyl
                have HS := Hid.mk' (HWM.out a x y (by omega) han HA0.out HA1.out HAn.out (by omega) HI.out HX0.out (by omega) (by omega) HJ.out HY0.out)
                have hay := HS.out.hi
                have hen := HEN.out
                have hxy : x < y := by obtain ⟨q, _, _, _, _, h5, h6⟩ := HS.out.a; omega
                clear hay hen
                have hcx : ¬ c = x := by omega
                have hs1 : (x : Int) ≤ (y : Int) := by omega
                have hs2 : (y : Int) ≤ (c : Int) := by omega
                have hs3 : (0 : Int) ≤ (x : Int) := by omega
                have kc := fun (w : World) (C : Array Value) (n c : Nat) => Lib.run_convert_bytes_const (P := Try.prog) w 22 5 C n c Try.underlying22 Try.underlying5
                obtain ⟨WL, HWL⟩ : ∃ WL, Hid (wlist t x y = WL) := ⟨_, rfl⟩
                have hWL : WL.length = y - x := by rw [← HWL.out]; unfold wlist; rw [List.length_take, List.length_drop]; omega
                have hqt := qt_len WL
                have HXT : Hid (Tx w (some ⟨g, o + x, none⟩) (y - x) (c - x) WL) := by
                  have := (HT.out.tail (s := x) (by omega)).mid (e := y) (by omega) (by omega)
                  rw [add_none] at this
                  rw [← HWL.out]; exact this
                go_wp2_with fail
                refine (rquote_any _ (some ⟨g, o + x, none⟩) (y - x) (c - x) WL (by omega) (HXT.out.keep (bAlloc (Below.refl _ _) _))).mono ?_
                rintro e w2 ⟨vq, rfl, hoq, hbq⟩
                have U2 := Hid.mk' (bT (bAlloc (Below.refl _ w) (.cells #[.int .u8 92, .int .u8 60] 5 (2, 3))) hbq)
                have P0 : Hid (Tx w2 (some ⟨w.heap.size, 0, none⟩) 2 2 [92, 60]) := (tx_lit (l := [92, 60]) (heap_alloc_new w (.cells #[.int .u8 92, .int .u8 60] 5 (2, 3))) rfl (by decide)).keep hbq
                obtain ⟨gq, cq, eq, hcq, hcm⟩ := own_some hoq (by omega)
                subst eq
                have PQ := Hid.mk' (hoq.cells (g := gq) rfl)
                clear hoq hbq HXT hcq hcm
                go_wp2_with (at_builtin; refine wpList_append_grows w2 rfl (.tmp 79) (.tmp 84) 22 rfl 5 i0 (.int .u8 0) 1 1 Try.underlying22 hi hz0 hz1 hz2 rfl (by decide) (some ⟨w.heap.size, 0, none⟩) 2 2 (bv [92, 60]) rfl (fun h => by cases h) rfl (fun b hb => by injection hb with hb; subst hb; exact tx_cells P0.out) ⟨gq, 0, none⟩ (qt WL).length cq (bv (qt WL)) rfl (by rw [bv_length, Nat.mul_one]) PQ.out (bv_one _) (by omega) (by unfold maxLen; omega) (by omega) ?_)
                intro v3 w3 hown hgrow
                have O3 := Hid.mk' (own_lower hown U2.out.size)
                have U3 : Hid (Below w.heap.size w w3) := bT U2.out ((Below.refl _ _).grown hgrow (Nat.le_refl _) (fun k hk => by cases hk))
                obtain ⟨a3, c3, e3⟩ := own_shape hown
                subst e3
                clear hown hgrow P0 PQ U2
                go_wp2_with (at_builtin; refine append_srv rfl (.tmp 86) (.tmp 87) 22 rfl w.heap.size 5 i0 (.int .u8 0) 1 1 Try.underlying22 hi hz0 hz1 hz2 rfl (by decide) _ _ _ rfl (O3.out.alloc _) (.slice (some ⟨w3.heap.size, 0, none⟩) 2 2) 2 [.int .u8 92, .int .u8 62] rfl (.inr ⟨⟨w3.heap.size, 0, none⟩, 2, rfl, fun k u hk => lit_cells w3 _ 5 k u hk⟩) rfl (by intro u hu; simp at hu; rcases hu with hu | hu <;> (subst hu; rfl)) (by unfold maxLen; omega) (by omega) (bAlloc U3.out _).size ?_)
                intro v5 w5 hown hgrow _
                have hul : (upat WL).length = 2 + (qt WL).length + 2 := by unfold upat; simp; omega
                have hue : bv [92, 60] ++ (bv (qt WL) ++ [.int .u8 92, .int .u8 62]) = bv (upat WL) := by unfold upat; rw [bv_append, bv_append, List.append_assoc]; rfl
                try rw [List.append_assoc] at hown
                rw [hue, ← hul] at hown
                have B5 : Hid (Below w.heap.size w w5) := (bAlloc U3.out _).grown hgrow (bAlloc U3.out _).size (fun k hk => (O3.out.lt k hk).1)
                have O5 := Hid.mk' hown
                obtain ⟨a5, c5, e5⟩ := own_shape hown
                subst e5
                obtain ⟨U, HU⟩ : ∃ U, Hid ((upat WL).length = U) := ⟨_, rfl⟩
                rw [HU.out] at O5 ⊢
                clear hown hgrow hul hue hqt hWL O3 U3 kc
                by_cases h256 : 256 < U
                · have h256' : decide ((256 : Int) < (U : Int)) = true := decide_eq_true (by omega)
                  have HR := Hid.mk' h256
                  clear h256
                  go_wp2
                  go_ret2
                  exact ⟨B5.out, .inr (.inr ⟨HP.out, x, y, by rw [Int.toNat_natCast]; exact HS.out, .inl ⟨by rw [HWL.out, HU.out]; exact HR.out, rfl⟩⟩)⟩
                · have h256' : decide ((256 : Int) < (U : Int)) = false := decide_eq_false (by omega)
                  have HR : Hid (U ≤ 256) := by unfold Hid; omega
                  clear h256
                  go_wp2
                  go_ret2
                  exact ⟨B5.out, .inr (.inr ⟨HP.out, x, y, by rw [Int.toNat_natCast]; exact HS.out, .inr ⟨by rw [HWL.out, HU.out]; exact HR.out, _, rfl, by rw [HWL.out, HU.out]; exact O5.out⟩⟩)⟩
              · have hy1 : ((y : Int) < (n : Int)) := by omega
                have cy := HC.out y (by omega)
                obtain ⟨K, HK⟩ : ∃ K, Hid (kd ((at8 t y).toNat : Int) false = K) := ⟨_, rfl⟩
                have CK := Hid.mk' (rof_any ((at8 t y).toNat : Int) false w)
                rw [HK.out] at CK
                go_wp2_with fail
                refine CK.out.mono ?_
                rintro e w9 ⟨rfl, hw⟩
                have hq := hw.symm
                subst hq
                by_cases hK : K = 2
                · have HY1 : Hid (iwt t y = true) := by unfold Hid iwt iwb; rw [HK.out]; exact decide_eq_true hK
                  subst hK
                  clear CK HK cy
                  go_wp2
                  go_roundg (n - (y + 1))
                  case measure => omega
                  case rel =>
                    refine ⟨y + 1, by go_num, by omega, by omega, by omega, fun i i1 i2 => ?_, rfl⟩
                    rcases Nat.lt_or_ge i y with h | h
                    · exact HJ.out i i1 h
                    · rw [show i = y by omega]; exact HY1.out
                · have HY0 : Hid (y = n ∨ iwt t y = false) := .inr (by unfold iwt iwb; rw [HK.out]; exact decide_eq_false hK)
                  have hK' : (K == 2) = false := by simpa using hK
                  have hKn : (K != 2) = true := by simpa using hK
                  clear hK CK HK cy hyl
                  have HS := Hid.mk' (HWM.out a x y (by omega) han HA0.out HA1.out HAn.out (by omega) HI.out HX0.out (by omega) (by omega) HJ.out HY0.out)
                  have hay := HS.out.hi
                  have hen := HEN.out
                  have hxy : x < y := by obtain ⟨q, _, _, _, _, h5, h6⟩ := HS.out.a; omega
                  clear hay hen
                  have hcx : ¬ c = x := by omega
                  have hs1 : (x : Int) ≤ (y : Int) := by omega
                  have hs2 : (y : Int) ≤ (c : Int) := by omega
                  have hs3 : (0 : Int) ≤ (x : Int) := by omega
                  have kc := fun (w : World) (C : Array Value) (n c : Nat) => Lib.run_convert_bytes_const (P := Try.prog) w 22 5 C n c Try.underlying22 Try.underlying5
                  obtain ⟨WL, HWL⟩ : ∃ WL, Hid (wlist t x y = WL) := ⟨_, rfl⟩
                  have hWL : WL.length = y - x := by rw [← HWL.out]; unfold wlist; rw [List.length_take, List.length_drop]; omega
                  have hqt := qt_len WL
                  have HXT : Hid (Tx w (some ⟨g, o + x, none⟩) (y - x) (c - x) WL) := by
                    have := (HT.out.tail (s := x) (by omega)).mid (e := y) (by omega) (by omega)
                    rw [add_none] at this
                    rw [← HWL.out]; exact this
                  go_wp2_with fail
                  refine (rquote_any _ (some ⟨g, o + x, none⟩) (y - x) (c - x) WL (by omega) (HXT.out.keep (bAlloc (Below.refl _ _) _))).mono ?_
                  rintro e w2 ⟨vq, rfl, hoq, hbq⟩
                  have U2 := Hid.mk' (bT (bAlloc (Below.refl _ w) (.cells #[.int .u8 92, .int .u8 60] 5 (2, 3))) hbq)
                  have P0 : Hid (Tx w2 (some ⟨w.heap.size, 0, none⟩) 2 2 [92, 60]) := (tx_lit (l := [92, 60]) (heap_alloc_new w (.cells #[.int .u8 92, .int .u8 60] 5 (2, 3))) rfl (by decide)).keep hbq
                  obtain ⟨gq, cq, eq, hcq, hcm⟩ := own_some hoq (by omega)
                  subst eq
                  have PQ := Hid.mk' (hoq.cells (g := gq) rfl)
                  clear hoq hbq HXT hcq hcm
                  go_wp2_with (at_builtin; refine wpList_append_grows w2 rfl (.tmp 79) (.tmp 84) 22 rfl 5 i0 (.int .u8 0) 1 1 Try.underlying22 hi hz0 hz1 hz2 rfl (by decide) (some ⟨w.heap.size, 0, none⟩) 2 2 (bv [92, 60]) rfl (fun h => by cases h) rfl (fun b hb => by injection hb with hb; subst hb; exact tx_cells P0.out) ⟨gq, 0, none⟩ (qt WL).length cq (bv (qt WL)) rfl (by rw [bv_length, Nat.mul_one]) PQ.out (bv_one _) (by omega) (by unfold maxLen; omega) (by omega) ?_)
                  intro v3 w3 hown hgrow
                  have O3 := Hid.mk' (own_lower hown U2.out.size)
                  have U3 : Hid (Below w.heap.size w w3) := bT U2.out ((Below.refl _ _).grown hgrow (Nat.le_refl _) (fun k hk => by cases hk))
                  obtain ⟨a3, c3, e3⟩ := own_shape hown
                  subst e3
                  clear hown hgrow P0 PQ U2
                  go_wp2_with (at_builtin; refine append_srv rfl (.tmp 86) (.tmp 87) 22 rfl w.heap.size 5 i0 (.int .u8 0) 1 1 Try.underlying22 hi hz0 hz1 hz2 rfl (by decide) _ _ _ rfl (O3.out.alloc _) (.slice (some ⟨w3.heap.size, 0, none⟩) 2 2) 2 [.int .u8 92, .int .u8 62] rfl (.inr ⟨⟨w3.heap.size, 0, none⟩, 2, rfl, fun k u hk => lit_cells w3 _ 5 k u hk⟩) rfl (by intro u hu; simp at hu; rcases hu with hu | hu <;> (subst hu; rfl)) (by unfold maxLen; omega) (by omega) (bAlloc U3.out _).size ?_)
                  intro v5 w5 hown hgrow _
                  have hul : (upat WL).length = 2 + (qt WL).length + 2 := by unfold upat; simp; omega
                  have hue : bv [92, 60] ++ (bv (qt WL) ++ [.int .u8 92, .int .u8 62]) = bv (upat WL) := by unfold upat; rw [bv_append, bv_append, List.append_assoc]; rfl
                  try rw [List.append_assoc] at hown
                  rw [hue, ← hul] at hown
                  have B5 : Hid (Below w.heap.size w w5) := (bAlloc U3.out _).grown hgrow (bAlloc U3.out _).size (fun k hk => (O3.out.lt k hk).1)
                  have O5 := Hid.mk' hown
                  obtain ⟨a5, c5, e5⟩ := own_shape hown
                  subst e5
                  obtain ⟨U, HU⟩ : ∃ U, Hid ((upat WL).length = U) := ⟨_, rfl⟩
                  rw [HU.out] at O5 ⊢
                  clear hown hgrow hul hue hqt hWL O3 U3 kc
                  by_cases h256 : 256 < U
                  · have h256' : decide ((256 : Int) < (U : Int)) = true := decide_eq_true (by omega)
                    have HR := Hid.mk' h256
                    clear h256
                    go_wp2
                    go_ret2
                    exact ⟨B5.out, .inr (.inr ⟨HP.out, x, y, by rw [Int.toNat_natCast]; exact HS.out, .inl ⟨by rw [HWL.out, HU.out]; exact HR.out, rfl⟩⟩)⟩
                  · have h256' : decide ((256 : Int) < (U : Int)) = false := decide_eq_false (by omega)
                    have HR : Hid (U ≤ 256) := by unfold Hid; omega
                    clear h256
                    go_wp2
                    go_ret2
                    exact ⟨B5.out, .inr (.inr ⟨HP.out, x, y, by rw [Int.toNat_natCast]; exact HS.out, .inr ⟨by rw [HWL.out, HU.out]; exact HR.out, _, rfl, by rw [HWL.out, HU.out]; exact O5.out⟩⟩)⟩
    · have HY1 : Hid (iwt t a = false) := by unfold Hid iwt iwb; rw [HK.out]; exact decide_eq_false hK
      have hK' : (K == 2) = false := by simpa using hK
      have hKn : (K != 2) = true := by simpa using hK
      clear hK CK HK
      go_wp2
      go_roundg (n - (a + 1))
      case measure => omega
      case rel =>
        refine ⟨a + 1, by go_num, by omega, by omega, fun i i1 i2 => ?_, rfl⟩
        rcases Nat.lt_or_ge i a with h | h
        · exact HA0.out i i1 h
        · rw [show i = a by omega]; exact ⟨HAn.out, HY1.out⟩
end Go.Proofs.Ytaakgoojcogbcaa
