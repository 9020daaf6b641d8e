/- PatternAlls, walked, out of the contract of the reference's search. -/
import Derived.Test.YtaakgoojcogbcaaXp
namespace Go.Proofs.Ytaakgoojcogbcaa
open Go.RowKit
/-- pairs that can be read -/
def Prs (W : World) (ao : Option Addr) (xs : List (Nat × Nat)) : Prop := ∀ j u, (pvs xs)[j]? = some u → ∃ g, ao = some ⟨g, 0, none⟩ ∧ W.cell? ⟨g, j, none⟩ = some u
theorem prs_own {W : World} {base : Nat} {ao : Option Addr} {c : Nat} {xs : List (Nat × Nat)} (h : W.ownsRow base 37 2 (.slice ao xs.length c) xs.length (pvs xs)) : Prs W ao xs := by
  intro j u hj
  have : 0 < xs.length := by
    rcases Nat.eq_zero_or_pos xs.length with h | h
    · rw [List.eq_nil_of_length_eq_zero h] at hj; simp [pvs] at hj
    · exact h
  obtain ⟨g5, c6, e6, _, _⟩ := own_some h this
  injection e6 with e6 _ _
  subst e6
  exact ⟨g5, rfl, row_cell h hj⟩
set_option maxRecDepth 8000 in
set_option maxHeartbeats 4000000 in
theorem same_any (W : World) (a1 : Option Addr) (c1 : Nat) (a2 : Option Addr) (c2 : Nat) (xs : List (Nat × Nat)) (hx : xs.length ≤ 100000) (H1 : Hid (Prs W a1 xs)) (H2 : Hid (Prs W a2 xs)) :
    Calls Try.prog 17 #[.slice a1 xs.length c1, .slice a2 xs.length c2] W fun e W' => e = .returned (.bool true) ∧ Below W.heap.size W W' := by
  have hxI : (xs.length : Int) ≤ 100000 := by omega
  go_enter Try.func17, Try.ntmps17
  go_wp2_with fail
  go_loopg [5] xs.length (fun m x5 wx => ∃ i : Nat, x5 = .int .i64 (i : Int) ∧ i + m = xs.length ∧ Hid (Below W.heap.size W wx))
  case atStart => exact ⟨0, rfl, by omega, Below.refl _ _⟩
  case round =>
    obtain ⟨i, rfl, him, HB⟩ := hrel
    cases gk with
    | zero =>
      have hin : ¬ ((i : Int) < (xs.length : Int)) := by omega
      go_wp2
      go_ret
      exact ⟨rfl, HB.out⟩
    | succ m =>
      have hin : (i : Int) < (xs.length : Int) := by omega
      have hiN : i < xs.length := by omega
      obtain ⟨⟨a, b⟩, hxi⟩ : ∃ x, xs[i]? = some x := ⟨xs[i], List.getElem?_eq_getElem hiN⟩
      obtain ⟨p1, p2⟩ := pvs_at xs hxi
      obtain ⟨g1, e1, r1⟩ := H1.out _ _ p1
      subst e1
      obtain ⟨g1', e1, r2⟩ := H1.out _ _ p2
      injection e1 with e1; injection e1 with e1 _ _; subst e1
      obtain ⟨g2, e2, s1⟩ := H2.out _ _ p1
      subst e2
      obtain ⟨g2', e2, s2⟩ := H2.out _ _ p2
      injection e2 with e2; injection e2 with e2 _ _; subst e2
      replace r1 := keepC HB.out r1
      replace r2 := keepC HB.out r2
      replace s1 := keepC HB.out s1
      replace s2 := keepC HB.out s2
      have q41 := eq41 (a : Int) (b : Int)
      clear p1 p2 hxi
      go_wp2_with fail
      go_quiet (fail)
      go_wp2_with fail
      go_roundg m
      case measure => omega
      case rel => exact ⟨i + 1, by go_num, by omega, bT HB.out (bDrewN _ _)⟩
theorem own_grow {W W' : World} {row : Option Nat} {base e s n : Nat} {v : Value} {xs : List Value} (h : W.ownsRow base e s v n xs) (hg : W.grownBy W' row) (hne : ∀ g, v.ownBlock = some g → row ≠ some g) : W'.ownsRow base e s v n xs :=
  own_same h fun g hgg => hg.block g (own_lt h hgg) (fun e => hne g hgg e.symm)
theorem own_upd {W : World} {base e s n g c j : Nat} {u : Value} {ys : List Value} (h : W.ownsRow base e s (.slice (some ⟨g, 0, none⟩) n c) n ys) : ∃ ys', (W.setCell ⟨g, j, none⟩ u).ownsRow base e s (.slice (some ⟨g, 0, none⟩) n c) n ys' := by
  rcases h.2 with ⟨e1, _⟩ | ⟨g', cap, cur, e1, h3, h4, h5, h6, h7, h8⟩
  · cases e1
  · injection e1 with e1 _ e2
    injection e1 with e1
    injection e1 with e1 _ _
    subst e1 e2
    refine ⟨((cur.setIfInBounds j u).toList.take (n * s)), ?_, .inr ⟨g, c, cur.setIfInBounds j u, rfl, h3, heap_setCell_same _ _ _ _ _ _ h4, h5, h6, by simpa using h7, rfl⟩⟩
    rw [List.length_take]
    have := h.1
    rw [← h8, List.length_take] at this
    simpa using this
theorem own_cell {W : World} {base e s n g c j : Nat} {ys : List Value} (h : W.ownsRow base e s (.slice (some ⟨g, 0, none⟩) n c) n ys) (hj : j < n * s) : (∃ u, W.cell? ⟨g, j, none⟩ = some u) ∧ W.frozen? ⟨g, j, none⟩ = false := by
  have hl := h.1
  refine ⟨⟨ys[j]'(by omega), row_cell h (List.getElem?_eq_getElem (by omega))⟩, ?_⟩
  rcases h.2 with ⟨e, _⟩ | ⟨g', cap, cur, e1, h3, h4, _⟩
  · cases e
  · injection e1 with e1 _ _
    injection e1 with e1
    injection e1 with e1 _ _
    subst e1
    exact frozen_of_row _ _ _ _ _ h4
theorem own_base {W : World} {base e s n : Nat} {v : Value} {xs : List Value} (h : W.ownsRow base e s v n xs) {g : Nat} (hg : v.ownBlock = some g) : base ≤ g := by
  rcases h.2 with ⟨e1, _⟩ | ⟨g', cap, cur, e1, h3, h4, h5⟩
  · rw [e1] at hg; cases hg
  · rw [e1] at hg
    have : g' = g := by simpa [Value.ownBlock] using hg
    subst this; exact h3

set_option maxRecDepth 8000 in
set_option maxHeartbeats 16000000 in
theorem patternAlls_walk (HSC : SearchC) (w : World) (ap : Option Addr) (np cp_ : Nat) (al : Option Addr) (nl cl : Nat) (p line : List UInt8) (HP : Hid (Tx w ap np cp_ p)) (HL : Hid (Tx w al nl cl line)) :
    Calls Try.prog 4 #[.slice ap np cp_, .slice al nl cl] w fun e w' => e = .returned (.bool true) ∧ Below w.heap.size w w' := by
  obtain ⟨i0, hi, hz0, hz1, hz2⟩ : ∃ i, Try.prog.info? 37 = some i ∧ i.zero = some (.agg #[.int .i64 0, .int .i64 0]) ∧ i.size = 2 ∧ i.bytes = 16 := by
    have := info41
    cases h : Try.prog.info? 37 with
    | none => rw [h] at this; cases this
    | some i => rw [h] at this; simp at this; exact ⟨i, rfl, this.1, this.2.1, this.2.2⟩
  have hlen := HL.out.len
  go_enter Try.func4, Try.ntmps4
  go_wp2_with (go_at_call 11; refine (alive_any _).mono ?_; rintro e w1 ⟨rfl, hb1⟩; have B1 := Hid.mk' hb1; clear hb1)
  refine (compile_any ap np cp_ p w1 (HP.out.keep B1.out)).mono ?_
  intro e w3 hC
  obtain ⟨hb3, h | h | h⟩ := hC
  · obtain ⟨_, rfl⟩ := h
    have B3 := Hid.mk' (bT B1.out hb3)
    go_wp2_with (go_at_call 15; refine (all_nil _ _ _ _).mono ?_; rintro e w9 ⟨rfl, hw⟩; subst hw)
    go_ret
    exact ⟨rfl, B3.out⟩
  · obtain ⟨_, hc, rfl⟩ := h
    have B3 := Hid.mk' (bT B1.out hb3)
    go_wp2_with (go_at_call 15; refine (all_nil _ _ _ _).mono ?_; rintro e w9 ⟨rfl, hw⟩; subst hw)
    go_ret
    exact ⟨rfl, B3.out⟩
  · obtain ⟨h256, hok, hl, P, rfl, hP⟩ := h
    have B3 := Hid.mk' (bT B1.out hb3)
    have HPt := Hid.mk' hP
    have HOK := Hid.mk' (And.intro h256 hok)
    clear hb3 hP B1
    obtain ⟨L, HLL⟩ : ∃ l, Hid ((cmp p).2 = l) := ⟨_, rfl⟩
    rw [HLL.out] at HPt hl
    have hL : L.length ≤ 256 := by omega
    clear h256 hok
    by_cases hbig : 65536 < nl
    · have hbig' : (65536 : Int) < (nl : Int) := by omega
      go_wp2
      go_ret
      exact ⟨rfl, B3.out⟩
    · have hbig' : ¬ ((65536 : Int) < (nl : Int)) := by omega
      have hbigd : decide ((65536 : Int) < (nl : Int)) = false := decide_eq_false hbig'
      go_wp2_with fail
      refine (rallS_any HSC w3 ap np cp_ p al nl cl line (by omega) HOK.out (HP.out.keep B3.out) (HL.out.keep B3.out)).mono ?_
      rintro e w4 ⟨hb4, v4, xs, rfl, hxl, hown4, har4⟩
      have har := har4 HOK.out
      rw [HLL.out] at har
      have HAR := Hid.mk' har
      obtain ⟨aw, cw, e4⟩ := own_shape hown4
      subst e4
      have B4 := Hid.mk' (bT B3.out hb4)
      have HP4 := Hid.mk' (HPt.out.keep hb4)
      have HW4 := Hid.mk' hown4
      clear hb4 hown4 har4 har HPt B3
      go_wp2_with fail
      refine (all_any _ w4 P L al nl cl line (by omega) hL HP4 (HL.out.keep B4.out)).mono ?_
      rintro e w5 ⟨v5, xs5, rfl, hAR5, _, hown5, hb5⟩
      have e5 := hAR5.one HAR.out
      subst e5
      obtain ⟨aa, ca, e5⟩ := own_shape hown5
      subst e5
      have B5 := Hid.mk' (bT B4.out hb5)
      have L45 := Hid.mk' hb5
      have HP5 := Hid.mk' (HP4.out.keep hb5)
      have HW5 := Hid.mk' (own_keep HW4.out hb5)
      have HA5 := Hid.mk' hown5
      clear hb5 hown5 hAR5
      go_wp2_with fail
      refine (all_any _ w5 P L al nl cl line (by omega) hL HP5 (HL.out.keep B5.out)).mono ?_
      rintro e w6 ⟨v6, xs6, rfl, hAR6, _, hown6, hb6⟩
      have e6 := hAR6.one HAR.out
      subst e6
      obtain ⟨ab, cb, e6⟩ := own_shape hown6
      subst e6
      have B6 := Hid.mk' (bT B5.out hb6)
      have L46 := Hid.mk' (bT L45.out hb6)
      have HW6 := Hid.mk' (own_keep HW5.out hb6)
      have HA6 := Hid.mk' (own_keep HA5.out hb6)
      have HB6 := Hid.mk' hown6
      have hs45 : w4.heap.size ≤ w5.heap.size := L45.out.size
      have hs56 : w5.heap.size ≤ w6.heap.size := hb6.size
      have HFar := Hid.mk' (fun g (h1 : (Value.slice aa xs6.length ca).ownBlock = some g) (h2 : (Value.slice ab xs6.length cb).ownBlock = some g) => (show False by
        have := own_lt HA5.out h1
        have := own_base hown6 h2
        omega))
      clear hb6 hown6 hAR6
      have CS1 := Hid.mk' (same_any w6 aa ca aw cw xs6 (by omega) (prs_own HA6.out) (prs_own HW6.out))
      go_wp2_with fail
      refine CS1.out.mono ?_
      rintro e w7 ⟨rfl, hb7⟩
      have CS2 := Hid.mk' (same_any w7 ab cb aw cw xs6 (by omega) (prs_own (own_keep HB6.out hb7)) (prs_own (own_keep HW6.out hb7)))
      go_wp2_with fail
      refine CS2.out.mono ?_
      rintro e w8 ⟨rfl, hb8⟩
      have L68 := Hid.mk' (bT hb7 hb8)
      clear hb7 hb8 CS1 CS2
      have L48 := Hid.mk' (bT L46.out L68.out)
      have HB8 := Hid.mk' (own_keep HB6.out L68.out)
      have HA8 := Hid.mk' (own_keep HA6.out L68.out)
      have hxI : (xs6.length : Int) ≤ 65537 := by omega
      go_wp2_with fail
      go_loopg [11] xs6.length (fun m x11 wx => ∃ i : Nat, x11 = .int .i64 (i : Int) ∧ i + m = xs6.length ∧ Hid (Below w4.heap.size w4 wx) ∧ Hid (wx.ownsRow w5.heap.size 37 2 (.slice ab xs6.length cb) xs6.length (pvs xs6)) ∧ Hid (∃ ys, wx.ownsRow w4.heap.size 37 2 (.slice aa xs6.length ca) xs6.length ys))
      case atStart => exact ⟨0, rfl, by omega, L48.out, HB8.out, ⟨_, HA8.out⟩⟩
      case round =>
        clear HB8 HA8 L48 L68
        obtain ⟨i, rfl, him, L4, HB, HA⟩ := hrel
        cases gk with
        | succ m =>
          have hin : (i : Int) < (xs6.length : Int) := by omega
          obtain ⟨ys, hys⟩ := HA.out
          obtain ⟨ga, cc, ega, _, _⟩ := own_some hys (by omega)
          injection ega with ega _ egc
          subst ega egc
          obtain ⟨⟨u1, k1⟩, z1⟩ := own_cell hys (j := i * 2) (by omega)
          obtain ⟨⟨u2, k2⟩, z2⟩ := own_cell hys (j := i * 2 + 1) (by omega)
          have HA9 : Hid (∃ ys, ((wr.setCell ⟨ga, i * 2, none⟩ (.int .i64 (-1))).setCell ⟨ga, i * 2 + 1, none⟩ (.int .i64 (-1))).ownsRow w4.heap.size 37 2 (.slice (some ⟨ga, 0, none⟩) xs6.length ca) xs6.length ys) := by
            obtain ⟨y1, h1⟩ := own_upd (j := i * 2) (u := .int .i64 (-1)) hys
            exact own_upd h1
          have hne : (Value.slice ab xs6.length cb).ownBlock ≠ some ga := fun h => HFar.out ga rfl h
          have HB9 : Hid (((wr.setCell ⟨ga, i * 2, none⟩ (.int .i64 (-1))).setCell ⟨ga, i * 2 + 1, none⟩ (.int .i64 (-1))).ownsRow w5.heap.size 37 2 (.slice ab xs6.length cb) xs6.length (pvs xs6)) := own_setCell (own_setCell HB.out hne) hne
          have hba := own_base hys (g := ga) rfl
          have L9 : Hid (Below w4.heap.size w4 ((wr.setCell ⟨ga, i * 2, none⟩ (.int .i64 (-1))).setCell ⟨ga, i * 2 + 1, none⟩ (.int .i64 (-1)))) := (L4.out.setCell hba _).setCell hba _
          clear HA HB L4 hys hne
          go_wp2
          go_roundg m
          case measure => omega
          case rel => exact ⟨i + 1, by go_num, by omega, L9.out, HB9.out, HA9.out⟩
        | zero =>
          have hin : ¬ ((i : Int) < (xs6.length : Int)) := by omega
          go_wp2_with fail
          go_loopg [9, 12] 10 (fun m x9 x12 wx => ∃ (j : Nat) (va : Value), x9 = va ∧ x12 = .int .i64 (j : Int) ∧ j + m = 10 ∧ Hid (Below w4.heap.size w4 wx) ∧ Hid (wx.ownsRow w5.heap.size 37 2 (.slice ab xs6.length cb) xs6.length (pvs xs6)) ∧ Hid (∃ ys, wx.ownsRow w4.heap.size 37 2 va (xs6.length + j) ys) ∧ Hid (∀ g, va.ownBlock = some g → (Value.slice ab xs6.length cb).ownBlock = some g → False))
          case atStart => exact ⟨0, _, rfl, rfl, rfl, L4.out, HB.out, HA.out, HFar.out⟩
          case round =>
            clear HB HA L4 HFar
            obtain ⟨j, va, rfl, rfl, hjm, L4, HB, HA, HFar⟩ := hrel
            obtain ⟨ys, hys⟩ := HA.out
            obtain ⟨av, cv, ev⟩ := own_shape hys
            subst ev
            cases gk with
            | succ m =>
              have hj : (j : Int) < 10 := by omega
              have HY := Hid.mk' hys
              clear HA hys
              go_wp2_with (first | (at_builtin; refine append_srv rfl (.tmp 68) (.tmp 70) 33 rfl w4.heap.size 37 i0 (.agg #[.int .i64 0, .int .i64 0]) 2 16 Try.underlying33 hi hz0 hz1 hz2 rfl (by decide) (.slice av (xs6.length + j) cv) (xs6.length + j) ys rfl (HY.out.alloc _) (.slice (some ⟨wr.heap.size, 0, none⟩) 1 1) 1 [.int .i64 (-2), .int .i64 (-2)] rfl (.inr ⟨⟨wr.heap.size, 0, none⟩, 1, rfl, fun k u hk => lit_cells wr _ 37 k u hk⟩) rfl (by intro u hu; simp at hu; subst hu; rfl) (by unfold maxLen; omega) (by omega) (bAlloc L4.out _).size ?_))
              intro v9 w9 hown hgrow hfr
              have L9 : Hid (Below w4.heap.size w4 w9) := (bAlloc L4.out _).grown hgrow (bAlloc L4.out _).size (fun k hk => (HY.out.lt k hk).1)
              have HB9 : Hid (w9.ownsRow w5.heap.size 37 2 (.slice ab xs6.length cb) xs6.length (pvs xs6)) := own_grow (HB.out.alloc _) hgrow (fun g h1 h2 => HFar.out g h2 h1)
              have HF9 : Hid (∀ g, v9.ownBlock = some g → (Value.slice ab xs6.length cb).ownBlock = some g → False) := by
                intro g h1 h2
                rcases hfr with e | ⟨q, e, hq⟩
                · exact HFar.out g (by rw [← e]; exact h1) h2
                · rw [e] at h1
                  injection h1 with h1
                  have := own_lt HB.out h2
                  first | omega | (simp at hq; omega)
              have HA9 : Hid (∃ ys, w9.ownsRow w4.heap.size 37 2 v9 (xs6.length + (j + 1)) ys) := ⟨_, hown⟩
              clear hown hgrow hfr HY HB L4 HFar
              go_wp2
              go_roundg m
              case measure => omega
              case rel => exact ⟨j + 1, v9, rfl, by go_num, by omega, L9.out, HB9.out, HA9.out, HF9.out⟩
            | zero =>
              have hj : ¬ ((j : Int) < 10) := by omega
              have hj10 : ((xs6.length : Int) + (j : Int) == (xs6.length : Int) + 10) = true := by simp; omega
              have CS3 := Hid.mk' (same_any wr ab cb aw cw xs6 (by omega) (prs_own HB.out) (prs_own (own_keep HW4.out L4.out)))
              clear hys HA
              go_wp2_with fail
              refine CS3.out.mono ?_
              rintro e w10 ⟨rfl, hb10⟩
              have L10 := Hid.mk' (bT L4.out hb10)
              clear CS3 hb10
              have CA := Hid.mk' (all_any _ w10 P L al nl cl line (by omega) hL (HP4.out.keep L10.out) (HL.out.keep (bT B4.out L10.out)))
              go_wp2_with fail
              refine CA.out.mono ?_
              rintro e w11 ⟨v11, xs11, rfl, hAR11, _, hown11, hb11⟩
              have e11 := hAR11.one HAR.out
              subst e11
              obtain ⟨a11, c11, e11⟩ := own_shape hown11
              subst e11
              have L11 := Hid.mk' (bT L10.out hb11)
              have CS4 := Hid.mk' (same_any w11 a11 c11 aw cw xs11 (by omega) (prs_own hown11) (prs_own (own_keep HW4.out L11.out)))
              clear hb11 hown11 hAR11 CA
              go_wp2_with fail
              refine CS4.out.mono ?_
              rintro e w12 ⟨rfl, hb12⟩
              have L12 := Hid.mk' (bT B4.out (bT L11.out hb12))
              clear CS4 hb12
              go_wp2
              go_ret
              exact ⟨rfl, L12.out⟩
end Go.Proofs.Ytaakgoojcogbcaa
