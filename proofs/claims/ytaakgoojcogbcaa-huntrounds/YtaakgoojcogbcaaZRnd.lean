/- HuntRounds, walked. -/
import Derived.Test.YtaakgoojcogbcaaXi
namespace Go.Proofs.Ytaakgoojcogbcaa
open Go.RowKit
set_option maxRecDepth 8000 in
set_option maxHeartbeats 16000000 in
theorem huntRounds_walk (w : World) (ao : Option Addr) (n c : Nat) (ap : Option Addr) (np cp_ : Nat) (k C : Int) (b : Bool) (t p : List UInt8) (HT : Hid (Tx w ao n c t)) (HP : Hid (Tx w ap np cp_ p)) :
    Calls Try.prog 7 #[.agg #[.slice ao n c, .slice ap np cp_, .int .i64 k, .int .i64 C, .bool b]] w fun e w' => e = .returned (.bool true) ∧ Below w.heap.size w w' := by
  have hlen := HT.out.len
  have U0 := Hid.mk' (bAlloc (Below.refl _ w) (.cells #[.slice ao n c, .slice ap np cp_, .int .i64 k, .int .i64 C, .bool b] 40))
  have K0 := Hid.mk' (Blk.new w 40 #[.slice ao n c, .slice ap np cp_, .int .i64 k, .int .i64 C, .bool b])
  go_enter Try.func7, Try.ntmps7
  go_wp2_with fail
  refine (awake_any _).mono ?_
  rintro e w1 ⟨rfl, hb1⟩
  have U1 := Hid.mk' (bT U0.out hb1)
  have K1 := Hid.mk' (K0.out.keep hb1)
  clear hb1 U0 K0
  have c0 : w1.cell? ⟨w.heap.size, 0, none⟩ = some (.slice ao n c) := K1.out.cell (j := 0) rfl
  have c1 : w1.cell? ⟨w.heap.size, 1, none⟩ = some (.slice ap np cp_) := K1.out.cell (j := 1) rfl
  have c2 : w1.cell? ⟨w.heap.size, 2, none⟩ = some (.int .i64 k) := K1.out.cell (j := 2) rfl
  have c3 : w1.cell? ⟨w.heap.size, 3, none⟩ = some (.int .i64 C) := K1.out.cell (j := 3) rfl
  have c4 : w1.cell? ⟨w.heap.size, 4, none⟩ = some (.bool b) := K1.out.cell (j := 4) rfl
  go_wp2_with fail
  refine (compiled_any w1 (.slice ao n c) ap np cp_ k C b p (HP.out.keep U1.out)).mono ?_
  rintro e w2 ⟨hb2, hres⟩
  have U2 := Hid.mk' (bT U1.out hb2)
  have K2 := Hid.mk' (K1.out.keep hb2)
  clear hb2 c0 c1 c2 c3 c4 K1
  have c0 : w2.cell? ⟨w.heap.size, 0, none⟩ = some (.slice ao n c) := K2.out.cell (j := 0) rfl
  rcases hres with ⟨hg, hl, P, rfl, hP⟩ | ⟨_, rfl⟩
  · have HLw : Hid (Lw w w2 w.heap.size w1.heap.size P ao n c ap np cp_ k C b t (cmp p).2) := ⟨U2.out, Nat.le_refl _, K2.out, hP, HT.out.keep U2.out⟩
    clear hP K2 U2 c0 hg
    obtain ⟨l, HL⟩ : ∃ l, Hid ((cmp p).2 = l) := ⟨_, rfl⟩
    rw [HL.out] at HLw hl
    have d0 := HLw.out.c0
    have d2 := HLw.out.c2
    by_cases h300 : 300 < n
    · have h300' : decide ((300 : Int) < (n : Int)) = true := decide_eq_true (by omega)
      have HB := Hid.mk' HLw.out.bel
      clear h300
      go_wp2
      go_ret
      exact ⟨rfl, HB.out⟩
    · have h300' : decide ((300 : Int) < (n : Int)) = false := decide_eq_false (by omega)
      have H300 : Hid (n ≤ 300) := by unfold Hid; omega
      clear h300
      go_wp2_with fail
      refine (next_any w1.heap.size w2 P ao n c t l k 1 false hl HLw.out.pat HLw.out.tx).mono ?_
      rintro e w3 ⟨he, hb3⟩
      have L3 := Hid.mk' (HLw.out.keep hb3)
      clear hb3 d0 d2 HLw
      by_cases hok : 0 ≤ k ∧ k ≤ t.length ∧ (0 : Int) ≤ 1 ∧ (1 : Int) ≤ 9999
      · cases hH : okh (hs l t) with
        | false =>
          rw [nx_none hok hH, tg_def] at he
          subst he
          clear hok
          go_wp2
          go_ret
          exact ⟨rfl, bAlloc L3.out.bel _⟩
        | true =>
          rw [nx_yes hok hH, tg_def] at he
          subst he
          obtain ⟨kn, rfl⟩ : ∃ j : Nat, k = (j : Int) := ⟨k.toNat, by omega⟩
          have hkn : kn ≤ t.length := by omega
          have h0 := okh_pos hH
          have HH := Hid.mk' hH
          rw [show (max (1 : Int) 1).toNat = 1 from rfl, Int.toNat_natCast, show itr (wy false (hs l t)) 1 kn = fwd (hs l t) kn from rfl]
          obtain ⟨X, HX⟩ : ∃ X, Hid (fwd (hs l t) kn = X) := ⟨_, rfl⟩
          have hXl : X ≤ t.length := by rw [← HX.out]; exact fwd_len l t kn
          rw [HX.out]
          obtain ⟨i0, HI0⟩ : ∃ i, Hid (X = (hs l t).getD (i % (hs l t).length) 0) := by rw [← HX.out]; exact ⟨_, rfl⟩
          have hhl := hs_len l t
          clear hok hH
          go_wp2_with fail
          have K5 := Hid.mk' (Blk.new w3 42 #[.int .i64 (kn : Int), .int .i64 (X : Int), .int .i64 1])
          have L5 := Hid.mk' (L3.out.keep (bAlloc (Below.refl _ _) (.cells #[.int .i64 (kn : Int), .int .i64 (X : Int), .int .i64 1] 42)))
          obtain ⟨b5, HB5⟩ : ∃ b5, Hid (w3.heap.size = b5) := ⟨_, rfl⟩
          rw [HB5.out] at K5 ⊢
          generalize w3.alloc (.cells #[.int .i64 (kn : Int), .int .i64 (X : Int), .int .i64 1] 42) = w5 at *
          clear L3 HB5
          have e1 : w5.cell? ⟨b5, 1, none⟩ = some (.int .i64 (X : Int)) := K5.out.cell (j := 1) rfl
          go_quiet (fail)
          have L6 := Hid.mk' (L5.out.keep (bDrewN _ nq))
          have K6 := Hid.mk' (K5.out.keep (bDrewN _ nq))
          clear L5 K5 e1
          generalize w5.drewN nq = w6 at *
          go_wp2_with fail
          go_loopg [7, 8, 9, 10] ((hs l t).length - 0) (fun m x7 x8 x9 x10 wx => ∃ j : Nat, x7 = .int .i64 (j : Int) ∧ x8 = .int .i64 (itr (fwd (hs l t)) j X : Int) ∧ j < (hs l t).length ∧ m = (hs l t).length - j ∧ Hid (Lw w wx w.heap.size w1.heap.size P ao n c ap np cp_ (kn : Int) C b t l) ∧ Hid (Blk wx b5 42 #[.int .i64 (kn : Int), .int .i64 (X : Int), .int .i64 1]))
          case atStart => exact ⟨0, rfl, rfl, h0, rfl, L6.out, K6.out⟩
          case round =>
            clear L6 K6
            obtain ⟨j, rfl, rfl, hj, hm, L6, K6⟩ := hrel
            have d0 := L6.out.c0
            have hYl : itr (fwd (hs l t)) j X ≤ t.length := by
              cases j with
              | zero => exact hXl
              | succ j => exact wy_itr_len false l t j X
            have HY1 : Hid (fwd (hs l t) (itr (fwd (hs l t)) j X) = itr (fwd (hs l t)) (j + 1) X) := (itr_succ _ _ _).symm
            obtain ⟨Y, HY⟩ : ∃ Y, Hid (itr (fwd (hs l t)) j X = Y) := ⟨_, rfl⟩
            rw [HY.out] at hYl HY1 ⊢
            have CN := Hid.mk' (next_any w1.heap.size wr P ao n c t l (Y : Int) 1 false hl L6.out.pat L6.out.tx)
            rw [show nxE l t (Y : Int) 1 false = tg (Y : Int) (itr (wy false (hs l t)) (0 + 1) Y : Nat) 1 0 from nx_at (C := 0) hYl (by omega) HH.out, tg_def, show itr (wy false (hs l t)) (0 + 1) Y = fwd (hs l t) Y from rfl, HY1.out] at CN
            obtain ⟨Z, HZ⟩ : ∃ Z, Hid (itr (fwd (hs l t)) (j + 1) X = Z) := ⟨_, rfl⟩
            rw [HZ.out] at CN
            go_wp2_with fail
            refine CN.out.mono ?_
            rintro e w7 ⟨rfl, hb7⟩
            have L7 := Hid.mk' (L6.out.keep hb7)
            have K7 := Hid.mk' (K6.out.keep hb7)
            clear hb7 CN L6 K6 d0
            have L8 := Hid.mk' (L7.out.keep (bAlloc (Below.refl _ _) (.cells #[.int .i64 (Y : Int), .int .i64 (Z : Int), .int .i64 1] 42)))
            have K8 := Hid.mk' (K7.out.keep (bAlloc (Below.refl _ _) (.cells #[.int .i64 (Y : Int), .int .i64 (Z : Int), .int .i64 1] 42)))
            have KZ := Hid.mk' (Blk.new w7 42 #[.int .i64 (Y : Int), .int .i64 (Z : Int), .int .i64 1])
            have q0 := L8.out.c0
            have q1 : (w7.alloc (.cells #[.int .i64 (Y : Int), .int .i64 (Z : Int), .int .i64 1] 42)).cell? ⟨b5, 1, none⟩ = some (.int .i64 (X : Int)) := K8.out.cell (j := 1) rfl
            have q2 : (w7.alloc (.cells #[.int .i64 (Y : Int), .int .i64 (Z : Int), .int .i64 1] 42)).cell? ⟨w7.heap.size, 1, none⟩ = some (.int .i64 (Z : Int)) := KZ.out.cell (j := 1) rfl
            have hjn : ¬ ((n : Int) < (j : Int)) := by omega
            have hjw : IntKind.i64.wrap ((j : Int) + 1) = ((j + 1 : Nat) : Int) := by have := H300.out; rw [IntKind.wrap_i64]; omega
            by_cases hje : j + 1 = (hs l t).length
            · have hZX : Z = X := by
                rw [← HZ.out, hje, HI0.out]
                exact fwd_round hs_ris h0 i0
              subst hZX
              have HJE := Hid.mk' hje
              have q3 := L8.out.c3
              clear hje
              by_cases hC1 : C < 1
              · have hC1' : decide (C < 1) = true := decide_eq_true hC1
                clear hC1 L7 K7 KZ
                go_wp2
                go_ret
                exact ⟨rfl, L8.out.bel⟩
              · have hC1' : decide (C < 1) = false := decide_eq_false hC1
                by_cases hC2 : 9999 < C
                · have hC2' : decide (9999 < C) = true := decide_eq_true hC2
                  clear hC1 hC2 L7 K7 KZ
                  go_wp2
                  go_ret
                  exact ⟨rfl, L8.out.bel⟩
                · have hC2' : decide (9999 < C) = false := decide_eq_false hC2
                  have hwC : IntKind.i64.wrap (9999 - C) = 9999 - C := by rw [IntKind.wrap_i64]; omega
                  by_cases hC3 : 9999 - C < (j : Int) + 1
                  · have hC3' : decide (9999 - C < (j : Int) + 1) = true := decide_eq_true hC3
                    clear hC1 hC2 hC3 L7 K7 KZ
                    go_wp2
                    go_ret
                    exact ⟨rfl, L8.out.bel⟩
                  · have hC3' : decide (9999 - C < (j : Int) + 1) = false := decide_eq_false hC3
                    have HC1 := Hid.mk' hC1
                    have HC2 := Hid.mk' hC2
                    have HC3 := Hid.mk' hC3
                    clear hC1 hC2 hC3
                    obtain ⟨C', HC⟩ : ∃ C' : Nat, Hid (C = ((C' + 1 : Nat) : Int)) := ⟨C.toNat - 1, by unfold Hid; have := HC1.out; omega⟩
                    obtain ⟨D, HD⟩ : ∃ D : Int, Hid (C + ((j : Int) + 1) = D) := ⟨_, rfl⟩
                    have hwD : IntKind.i64.wrap (C + ((j : Int) + 1)) = D := by have := HD.out; have := HC1.out; have := HC2.out; have := HC3.out; rw [IntKind.wrap_i64]; omega
                    have HD2 : Hid (D = ((C' + (j + 1) + 1 : Nat) : Int)) := by have := HD.out; have := HC.out; unfold Hid; omega
                    have hC9 : C' + 1 ≤ 9999 := by have := HC.out; have := HC1.out; have := HC2.out; have := HC3.out; omega
                    have hD9 : C' + (j + 1) + 1 ≤ 9999 := by have := HC.out; have := HC1.out; have := HC2.out; have := HC3.out; omega
                    have hnx1 : Hid (nxE l t (kn : Int) C b = tg (kn : Int) (itr (wy b (hs l t)) (C' + 1) kn : Nat) 1 0) := by rw [HC.out]; exact nx_at hkn hC9 HH.out
                    have hnx2 : Hid (nxE l t (kn : Int) D b = tg (kn : Int) (itr (wy b (hs l t)) (C' + 1) kn : Nat) 1 0) := by
                      have h9 := nx_at (b := b) (C := C' + (j + 1)) hkn hD9 HH.out
                      rw [show C' + (j + 1) + 1 = C' + 1 + (hs l t).length by rw [← HJE.out]; omega, wy_around hs_ris h0] at h9
                      rw [HD2.out, show C' + (j + 1) + 1 = C' + 1 + (hs l t).length by rw [← HJE.out]; omega]
                      exact h9
                    have hVl := wy_itr_len b l t C' Z
                    have hnx3 : Hid (nxE l t (Z : Int) C b = tg (Z : Int) (itr (wy b (hs l t)) (C' + 1) Z : Nat) 1 0) := by rw [HC.out]; exact nx_at hXl hC9 HH.out
                    have hnx4 : Hid (nxE l t ((itr (wy b (hs l t)) (C' + 1) Z : Nat) : Int) C (!b) = tg ((itr (wy b (hs l t)) (C' + 1) Z : Nat) : Int) (Z : Int) 1 0) := by
                      have h9 := nx_at (b := !b) (C := C') hVl hC9 HH.out
                      rw [← HC.out] at h9
                      have h8 := wy_back (b := b) (c := C' + 1) hs_ris h0 i0
                      rw [← HI0.out] at h8
                      rw [h8] at h9
                      exact h9
                    obtain ⟨R, HR⟩ : ∃ R, Hid (itr (wy b (hs l t)) (C' + 1) kn = R) := ⟨_, rfl⟩
                    obtain ⟨V, HV⟩ : ∃ V, Hid (itr (wy b (hs l t)) (C' + 1) Z = V) := ⟨_, rfl⟩
                    rw [HR.out] at hnx1 hnx2
                    rw [HV.out] at hnx3 hnx4
                    have KX := Hid.mk' K8.out
                    obtain ⟨w8, HW8⟩ : ∃ w8, Hid (w7.alloc (.cells #[.int .i64 (Y : Int), .int .i64 (Z : Int), .int .i64 1] 42) = w8) := ⟨_, rfl⟩
                    have r2 := L8.out.c2
                    have r4 := L8.out.c4
                    have CN1 := Hid.mk' (next_any w1.heap.size _ P ao n c t l (kn : Int) C b hl L8.out.pat L8.out.tx)
                    rw [hnx1.out, tg_def] at CN1
                    clear hVl HC HD HD2 hC9 hD9 hnx1
                    go_wp2_with fail
                    refine CN1.out.mono ?_
                    rintro e wa ⟨rfl, hba⟩
                    have La := Hid.mk' ((L8.out.keep hba).keep (bAlloc (Below.refl _ _) (.cells #[.int .i64 (kn : Int), .int .i64 (R : Int), .int .i64 1] 42)))
                    have Ka := Hid.mk' ((KX.out.keep hba).keep (bAlloc (Below.refl _ _) (.cells #[.int .i64 (kn : Int), .int .i64 (R : Int), .int .i64 1] 42)))
                    have Kb := Hid.mk' (Blk.new wa 42 #[.int .i64 (kn : Int), .int .i64 (R : Int), .int .i64 1])
                    have s0 := La.out.c0
                    have s2 := La.out.c2
                    have s4 := La.out.c4
                    have CN2 := Hid.mk' (next_any w1.heap.size _ P ao n c t l (kn : Int) D b hl La.out.pat La.out.tx)
                    rw [hnx2.out, tg_def] at CN2
                    clear hba CN1 L8 K8 KX r2 r4 q0 q1 q2 q3 hnx2 HW8 KZ L7 K7
                    go_wp2_with fail
                    refine CN2.out.mono ?_
                    rintro e wb ⟨rfl, hbb⟩
                    have Lb2 := Hid.mk' ((La.out.keep hbb).keep (bAlloc (Below.refl _ _) (.cells #[.int .i64 (kn : Int), .int .i64 (R : Int), .int .i64 1] 42)))
                    have K5b := Hid.mk' ((Ka.out.keep hbb).keep (bAlloc (Below.refl _ _) (.cells #[.int .i64 (kn : Int), .int .i64 (R : Int), .int .i64 1] 42)))
                    have KA := Hid.mk' ((Kb.out.keep hbb).keep (bAlloc (Below.refl _ _) (.cells #[.int .i64 (kn : Int), .int .i64 (R : Int), .int .i64 1] 42)))
                    have KB := Hid.mk' (Blk.new wb 42 #[.int .i64 (kn : Int), .int .i64 (R : Int), .int .i64 1])
                    have f1 : (wb.alloc (.cells #[.int .i64 (kn : Int), .int .i64 (R : Int), .int .i64 1] 42)).cell? ⟨wa.heap.size, 1, none⟩ = some (.int .i64 (R : Int)) := KA.out.cell (j := 1) rfl
                    have f2 : (wb.alloc (.cells #[.int .i64 (kn : Int), .int .i64 (R : Int), .int .i64 1] 42)).cell? ⟨wb.heap.size, 1, none⟩ = some (.int .i64 (R : Int)) := KB.out.cell (j := 1) rfl
                    have f3 : (wb.alloc (.cells #[.int .i64 (kn : Int), .int .i64 (R : Int), .int .i64 1] 42)).cell? ⟨b5, 1, none⟩ = some (.int .i64 (Z : Int)) := K5b.out.cell (j := 1) rfl
                    have s0 := Lb2.out.c0
                    have s4 := Lb2.out.c4
                    have CN3 := Hid.mk' (next_any w1.heap.size _ P ao n c t l (Z : Int) C b hl Lb2.out.pat Lb2.out.tx)
                    rw [hnx3.out, tg_def] at CN3
                    clear hbb CN2 La Ka Kb s2 KA KB hnx3
                    go_wp2_with fail
                    refine CN3.out.mono ?_
                    rintro e wc ⟨rfl, hbc⟩
                    have Lc2 := Hid.mk' ((Lb2.out.keep hbc).keep (bAlloc (Below.refl _ _) (.cells #[.int .i64 (Z : Int), .int .i64 (V : Int), .int .i64 1] 42)))
                    have K5c := Hid.mk' ((K5b.out.keep hbc).keep (bAlloc (Below.refl _ _) (.cells #[.int .i64 (Z : Int), .int .i64 (V : Int), .int .i64 1] 42)))
                    have KC := Hid.mk' (Blk.new wc 42 #[.int .i64 (Z : Int), .int .i64 (V : Int), .int .i64 1])
                    have s0 := Lc2.out.c0
                    have s4 := Lc2.out.c4
                    have f1 : (wc.alloc (.cells #[.int .i64 (Z : Int), .int .i64 (V : Int), .int .i64 1] 42)).cell? ⟨wc.heap.size, 1, none⟩ = some (.int .i64 (V : Int)) := KC.out.cell (j := 1) rfl
                    have CN4 := Hid.mk' (next_any w1.heap.size _ P ao n c t l (V : Int) C (!b) hl Lc2.out.pat Lc2.out.tx)
                    rw [hnx4.out, tg_def] at CN4
                    clear hbc CN3 Lb2 K5b KC f2 f3 hnx4
                    go_wp2_with fail
                    refine CN4.out.mono ?_
                    rintro e wd ⟨rfl, hbd⟩
                    have Ld2 := Hid.mk' ((Lc2.out.keep hbd).keep (bAlloc (Below.refl _ _) (.cells #[.int .i64 (V : Int), .int .i64 (Z : Int), .int .i64 1] 42)))
                    have K5d := Hid.mk' ((K5c.out.keep hbd).keep (bAlloc (Below.refl _ _) (.cells #[.int .i64 (V : Int), .int .i64 (Z : Int), .int .i64 1] 42)))
                    have KD := Hid.mk' (Blk.new wd 42 #[.int .i64 (V : Int), .int .i64 (Z : Int), .int .i64 1])
                    have g1 : (wd.alloc (.cells #[.int .i64 (V : Int), .int .i64 (Z : Int), .int .i64 1] 42)).cell? ⟨wd.heap.size, 1, none⟩ = some (.int .i64 (Z : Int)) := KD.out.cell (j := 1) rfl
                    have g2 : (wd.alloc (.cells #[.int .i64 (V : Int), .int .i64 (Z : Int), .int .i64 1] 42)).cell? ⟨b5, 1, none⟩ = some (.int .i64 (Z : Int)) := K5d.out.cell (j := 1) rfl
                    clear hbd CN4 Lc2 K5c s0 s4 f1 KD K5d
                    go_wp2
                    go_ret
                    exact ⟨rfl, Ld2.out.bel⟩
            · have hZX : ¬ (Z = X) := by
                rw [← HZ.out, HI0.out]
                exact fwd_not hs_ris h0 (by omega) (by omega)
              have hZX' : ((Z : Int) == (X : Int)) = false := by simp; omega
              clear L7 K7 KZ
              go_wp2_with fail
              go_roundg ((hs l t).length - (j + 1))
              case measure => omega
              case rel => exact ⟨j + 1, rfl, by rw [HZ.out], by omega, rfl, L8.out, K8.out⟩
      · rw [nx_bad hok, tg_def] at he
        subst he
        clear hok
        go_wp2
        go_ret
        exact ⟨rfl, bAlloc L3.out.bel _⟩
  · go_wp2
    go_ret
    exact ⟨rfl, U2.out⟩
end Go.Proofs.Ytaakgoojcogbcaa
