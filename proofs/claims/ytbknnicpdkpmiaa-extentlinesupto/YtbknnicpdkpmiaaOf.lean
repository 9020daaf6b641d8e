/- extent.Of: what an operator works on. -/
import Derived.Test.YtbknnicpdkpmiaaExc
namespace Go.Proofs.Ytbknnicpdkpmiaa
open Go.RowKit

set_option maxRecDepth 8000
/-- what an operator works on, of a target that is in order, a at most b -/
def ofR (l : List UInt8) (a b : Nat) (k : Int) (o : Nat) : Rg := if k = 3 ∨ shB o = true then lo l a b else if k = 1 then exR l a b else inR l a b
def ofr (l : List UInt8) (i j k : Int) (o : Nat) : Rg := if plB l i && plB l j && kdB k && opB o then ofR l (min i j).toNat (max i j).toNat k o else rno
theorem inR_E (l : List UInt8) (a b : Nat) : (inR l a b).E = 0 := by unfold inR; split <;> rfl

set_option maxHeartbeats 1000000 in
theorem of_no (ao : Option Addr) (n c : Nat) (i j k : Int) (s : ByteArray) (l : List UInt8) (w : World) (HT : Hid (Tx w ao n c l)) (h : (plB l i && plB l j && kdB k && opB (opn s)) = false) :
    Calls Try.prog 10 #[.slice ao n c, .agg #[.int .i64 i, .int .i64 j, .int .i64 k], .string s] w fun e w' => e = rt rno ∧ Below w.heap.size w w' := by
  have hlen := HT.out.len
  have E1 : Hid (plB l i = decide ((0 : Int) ≤ i ∧ i ≤ (n : Int))) := by unfold Hid plB; rw [hlen]
  have E2 : Hid (plB l j = decide ((0 : Int) ≤ j ∧ j ≤ (n : Int))) := by unfold Hid plB; rw [hlen]
  clear hlen
  cases h1 : plB l i with
  | false =>
    have hp1 := E1.out.symm.trans h1
    have hp2 := hp1
    have hkd := hp1
    have hop := hp1
    have hsh := hp1
    clear h
    go_enter Try.func10, Try.ntmps10
    go_wp2_with (first | (go_at_call 20; refine (ePlace_any _ _ _ _ _).mono ?_; rintro e w' ⟨rfl, hw⟩; have hq := hw.symm; subst hq; clear hw; first | rw [hp1] | rw [hp2]) | (go_at_call 21; refine (kind_any _ _).mono ?_; rintro e w' ⟨rfl, hw⟩; have hq := hw.symm; subst hq; clear hw; try rw [hkd]) | (go_at_call 22; refine (isOp_any _ _).mono ?_; rintro e w' ⟨rfl, hw⟩; have hq := hw.symm; subst hq; clear hw; try rw [hop]) | (go_at_call 23; refine (shifts_any _ _).mono ?_; rintro e w' ⟨rfl, hw⟩; have hq := hw.symm; subst hq; clear hw; try rw [hsh]))
    all_goals exact bodyPost_ret (v := .tuple #[.agg #[.int .i64 (0), .int .i64 (0), .bool false, .bool false], .int .i64 2]) (by simp [results, Try.results10, go_sem]) rfl ⟨rfl, bAlloc (bAlloc (Below.refl _ _) _) _⟩
  | true =>
    cases h2 : plB l j with
    | false =>
      have hp1 := E1.out.symm.trans h1
      have hp2 := E2.out.symm.trans h2
      have hkd := hp1
      have hop := hp1
      have hsh := hp1
      clear h
      go_enter Try.func10, Try.ntmps10
      go_wp2_with (first | (go_at_call 20; refine (ePlace_any _ _ _ _ _).mono ?_; rintro e w' ⟨rfl, hw⟩; have hq := hw.symm; subst hq; clear hw; first | rw [hp1] | rw [hp2]) | (go_at_call 21; refine (kind_any _ _).mono ?_; rintro e w' ⟨rfl, hw⟩; have hq := hw.symm; subst hq; clear hw; try rw [hkd]) | (go_at_call 22; refine (isOp_any _ _).mono ?_; rintro e w' ⟨rfl, hw⟩; have hq := hw.symm; subst hq; clear hw; try rw [hop]) | (go_at_call 23; refine (shifts_any _ _).mono ?_; rintro e w' ⟨rfl, hw⟩; have hq := hw.symm; subst hq; clear hw; try rw [hsh]))
      all_goals exact bodyPost_ret (v := .tuple #[.agg #[.int .i64 (0), .int .i64 (0), .bool false, .bool false], .int .i64 2]) (by simp [results, Try.results10, go_sem]) rfl ⟨rfl, bAlloc (bAlloc (Below.refl _ _) _) _⟩
    | true =>
      cases h3 : kdB k with
      | false =>
        have hp1 := E1.out.symm.trans h1
        have hp2 := E2.out.symm.trans h2
        have hkd := h3
        have hop := hp1
        have hsh := hp1
        clear h
        go_enter Try.func10, Try.ntmps10
        go_wp2_with (first | (go_at_call 20; refine (ePlace_any _ _ _ _ _).mono ?_; rintro e w' ⟨rfl, hw⟩; have hq := hw.symm; subst hq; clear hw; first | rw [hp1] | rw [hp2]) | (go_at_call 21; refine (kind_any _ _).mono ?_; rintro e w' ⟨rfl, hw⟩; have hq := hw.symm; subst hq; clear hw; try rw [hkd]) | (go_at_call 22; refine (isOp_any _ _).mono ?_; rintro e w' ⟨rfl, hw⟩; have hq := hw.symm; subst hq; clear hw; try rw [hop]) | (go_at_call 23; refine (shifts_any _ _).mono ?_; rintro e w' ⟨rfl, hw⟩; have hq := hw.symm; subst hq; clear hw; try rw [hsh]))
        all_goals exact bodyPost_ret (v := .tuple #[.agg #[.int .i64 (0), .int .i64 (0), .bool false, .bool false], .int .i64 2]) (by simp [results, Try.results10, go_sem]) rfl ⟨rfl, bAlloc (bAlloc (Below.refl _ _) _) _⟩
      | true =>
        rw [h1, h2, h3] at h
        have hp1 := E1.out.symm.trans h1
        have hp2 := E2.out.symm.trans h2
        have hkd := h3
        have hop : opB (opn s) = false := by simpa using h
        have hsh := hp1
        clear h
        go_enter Try.func10, Try.ntmps10
        go_wp2_with (first | (go_at_call 20; refine (ePlace_any _ _ _ _ _).mono ?_; rintro e w' ⟨rfl, hw⟩; have hq := hw.symm; subst hq; clear hw; first | rw [hp1] | rw [hp2]) | (go_at_call 21; refine (kind_any _ _).mono ?_; rintro e w' ⟨rfl, hw⟩; have hq := hw.symm; subst hq; clear hw; try rw [hkd]) | (go_at_call 22; refine (isOp_any _ _).mono ?_; rintro e w' ⟨rfl, hw⟩; have hq := hw.symm; subst hq; clear hw; try rw [hop]) | (go_at_call 23; refine (shifts_any _ _).mono ?_; rintro e w' ⟨rfl, hw⟩; have hq := hw.symm; subst hq; clear hw; try rw [hsh]))
        all_goals exact bodyPost_ret (v := .tuple #[.agg #[.int .i64 (0), .int .i64 (0), .bool false, .bool false], .int .i64 2]) (by simp [results, Try.results10, go_sem]) rfl ⟨rfl, bAlloc (bAlloc (Below.refl _ _) _) _⟩

theorem rg_cells' {w W : World} {o : Obj} (hb : Below ((w.alloc o).alloc z27).heap.size ((w.alloc o).alloc z27) W) : W.cell? ⟨w.heap.size + 1, 0, none⟩ = some (.int .i64 0) ∧ W.cell? ⟨w.heap.size + 1, 1, none⟩ = some (.int .i64 0) ∧ W.cell? ⟨w.heap.size + 1, 2, none⟩ = some (.bool false) ∧ W.cell? ⟨w.heap.size + 1, 3, none⟩ = some (.bool false) ∧ W.frozen? ⟨w.heap.size + 1, 0, none⟩ = false ∧ W.frozen? ⟨w.heap.size + 1, 1, none⟩ = false ∧ W.frozen? ⟨w.heap.size + 1, 2, none⟩ = false ∧ W.frozen? ⟨w.heap.size + 1, 3, none⟩ = false ∧ w.heap.size + 1 < W.heap.size := by
  have := rg_cells hb
  rwa [World.size_alloc] at this
theorem bset4' {w W : World} (h : Below w.heap.size w W) (a b c d : Value) : Below w.heap.size w ((((W.setCell ⟨w.heap.size + 1, 0, none⟩ a).setCell ⟨w.heap.size + 1, 1, none⟩ b).setCell ⟨w.heap.size + 1, 2, none⟩ c).setCell ⟨w.heap.size + 1, 3, none⟩ d) :=
  bset (bset (bset (bset h _ (Nat.le_succ _)) _ (Nat.le_succ _)) _ (Nat.le_succ _)) _ (Nat.le_succ _)
set_option maxHeartbeats 4000000 in
theorem of_le (ao : Option Addr) (n c i j : Nat) (k : Int) (s : ByteArray) (l : List UInt8) (w : World) (hi : i ≤ n) (hj : j ≤ n) (hij : i ≤ j) (hkd : kdB k = true) (hop : opB (opn s) = true) (HT : Hid (Tx w ao n c l)) :
    Calls Try.prog 10 #[.slice ao n c, .agg #[.int .i64 (i : Int), .int .i64 (j : Int), .int .i64 k], .string s] w fun e w' => e = rt (ofR l i j k (opn s)) ∧ Below w.heap.size w w' := by
  have hp1 : decide ((0 : Int) ≤ (i : Int) ∧ (i : Int) ≤ (n : Int)) = true := decide_eq_true (by omega)
  have hp2 : decide ((0 : Int) ≤ (j : Int) ∧ (j : Int) ≤ (n : Int)) = true := decide_eq_true (by omega)
  have hm1 : min (i : Int) (j : Int) = (i : Int) := by omega
  have hm2 : max (i : Int) (j : Int) = (j : Int) := by omega
  have hrel : (i : Int) ≤ j := by omega
  have B0 := Hid.mk' (bAlloc (bAlloc (Below.refl _ w) (.cells #[.int .i64 ((i : Int)), .int .i64 ((j : Int)), .int .i64 k] 24)) (.cells #[.int .i64 0, .int .i64 0, .bool false, .bool false] 27))
  have HO := Hid.mk' (fun W (h : Below w.heap.size w W) => linesOf_any ao n c i j l W (by omega) (by omega) (HT.out.keep h))
  have HE := Hid.mk' (fun W (h : Below w.heap.size w W) => exclusive_any ao n c i j l W (by omega) (by omega) (HT.out.keep h))
  have HI := Hid.mk' (fun W (h : Below w.heap.size w W) => inclusive_any ao n c i j l W (by omega) (HT.out.keep h))
  have HZ := Hid.mk' (inR_E l i j)
  unfold rt at HO HE
  unfold r1 at HI
  unfold ofR
  generalize lo l i j = RO at *
  generalize exR l i j = RE at *
  generalize inR l i j = RI at *
  obtain ⟨F1, T1, L1, D1, E1⟩ := RO
  obtain ⟨F2, T2, L2, D2, E2⟩ := RE
  obtain ⟨F3, T3, L3, D3, E3⟩ := RI
  dsimp only at HO HE HI HZ
  obtain rfl : E3 = 0 := HZ.out
  clear HZ
  by_cases h3 : k = 3
  · subst h3
    rw [if_pos (.inl rfl)]
    have hsh : shB (opn s) = shB (opn s) := rfl
    clear HE HI
    go_enter Try.func10, Try.ntmps10
    go_wp2_with (first | (go_at_call 20; refine (ePlace_any _ _ _ _ _).mono ?_; rintro e w' ⟨rfl, hw⟩; have hq := hw.symm; subst hq; clear hw; first | rw [hp1] | rw [hp2]) | (go_at_call 21; refine (kind_any _ _).mono ?_; rintro e w' ⟨rfl, hw⟩; have hq := hw.symm; subst hq; clear hw; try rw [hkd]) | (go_at_call 22; refine (isOp_any _ _).mono ?_; rintro e w' ⟨rfl, hw⟩; have hq := hw.symm; subst hq; clear hw; try rw [hop]) | (go_at_call 23; refine (shifts_any _ _).mono ?_; rintro e w' ⟨rfl, hw⟩; have hq := hw.symm; subst hq; clear hw; try rw [hsh]))
    go_region
    all_goals go_wp2_with (first | (go_at_call 20; refine (ePlace_any _ _ _ _ _).mono ?_; rintro e w' ⟨rfl, hw⟩; have hq := hw.symm; subst hq; clear hw; first | rw [hp1] | rw [hp2]) | (go_at_call 21; refine (kind_any _ _).mono ?_; rintro e w' ⟨rfl, hw⟩; have hq := hw.symm; subst hq; clear hw; try rw [hkd]) | (go_at_call 22; refine (isOp_any _ _).mono ?_; rintro e w' ⟨rfl, hw⟩; have hq := hw.symm; subst hq; clear hw; try rw [hop]) | (go_at_call 23; refine (shifts_any _ _).mono ?_; rintro e w' ⟨rfl, hw⟩; have hq := hw.symm; subst hq; clear hw; try rw [hsh]) | (go_at_call 24; refine (HO.out _ (by first | exact B0.out | exact B0.out.drew)).mono ?_; rintro e w3 ⟨rfl, hb3⟩; have B3 := Hid.mk' (bT (by first | exact B0.out | exact B0.out.drew) hb3); obtain ⟨k0, k1, k2, k3, f0, f1, f2, f3, hz⟩ := rg_cells' (bT (Below.refl _ _).drew hb3); clear hb3))
    all_goals exact bodyPost_ret (v := .tuple #[.agg #[.int .i64 (F1), .int .i64 (T1), .bool L1, .bool D1], .int .i64 E1]) (by simp [results, Try.results10, go_sem, k0, k1, k2, k3]) rfl ⟨rfl, bset4' B3.out _ _ _ _⟩
  have hk3 : (k == 3) = false := by simpa using h3
  cases hsh : shB (opn s) with
  | true =>
    rw [if_pos (.inr rfl)]
    clear HE HI
    go_enter Try.func10, Try.ntmps10
    go_wp2_with (first | (go_at_call 20; refine (ePlace_any _ _ _ _ _).mono ?_; rintro e w' ⟨rfl, hw⟩; have hq := hw.symm; subst hq; clear hw; first | rw [hp1] | rw [hp2]) | (go_at_call 21; refine (kind_any _ _).mono ?_; rintro e w' ⟨rfl, hw⟩; have hq := hw.symm; subst hq; clear hw; try rw [hkd]) | (go_at_call 22; refine (isOp_any _ _).mono ?_; rintro e w' ⟨rfl, hw⟩; have hq := hw.symm; subst hq; clear hw; try rw [hop]) | (go_at_call 23; refine (shifts_any _ _).mono ?_; rintro e w' ⟨rfl, hw⟩; have hq := hw.symm; subst hq; clear hw; try rw [hsh]))
    go_region
    all_goals go_wp2_with (first | (go_at_call 20; refine (ePlace_any _ _ _ _ _).mono ?_; rintro e w' ⟨rfl, hw⟩; have hq := hw.symm; subst hq; clear hw; first | rw [hp1] | rw [hp2]) | (go_at_call 21; refine (kind_any _ _).mono ?_; rintro e w' ⟨rfl, hw⟩; have hq := hw.symm; subst hq; clear hw; try rw [hkd]) | (go_at_call 22; refine (isOp_any _ _).mono ?_; rintro e w' ⟨rfl, hw⟩; have hq := hw.symm; subst hq; clear hw; try rw [hop]) | (go_at_call 23; refine (shifts_any _ _).mono ?_; rintro e w' ⟨rfl, hw⟩; have hq := hw.symm; subst hq; clear hw; try rw [hsh]) | (go_at_call 24; refine (HO.out _ (by first | exact B0.out | exact B0.out.drew)).mono ?_; rintro e w3 ⟨rfl, hb3⟩; have B3 := Hid.mk' (bT (by first | exact B0.out | exact B0.out.drew) hb3); obtain ⟨k0, k1, k2, k3, f0, f1, f2, f3, hz⟩ := rg_cells' (bT (Below.refl _ _).drew hb3); clear hb3))
    all_goals exact bodyPost_ret (v := .tuple #[.agg #[.int .i64 (F1), .int .i64 (T1), .bool L1, .bool D1], .int .i64 E1]) (by simp [results, Try.results10, go_sem, k0, k1, k2, k3]) rfl ⟨rfl, bset4' B3.out _ _ _ _⟩
  | false =>
    rw [if_neg (by simp [h3])]
    clear HO
    by_cases h1 : k = 1
    · subst h1
      rw [if_pos rfl]
      clear HI
      go_enter Try.func10, Try.ntmps10
      go_wp2_with (first | (go_at_call 20; refine (ePlace_any _ _ _ _ _).mono ?_; rintro e w' ⟨rfl, hw⟩; have hq := hw.symm; subst hq; clear hw; first | rw [hp1] | rw [hp2]) | (go_at_call 21; refine (kind_any _ _).mono ?_; rintro e w' ⟨rfl, hw⟩; have hq := hw.symm; subst hq; clear hw; try rw [hkd]) | (go_at_call 22; refine (isOp_any _ _).mono ?_; rintro e w' ⟨rfl, hw⟩; have hq := hw.symm; subst hq; clear hw; try rw [hop]) | (go_at_call 23; refine (shifts_any _ _).mono ?_; rintro e w' ⟨rfl, hw⟩; have hq := hw.symm; subst hq; clear hw; try rw [hsh]))
      go_region
      all_goals go_wp2_with (first | (go_at_call 20; refine (ePlace_any _ _ _ _ _).mono ?_; rintro e w' ⟨rfl, hw⟩; have hq := hw.symm; subst hq; clear hw; first | rw [hp1] | rw [hp2]) | (go_at_call 21; refine (kind_any _ _).mono ?_; rintro e w' ⟨rfl, hw⟩; have hq := hw.symm; subst hq; clear hw; try rw [hkd]) | (go_at_call 22; refine (isOp_any _ _).mono ?_; rintro e w' ⟨rfl, hw⟩; have hq := hw.symm; subst hq; clear hw; try rw [hop]) | (go_at_call 23; refine (shifts_any _ _).mono ?_; rintro e w' ⟨rfl, hw⟩; have hq := hw.symm; subst hq; clear hw; try rw [hsh]) | (go_at_call 25; refine (HE.out _ (by first | exact B0.out | exact B0.out.drew)).mono ?_; rintro e w3 ⟨rfl, hb3⟩; have B3 := Hid.mk' (bT (by first | exact B0.out | exact B0.out.drew) hb3); obtain ⟨k0, k1, k2, k3, f0, f1, f2, f3, hz⟩ := rg_cells' (bT (Below.refl _ _).drew hb3); clear hb3))
      all_goals exact bodyPost_ret (v := .tuple #[.agg #[.int .i64 (F2), .int .i64 (T2), .bool L2, .bool D2], .int .i64 E2]) (by simp [results, Try.results10, go_sem, k0, k1, k2, k3]) rfl ⟨rfl, bset4' B3.out _ _ _ _⟩
    · rw [if_neg h1]
      obtain rfl : k = 2 := by unfold kdB at hkd; have := of_decide_eq_true hkd; omega
      clear HE
      go_enter Try.func10, Try.ntmps10
      go_wp2_with (first | (go_at_call 20; refine (ePlace_any _ _ _ _ _).mono ?_; rintro e w' ⟨rfl, hw⟩; have hq := hw.symm; subst hq; clear hw; first | rw [hp1] | rw [hp2]) | (go_at_call 21; refine (kind_any _ _).mono ?_; rintro e w' ⟨rfl, hw⟩; have hq := hw.symm; subst hq; clear hw; try rw [hkd]) | (go_at_call 22; refine (isOp_any _ _).mono ?_; rintro e w' ⟨rfl, hw⟩; have hq := hw.symm; subst hq; clear hw; try rw [hop]) | (go_at_call 23; refine (shifts_any _ _).mono ?_; rintro e w' ⟨rfl, hw⟩; have hq := hw.symm; subst hq; clear hw; try rw [hsh]))
      go_region
      all_goals go_wp2_with (first | (go_at_call 20; refine (ePlace_any _ _ _ _ _).mono ?_; rintro e w' ⟨rfl, hw⟩; have hq := hw.symm; subst hq; clear hw; first | rw [hp1] | rw [hp2]) | (go_at_call 21; refine (kind_any _ _).mono ?_; rintro e w' ⟨rfl, hw⟩; have hq := hw.symm; subst hq; clear hw; try rw [hkd]) | (go_at_call 22; refine (isOp_any _ _).mono ?_; rintro e w' ⟨rfl, hw⟩; have hq := hw.symm; subst hq; clear hw; try rw [hop]) | (go_at_call 23; refine (shifts_any _ _).mono ?_; rintro e w' ⟨rfl, hw⟩; have hq := hw.symm; subst hq; clear hw; try rw [hsh]) | (go_at_call 26; refine (HI.out _ (by first | exact B0.out | exact B0.out.drew)).mono ?_; rintro e w3 ⟨rfl, hb3⟩; have B3 := Hid.mk' (bT (by first | exact B0.out | exact B0.out.drew) hb3); obtain ⟨k0, k1, k2, k3, f0, f1, f2, f3, hz⟩ := rg_cells' (bT (Below.refl _ _).drew hb3); clear hb3))
      all_goals exact bodyPost_ret (v := .tuple #[.agg #[.int .i64 (F3), .int .i64 (T3), .bool L3, .bool D3], .int .i64 0]) (by simp [results, Try.results10, go_sem, k0, k1, k2, k3]) rfl ⟨rfl, bset4' B3.out _ _ _ _⟩
set_option maxHeartbeats 4000000 in
theorem of_ge (ao : Option Addr) (n c i j : Nat) (k : Int) (s : ByteArray) (l : List UInt8) (w : World) (hi : i ≤ n) (hj : j ≤ n) (hij : j < i) (hkd : kdB k = true) (hop : opB (opn s) = true) (HT : Hid (Tx w ao n c l)) :
    Calls Try.prog 10 #[.slice ao n c, .agg #[.int .i64 (i : Int), .int .i64 (j : Int), .int .i64 k], .string s] w fun e w' => e = rt (ofR l j i k (opn s)) ∧ Below w.heap.size w w' := by
  have hp1 : decide ((0 : Int) ≤ (i : Int) ∧ (i : Int) ≤ (n : Int)) = true := decide_eq_true (by omega)
  have hp2 : decide ((0 : Int) ≤ (j : Int) ∧ (j : Int) ≤ (n : Int)) = true := decide_eq_true (by omega)
  have hm1 : min (i : Int) (j : Int) = (j : Int) := by omega
  have hm2 : max (i : Int) (j : Int) = (i : Int) := by omega
  have hrel : (j : Int) < i := by omega
  have B0 := Hid.mk' (bAlloc (bAlloc (Below.refl _ w) (.cells #[.int .i64 ((i : Int)), .int .i64 ((j : Int)), .int .i64 k] 24)) (.cells #[.int .i64 0, .int .i64 0, .bool false, .bool false] 27))
  have HO := Hid.mk' (fun W (h : Below w.heap.size w W) => linesOf_any ao n c j i l W (by omega) (by omega) (HT.out.keep h))
  have HE := Hid.mk' (fun W (h : Below w.heap.size w W) => exclusive_any ao n c j i l W (by omega) (by omega) (HT.out.keep h))
  have HI := Hid.mk' (fun W (h : Below w.heap.size w W) => inclusive_any ao n c j i l W (by omega) (HT.out.keep h))
  have HZ := Hid.mk' (inR_E l j i)
  unfold rt at HO HE
  unfold r1 at HI
  unfold ofR
  generalize lo l j i = RO at *
  generalize exR l j i = RE at *
  generalize inR l j i = RI at *
  obtain ⟨F1, T1, L1, D1, E1⟩ := RO
  obtain ⟨F2, T2, L2, D2, E2⟩ := RE
  obtain ⟨F3, T3, L3, D3, E3⟩ := RI
  dsimp only at HO HE HI HZ
  obtain rfl : E3 = 0 := HZ.out
  clear HZ
  by_cases h3 : k = 3
  · subst h3
    rw [if_pos (.inl rfl)]
    have hsh : shB (opn s) = shB (opn s) := rfl
    clear HE HI
    go_enter Try.func10, Try.ntmps10
    go_wp2_with (first | (go_at_call 20; refine (ePlace_any _ _ _ _ _).mono ?_; rintro e w' ⟨rfl, hw⟩; have hq := hw.symm; subst hq; clear hw; first | rw [hp1] | rw [hp2]) | (go_at_call 21; refine (kind_any _ _).mono ?_; rintro e w' ⟨rfl, hw⟩; have hq := hw.symm; subst hq; clear hw; try rw [hkd]) | (go_at_call 22; refine (isOp_any _ _).mono ?_; rintro e w' ⟨rfl, hw⟩; have hq := hw.symm; subst hq; clear hw; try rw [hop]) | (go_at_call 23; refine (shifts_any _ _).mono ?_; rintro e w' ⟨rfl, hw⟩; have hq := hw.symm; subst hq; clear hw; try rw [hsh]))
    go_region
    all_goals go_wp2_with (first | (go_at_call 20; refine (ePlace_any _ _ _ _ _).mono ?_; rintro e w' ⟨rfl, hw⟩; have hq := hw.symm; subst hq; clear hw; first | rw [hp1] | rw [hp2]) | (go_at_call 21; refine (kind_any _ _).mono ?_; rintro e w' ⟨rfl, hw⟩; have hq := hw.symm; subst hq; clear hw; try rw [hkd]) | (go_at_call 22; refine (isOp_any _ _).mono ?_; rintro e w' ⟨rfl, hw⟩; have hq := hw.symm; subst hq; clear hw; try rw [hop]) | (go_at_call 23; refine (shifts_any _ _).mono ?_; rintro e w' ⟨rfl, hw⟩; have hq := hw.symm; subst hq; clear hw; try rw [hsh]) | (go_at_call 24; refine (HO.out _ (by first | exact B0.out | exact B0.out.drew)).mono ?_; rintro e w3 ⟨rfl, hb3⟩; have B3 := Hid.mk' (bT (by first | exact B0.out | exact B0.out.drew) hb3); obtain ⟨k0, k1, k2, k3, f0, f1, f2, f3, hz⟩ := rg_cells' (bT (Below.refl _ _).drew hb3); clear hb3))
    all_goals exact bodyPost_ret (v := .tuple #[.agg #[.int .i64 (F1), .int .i64 (T1), .bool L1, .bool D1], .int .i64 E1]) (by simp [results, Try.results10, go_sem, k0, k1, k2, k3]) rfl ⟨rfl, bset4' B3.out _ _ _ _⟩
  have hk3 : (k == 3) = false := by simpa using h3
  cases hsh : shB (opn s) with
  | true =>
    rw [if_pos (.inr rfl)]
    clear HE HI
    go_enter Try.func10, Try.ntmps10
    go_wp2_with (first | (go_at_call 20; refine (ePlace_any _ _ _ _ _).mono ?_; rintro e w' ⟨rfl, hw⟩; have hq := hw.symm; subst hq; clear hw; first | rw [hp1] | rw [hp2]) | (go_at_call 21; refine (kind_any _ _).mono ?_; rintro e w' ⟨rfl, hw⟩; have hq := hw.symm; subst hq; clear hw; try rw [hkd]) | (go_at_call 22; refine (isOp_any _ _).mono ?_; rintro e w' ⟨rfl, hw⟩; have hq := hw.symm; subst hq; clear hw; try rw [hop]) | (go_at_call 23; refine (shifts_any _ _).mono ?_; rintro e w' ⟨rfl, hw⟩; have hq := hw.symm; subst hq; clear hw; try rw [hsh]))
    go_region
    all_goals go_wp2_with (first | (go_at_call 20; refine (ePlace_any _ _ _ _ _).mono ?_; rintro e w' ⟨rfl, hw⟩; have hq := hw.symm; subst hq; clear hw; first | rw [hp1] | rw [hp2]) | (go_at_call 21; refine (kind_any _ _).mono ?_; rintro e w' ⟨rfl, hw⟩; have hq := hw.symm; subst hq; clear hw; try rw [hkd]) | (go_at_call 22; refine (isOp_any _ _).mono ?_; rintro e w' ⟨rfl, hw⟩; have hq := hw.symm; subst hq; clear hw; try rw [hop]) | (go_at_call 23; refine (shifts_any _ _).mono ?_; rintro e w' ⟨rfl, hw⟩; have hq := hw.symm; subst hq; clear hw; try rw [hsh]) | (go_at_call 24; refine (HO.out _ (by first | exact B0.out | exact B0.out.drew)).mono ?_; rintro e w3 ⟨rfl, hb3⟩; have B3 := Hid.mk' (bT (by first | exact B0.out | exact B0.out.drew) hb3); obtain ⟨k0, k1, k2, k3, f0, f1, f2, f3, hz⟩ := rg_cells' (bT (Below.refl _ _).drew hb3); clear hb3))
    all_goals exact bodyPost_ret (v := .tuple #[.agg #[.int .i64 (F1), .int .i64 (T1), .bool L1, .bool D1], .int .i64 E1]) (by simp [results, Try.results10, go_sem, k0, k1, k2, k3]) rfl ⟨rfl, bset4' B3.out _ _ _ _⟩
  | false =>
    rw [if_neg (by simp [h3])]
    clear HO
    by_cases h1 : k = 1
    · subst h1
      rw [if_pos rfl]
      clear HI
      go_enter Try.func10, Try.ntmps10
      go_wp2_with (first | (go_at_call 20; refine (ePlace_any _ _ _ _ _).mono ?_; rintro e w' ⟨rfl, hw⟩; have hq := hw.symm; subst hq; clear hw; first | rw [hp1] | rw [hp2]) | (go_at_call 21; refine (kind_any _ _).mono ?_; rintro e w' ⟨rfl, hw⟩; have hq := hw.symm; subst hq; clear hw; try rw [hkd]) | (go_at_call 22; refine (isOp_any _ _).mono ?_; rintro e w' ⟨rfl, hw⟩; have hq := hw.symm; subst hq; clear hw; try rw [hop]) | (go_at_call 23; refine (shifts_any _ _).mono ?_; rintro e w' ⟨rfl, hw⟩; have hq := hw.symm; subst hq; clear hw; try rw [hsh]))
      go_region
      all_goals go_wp2_with (first | (go_at_call 20; refine (ePlace_any _ _ _ _ _).mono ?_; rintro e w' ⟨rfl, hw⟩; have hq := hw.symm; subst hq; clear hw; first | rw [hp1] | rw [hp2]) | (go_at_call 21; refine (kind_any _ _).mono ?_; rintro e w' ⟨rfl, hw⟩; have hq := hw.symm; subst hq; clear hw; try rw [hkd]) | (go_at_call 22; refine (isOp_any _ _).mono ?_; rintro e w' ⟨rfl, hw⟩; have hq := hw.symm; subst hq; clear hw; try rw [hop]) | (go_at_call 23; refine (shifts_any _ _).mono ?_; rintro e w' ⟨rfl, hw⟩; have hq := hw.symm; subst hq; clear hw; try rw [hsh]) | (go_at_call 25; refine (HE.out _ (by first | exact B0.out | exact B0.out.drew)).mono ?_; rintro e w3 ⟨rfl, hb3⟩; have B3 := Hid.mk' (bT (by first | exact B0.out | exact B0.out.drew) hb3); obtain ⟨k0, k1, k2, k3, f0, f1, f2, f3, hz⟩ := rg_cells' (bT (Below.refl _ _).drew hb3); clear hb3))
      all_goals exact bodyPost_ret (v := .tuple #[.agg #[.int .i64 (F2), .int .i64 (T2), .bool L2, .bool D2], .int .i64 E2]) (by simp [results, Try.results10, go_sem, k0, k1, k2, k3]) rfl ⟨rfl, bset4' B3.out _ _ _ _⟩
    · rw [if_neg h1]
      obtain rfl : k = 2 := by unfold kdB at hkd; have := of_decide_eq_true hkd; omega
      clear HE
      go_enter Try.func10, Try.ntmps10
      go_wp2_with (first | (go_at_call 20; refine (ePlace_any _ _ _ _ _).mono ?_; rintro e w' ⟨rfl, hw⟩; have hq := hw.symm; subst hq; clear hw; first | rw [hp1] | rw [hp2]) | (go_at_call 21; refine (kind_any _ _).mono ?_; rintro e w' ⟨rfl, hw⟩; have hq := hw.symm; subst hq; clear hw; try rw [hkd]) | (go_at_call 22; refine (isOp_any _ _).mono ?_; rintro e w' ⟨rfl, hw⟩; have hq := hw.symm; subst hq; clear hw; try rw [hop]) | (go_at_call 23; refine (shifts_any _ _).mono ?_; rintro e w' ⟨rfl, hw⟩; have hq := hw.symm; subst hq; clear hw; try rw [hsh]))
      go_region
      all_goals go_wp2_with (first | (go_at_call 20; refine (ePlace_any _ _ _ _ _).mono ?_; rintro e w' ⟨rfl, hw⟩; have hq := hw.symm; subst hq; clear hw; first | rw [hp1] | rw [hp2]) | (go_at_call 21; refine (kind_any _ _).mono ?_; rintro e w' ⟨rfl, hw⟩; have hq := hw.symm; subst hq; clear hw; try rw [hkd]) | (go_at_call 22; refine (isOp_any _ _).mono ?_; rintro e w' ⟨rfl, hw⟩; have hq := hw.symm; subst hq; clear hw; try rw [hop]) | (go_at_call 23; refine (shifts_any _ _).mono ?_; rintro e w' ⟨rfl, hw⟩; have hq := hw.symm; subst hq; clear hw; try rw [hsh]) | (go_at_call 26; refine (HI.out _ (by first | exact B0.out | exact B0.out.drew)).mono ?_; rintro e w3 ⟨rfl, hb3⟩; have B3 := Hid.mk' (bT (by first | exact B0.out | exact B0.out.drew) hb3); obtain ⟨k0, k1, k2, k3, f0, f1, f2, f3, hz⟩ := rg_cells' (bT (Below.refl _ _).drew hb3); clear hb3))
      all_goals exact bodyPost_ret (v := .tuple #[.agg #[.int .i64 (F3), .int .i64 (T3), .bool L3, .bool D3], .int .i64 0]) (by simp [results, Try.results10, go_sem, k0, k1, k2, k3]) rfl ⟨rfl, bset4' B3.out _ _ _ _⟩
theorem of_any (ao : Option Addr) (n c : Nat) (i j k : Int) (s : ByteArray) (l : List UInt8) (w : World) (HT : Hid (Tx w ao n c l)) :
    Calls Try.prog 10 #[.slice ao n c, .agg #[.int .i64 i, .int .i64 j, .int .i64 k], .string s] w fun e w' => e = rt (ofr l i j k (opn s)) ∧ Below w.heap.size w w' := by
  unfold ofr
  cases h : (plB l i && plB l j && kdB k && opB (opn s)) with
  | false => exact of_no ao n c i j k s l w HT h
  | true =>
    simp only [Bool.and_eq_true] at h
    obtain ⟨⟨⟨h1, h2⟩, h3⟩, h4⟩ := h
    have hl := HT.out.len
    obtain ⟨I, rfl, hi⟩ := pl_yes h1
    obtain ⟨J, rfl, hj⟩ := pl_yes h2
    rw [if_pos rfl]
    rcases Nat.lt_or_ge J I with hlt | hle
    · have e1 : (min (I : Int) J).toNat = J := by omega
      have e2 : (max (I : Int) J).toNat = I := by omega
      rw [e1, e2]
      exact of_ge ao n c I J k s l w (by omega) (by omega) hlt h3 h4 HT
    · have e1 : (min (I : Int) J).toNat = I := by omega
      have e2 : (max (I : Int) J).toNat = J := by omega
      rw [e1, e2]
      exact of_le ao n c I J k s l w (by omega) (by omega) hle h3 h4 HT

end Go.Proofs.Ytbknnicpdkpmiaa
