/- The reference's Of, first end at most the second. -/
import Derived.Test.YtbknnicpdkpmiaaOf
namespace Go.Proofs.Ytbknnicpdkpmiaa
open Go.RowKit

set_option maxRecDepth 8000
set_option maxHeartbeats 8000000 in
theorem rof_le (ao : Option Addr) (n c i j : Nat) (k : Int) (s : ByteArray) (l : List UInt8) (w : World) (hi : i ≤ n) (hj : j ≤ n) (hij : i ≤ j) (hkd : kdB k = true) (hop : opB (opn s) = true) (HT : Hid (Tx w ao n c l)) :
    Calls Try.prog 9 #[.slice ao n c, .agg #[.int .i64 (i : Int), .int .i64 (j : Int), .int .i64 k], .string s] w fun e w' => e = rt (ofR l i j k (opn s)) ∧ Below w.heap.size w w' := by
  have hm1 : min (i : Int) (j : Int) = (i : Int) := by omega
  have hm2 : max (i : Int) (j : Int) = (j : Int) := by omega
  have hlen := Hid.mk' HT.out.len
  have hbig := Hid.mk' HT.out.big
  have hbn : (n : Int) ≤ 140737488355328 := by have := hbig.out; omega
  have hab : i ≤ j := by omega
  have CK := Hid.mk' (known_any s)
  rw [hop] at CK
  have hsh : ((s.toList == [62]) = true ∧ shB (opn s) = true) ∨ ((s.toList == [62]) = false ∧ (s.toList == [60]) = true ∧ shB (opn s) = true) ∨ ((s.toList == [62]) = false ∧ (s.toList == [60]) = false ∧ shB (opn s) = false) := by
    obtain ⟨r1, r2, r3, r4, r5, r6, r7, r8⟩ := op_rules s _ rfl
    rw [r7, r8]
    unfold shB
    cases h7 : (opn s == 7) <;> cases h8 : (opn s == 8) <;> simp
  have hai : i ≤ n := by omega
  have hbi : j ≤ n := by omega
  have B0 := Hid.mk' (bAlloc (bAlloc (Below.refl _ w) (.cells #[.int .i64 ((i : Int)), .int .i64 ((j : Int)), .int .i64 k] 24)) (.cells #[.int .i64 0, .int .i64 0, .bool false, .bool false] 27)).drew
  have CA := Hid.mk' (fun W (h : Below w.heap.size w W) => rof_at (w := W) (k := i) (l := l) (ao := ao) (c := c) hai (HT.out.keep h))
  have CB := Hid.mk' (fun W (h : Below w.heap.size w W) => rof_at (w := W) (k := j) (l := l) (ao := ao) (c := c) hbi (HT.out.keep h))
  have xn := nl_le l
  have x1 := nl_take_le l i
  have x2 := nl_take_le l j
  have x3 := nl_mono l i j hab
  have CW := Hid.mk' (fun W (h : Below w.heap.size w W) => rwhole_any ao n c (nl (l.take i) : Nat) (nl (l.take j) : Nat) l W (by have := hlen.out; have := hbig.out; omega) (by have := hlen.out; have := hbig.out; omega) (HT.out.keep h))
  have HLO : Hid (lo l i j = wh l (nl (l.take i) : Nat) (nl (l.take j) : Nat)) := rfl
  unfold ofR
  by_cases h3 : k = 3
  · subst h3
    rw [if_pos (.inl rfl)]
    clear hsh
    unfold rt at CW
    rw [HLO.out]
    generalize wh l (nl (l.take i) : Nat) (nl (l.take j) : Nat) = R at *
    obtain ⟨F, T, L, D, E⟩ := R
    dsimp only at CW
    clear HLO
    generalize nl (l.take i) = A at *
    generalize nl (l.take j) = Bn at *
    have HIN : Hid True := trivial
    clear xn x1 x2 x3
    go_enter Try.func9, Try.ntmps9
    go_wp2_with fail
    go_region
    all_goals go_wp2_with (go_at_call 17; refine (CK.out _).mono ?_; rintro e w' ⟨rfl, hw⟩; have hq := hw.symm; subst hq; clear hw)
    all_goals refine (CA.out _ B0.out).mono ?_
    all_goals (rintro e w' ⟨rfl, hw⟩; have hq := hw.symm; subst hq; clear hw)
    all_goals go_wp2_with fail
    all_goals refine (CB.out _ B0.out).mono ?_
    all_goals (rintro e w' ⟨rfl, hw⟩; have hq := hw.symm; subst hq; clear hw)
    all_goals go_wp2_with (first | (go_at_call 19; refine HIN.out.mono ?_; rintro e w' ⟨rfl, hw⟩; have hq := hw.symm; subst hq; clear hw) | (go_at_call 11; refine (CW.out _ B0.out).mono ?_; rintro e w3 ⟨rfl, hb3⟩; have B3 := Hid.mk' (bT B0.out hb3); obtain ⟨k0, k1, k2, k3, f0, f1, f2, f3, hz⟩ := rg_cells' (bT (Below.refl _ _).drew hb3); clear hb3) | fail)
    all_goals exact bodyPost_ret (v := .tuple #[.agg #[.int .i64 (F), .int .i64 (T), .bool L, .bool D], .int .i64 E]) (by simp [results, Try.results9, go_sem, k0, k1, k2, k3]) rfl ⟨rfl, bset4' B3.out _ _ _ _⟩
  have hk3 : (k == 3) = false := by simpa using h3
  have hkr : k = 1 ∨ k = 2 := by unfold kdB at hkd; have := of_decide_eq_true hkd; omega
  have hk0 : 1 ≤ k := by omega
  have hk4 : k ≤ 3 := by omega
  rcases hsh with ⟨s1, s3⟩ | ⟨s1, s2, s3⟩ | ⟨s1, s2, s3⟩
  · rw [if_pos (.inr s3)]
    clear s3 hkr
    unfold rt at CW
    rw [HLO.out]
    generalize wh l (nl (l.take i) : Nat) (nl (l.take j) : Nat) = R at *
    obtain ⟨F, T, L, D, E⟩ := R
    dsimp only at CW
    clear HLO
    generalize nl (l.take i) = A at *
    generalize nl (l.take j) = Bn at *
    have HIN : Hid True := trivial
    clear xn x1 x2 x3
    go_enter Try.func9, Try.ntmps9
    go_wp2_with fail
    go_region
    all_goals go_wp2_with (go_at_call 17; refine (CK.out _).mono ?_; rintro e w' ⟨rfl, hw⟩; have hq := hw.symm; subst hq; clear hw)
    all_goals refine (CA.out _ B0.out).mono ?_
    all_goals (rintro e w' ⟨rfl, hw⟩; have hq := hw.symm; subst hq; clear hw)
    all_goals go_wp2_with fail
    all_goals refine (CB.out _ B0.out).mono ?_
    all_goals (rintro e w' ⟨rfl, hw⟩; have hq := hw.symm; subst hq; clear hw)
    all_goals go_wp2_with (first | (go_at_call 19; refine HIN.out.mono ?_; rintro e w' ⟨rfl, hw⟩; have hq := hw.symm; subst hq; clear hw) | (go_at_call 11; refine (CW.out _ B0.out).mono ?_; rintro e w3 ⟨rfl, hb3⟩; have B3 := Hid.mk' (bT B0.out hb3); obtain ⟨k0, k1, k2, k3, f0, f1, f2, f3, hz⟩ := rg_cells' (bT (Below.refl _ _).drew hb3); clear hb3) | fail)
    all_goals exact bodyPost_ret (v := .tuple #[.agg #[.int .i64 (F), .int .i64 (T), .bool L, .bool D], .int .i64 E]) (by simp [results, Try.results9, go_sem, k0, k1, k2, k3]) rfl ⟨rfl, bset4' B3.out _ _ _ _⟩
  · rw [if_pos (.inr s3)]
    clear s3 hkr
    unfold rt at CW
    rw [HLO.out]
    generalize wh l (nl (l.take i) : Nat) (nl (l.take j) : Nat) = R at *
    obtain ⟨F, T, L, D, E⟩ := R
    dsimp only at CW
    clear HLO
    generalize nl (l.take i) = A at *
    generalize nl (l.take j) = Bn at *
    have HIN : Hid True := trivial
    clear xn x1 x2 x3
    go_enter Try.func9, Try.ntmps9
    go_wp2_with fail
    go_region
    all_goals go_wp2_with (go_at_call 17; refine (CK.out _).mono ?_; rintro e w' ⟨rfl, hw⟩; have hq := hw.symm; subst hq; clear hw)
    all_goals refine (CA.out _ B0.out).mono ?_
    all_goals (rintro e w' ⟨rfl, hw⟩; have hq := hw.symm; subst hq; clear hw)
    all_goals go_wp2_with fail
    all_goals refine (CB.out _ B0.out).mono ?_
    all_goals (rintro e w' ⟨rfl, hw⟩; have hq := hw.symm; subst hq; clear hw)
    all_goals go_wp2_with (first | (go_at_call 19; refine HIN.out.mono ?_; rintro e w' ⟨rfl, hw⟩; have hq := hw.symm; subst hq; clear hw) | (go_at_call 11; refine (CW.out _ B0.out).mono ?_; rintro e w3 ⟨rfl, hb3⟩; have B3 := Hid.mk' (bT B0.out hb3); obtain ⟨k0, k1, k2, k3, f0, f1, f2, f3, hz⟩ := rg_cells' (bT (Below.refl _ _).drew hb3); clear hb3) | fail)
    all_goals exact bodyPost_ret (v := .tuple #[.agg #[.int .i64 (F), .int .i64 (T), .bool L, .bool D], .int .i64 E]) (by simp [results, Try.results9, go_sem, k0, k1, k2, k3]) rfl ⟨rfl, bset4' B3.out _ _ _ _⟩
  · rw [if_neg (by simp [h3, s3])]
    clear s3 HLO
    rcases hkr with rfl | rfl
    · rw [if_pos rfl]
      clear hk3 h3 hk0 hk4
      have xb := fun B (hB : j = B + 1) => nl_take l B (by have := hlen.out; omega)
      by_cases hlt : nl (l.take i) < nl (l.take j)
      · have hne : ¬ i = j := fun h => by rw [h] at hlt; omega
        obtain ⟨B, hB⟩ : ∃ B, j = B + 1 := ⟨j - 1, by omega⟩
        have xB := xb B hB
        rw [← hB] at xB
        have xm := nl_mono l i B (by omega)
        have hb1 : (j : Int) - 1 = (B : Int) := by omega
        have hBn : B < n := by omega
        have hBb : j - 1 = B := by omega
        have hBn' : (B : Int) < n := by omega
        have hB0 : (0 : Int) ≤ B := by omega
        have hlt' : (nl (l.take i) : Int) < nl (l.take j) := by omega
        have hX2 : (nl (l.take j) : Int) ≤ 140737488355328 := by have := hlen.out; have := hbig.out; omega
        cases hle : le (at8 l B) with
        | false =>
          have HX : Hid (exR l i j = ⟨(i : Int), (j : Int), false, false, 0⟩) := if_pos (.inr (by rw [hBb]; exact hle))
          have h10 : (((at8 l B).toNat : Int) == 10) = false := hle
          have HIN : Hid True := trivial
          clear hle xb xB CW hB hBb hlt xm
          generalize nl (l.take i) = A at *
          generalize nl (l.take j) = Bn at *
          clear xn x1 x2 x3
          obtain ⟨g, o, rfl, hc⟩ := HT.out.at (by omega)
          have hc0 := hc B (by omega)
          have hg : g < w.heap.size := lt_of_cell hc0
          have hg1 : ¬ g = w.heap.size := by omega
          have hg2 : ¬ g = w.heap.size + 1 := by omega
          clear hc
          go_enter Try.func9, Try.ntmps9
          go_wp2_with fail
          go_region
          all_goals go_wp2_with (go_at_call 17; refine (CK.out _).mono ?_; rintro e w' ⟨rfl, hw⟩; have hq := hw.symm; subst hq; clear hw)
          all_goals refine (CA.out _ B0.out).mono ?_
          all_goals (rintro e w' ⟨rfl, hw⟩; have hq := hw.symm; subst hq; clear hw)
          all_goals go_wp2_with fail
          all_goals refine (CB.out _ B0.out).mono ?_
          all_goals (rintro e w' ⟨rfl, hw⟩; have hq := hw.symm; subst hq; clear hw)
          all_goals go_wp2_with (first | (go_at_call 19; refine HIN.out.mono ?_; rintro e w' ⟨rfl, hw⟩; have hq := hw.symm; subst hq; clear hw) | fail)
          all_goals exact bodyPost_ret (v := .tuple #[.agg #[.int .i64 ((i : Int)), .int .i64 ((j : Int)), .bool false, .bool false], .int .i64 0]) (by simp [results, Try.results9, go_sem]) rfl ⟨by rw [HX.out]; rfl, by first | exact bAlloc (bAlloc (Below.refl _ _) _) _ | exact (bAlloc (bAlloc (Below.refl _ _) _) _).drew | exact bset4' (bAlloc (bAlloc (Below.refl _ _) _) _).drew _ _ _ _⟩
        | true =>
          have h10 : (((at8 l B).toNat : Int) == 10) = true := hle
          rw [hle, if_pos rfl] at xB
          have hC1 : (nl (l.take j) : Int) - 1 = (nl (l.take B) : Int) := by omega
          have HX : Hid (exR l i j = if ba l i = true then lo l i B else ⟨(i : Int), (B : Int), false, false, 0⟩) := by
            unfold Hid exR
            rw [if_neg (by rw [hBb, hle]; simp [hne]), hBb, hb1]
          have HLO : Hid (lo l i B = wh l (nl (l.take i) : Nat) (nl (l.take B) : Nat)) := rfl
          have CV := Hid.mk' (fun W (h : Below w.heap.size w W) => rwhole_any ao n c (nl (l.take i) : Nat) (nl (l.take B) : Nat) l W (by have := hlen.out; have := hbig.out; omega) (by have := hlen.out; have := hbig.out; omega) (HT.out.keep h))
          have HIN := Hid.mk' (indented_any ao n c i l _ hai (HT.out.keep B0.out))
          clear hle xb xB CW hB hBb hlt xm
          cases hq : ba l i with
          | false =>
            rw [hq] at HIN
            rw [hq, if_neg (by simp)] at HX
            clear hq CV HLO
            generalize nl (l.take i) = A at *
            generalize nl (l.take j) = Bn at *
            generalize nl (l.take B) = Cn at *
            clear xn x1 x2 x3
            obtain ⟨g, o, rfl, hc⟩ := HT.out.at (by omega)
            have hc0 := hc B (by omega)
            have hg : g < w.heap.size := lt_of_cell hc0
            have hg1 : ¬ g = w.heap.size := by omega
            have hg2 : ¬ g = w.heap.size + 1 := by omega
            clear hc
            go_enter Try.func9, Try.ntmps9
            go_wp2_with fail
            go_region
            all_goals go_wp2_with (go_at_call 17; refine (CK.out _).mono ?_; rintro e w' ⟨rfl, hw⟩; have hq := hw.symm; subst hq; clear hw)
            all_goals refine (CA.out _ B0.out).mono ?_
            all_goals (rintro e w' ⟨rfl, hw⟩; have hq := hw.symm; subst hq; clear hw)
            all_goals go_wp2_with fail
            all_goals refine (CB.out _ B0.out).mono ?_
            all_goals (rintro e w' ⟨rfl, hw⟩; have hq := hw.symm; subst hq; clear hw)
            all_goals go_wp2_with (first | (go_at_call 19; refine HIN.out.mono ?_; rintro e w' ⟨rfl, hw⟩; have hq := hw.symm; subst hq; clear hw) | fail)
            all_goals exact bodyPost_ret (v := .tuple #[.agg #[.int .i64 ((i : Int)), .int .i64 ((B : Int)), .bool false, .bool false], .int .i64 0]) (by simp [results, Try.results9, go_sem]) rfl ⟨by rw [HX.out]; rfl, by first | exact bAlloc (bAlloc (Below.refl _ _) _) _ | exact (bAlloc (bAlloc (Below.refl _ _) _) _).drew | exact bset4' (bAlloc (bAlloc (Below.refl _ _) _) _).drew _ _ _ _⟩
          | true =>
            rw [hq] at HIN
            rw [hq, if_pos rfl, HLO.out] at HX
            clear hq HLO
            unfold rt at CV
            generalize wh l (nl (l.take i) : Nat) (nl (l.take B) : Nat) = R at *
            obtain ⟨F, T, L, D, E⟩ := R
            dsimp only at CV
            generalize nl (l.take i) = A at *
            generalize nl (l.take j) = Bn at *
            generalize nl (l.take B) = Cn at *
            clear xn x1 x2 x3
            obtain ⟨g, o, rfl, hc⟩ := HT.out.at (by omega)
            have hc0 := hc B (by omega)
            have hg : g < w.heap.size := lt_of_cell hc0
            have hg1 : ¬ g = w.heap.size := by omega
            have hg2 : ¬ g = w.heap.size + 1 := by omega
            clear hc
            go_enter Try.func9, Try.ntmps9
            go_wp2_with fail
            go_region
            all_goals go_wp2_with (go_at_call 17; refine (CK.out _).mono ?_; rintro e w' ⟨rfl, hw⟩; have hq := hw.symm; subst hq; clear hw)
            all_goals refine (CA.out _ B0.out).mono ?_
            all_goals (rintro e w' ⟨rfl, hw⟩; have hq := hw.symm; subst hq; clear hw)
            all_goals go_wp2_with fail
            all_goals refine (CB.out _ B0.out).mono ?_
            all_goals (rintro e w' ⟨rfl, hw⟩; have hq := hw.symm; subst hq; clear hw)
            all_goals go_wp2_with (first | (go_at_call 19; refine HIN.out.mono ?_; rintro e w' ⟨rfl, hw⟩; have hq := hw.symm; subst hq; clear hw) | (go_at_call 11; refine (CV.out _ B0.out).mono ?_; rintro e w3 ⟨rfl, hb3⟩; have B3 := Hid.mk' (bT B0.out hb3); obtain ⟨k0, k1, k2, k3, f0, f1, f2, f3, hz⟩ := rg_cells' (bT (Below.refl _ _).drew hb3); clear hb3) | fail)
            all_goals exact bodyPost_ret (v := .tuple #[.agg #[.int .i64 (F), .int .i64 (T), .bool L, .bool D], .int .i64 E]) (by simp [results, Try.results9, go_sem, k0, k1, k2, k3]) rfl ⟨by rw [HX.out]; rfl, bset4' B3.out _ _ _ _⟩
      · have HX : Hid (exR l i j = ⟨(i : Int), (j : Int), false, false, 0⟩) := by
          refine if_pos ?_
          by_cases h : i = j
          · exact .inl h
          · right
            obtain ⟨B, hB⟩ : ∃ B, j = B + 1 := ⟨j - 1, by omega⟩
            have xB := xb B hB
            rw [← hB] at xB
            have xm := nl_mono l i B (by omega)
            rw [show j - 1 = B from by omega]
            cases hle : le (at8 l B) with
            | false => rfl
            | true => rw [hle, if_pos rfl] at xB; omega
        have hlt' : ¬ (nl (l.take i) : Int) < nl (l.take j) := by omega
        have HIN : Hid True := trivial
        clear xb CW hlt
        generalize nl (l.take i) = A at *
        generalize nl (l.take j) = Bn at *
        clear xn x1 x2 x3
        go_enter Try.func9, Try.ntmps9
        go_wp2_with fail
        go_region
        all_goals go_wp2_with (go_at_call 17; refine (CK.out _).mono ?_; rintro e w' ⟨rfl, hw⟩; have hq := hw.symm; subst hq; clear hw)
        all_goals refine (CA.out _ B0.out).mono ?_
        all_goals (rintro e w' ⟨rfl, hw⟩; have hq := hw.symm; subst hq; clear hw)
        all_goals go_wp2_with fail
        all_goals refine (CB.out _ B0.out).mono ?_
        all_goals (rintro e w' ⟨rfl, hw⟩; have hq := hw.symm; subst hq; clear hw)
        all_goals go_wp2_with (first | (go_at_call 19; refine HIN.out.mono ?_; rintro e w' ⟨rfl, hw⟩; have hq := hw.symm; subst hq; clear hw) | fail)
        all_goals exact bodyPost_ret (v := .tuple #[.agg #[.int .i64 ((i : Int)), .int .i64 ((j : Int)), .bool false, .bool false], .int .i64 0]) (by simp [results, Try.results9, go_sem]) rfl ⟨by rw [HX.out]; rfl, by first | exact bAlloc (bAlloc (Below.refl _ _) _) _ | exact (bAlloc (bAlloc (Below.refl _ _) _) _).drew | exact bset4' (bAlloc (bAlloc (Below.refl _ _) _) _).drew _ _ _ _⟩
    · rw [if_neg (by omega)]
      clear hk3 h3 hk0 hk4 CW
      have HIN : Hid True := trivial
      by_cases he : j = n
      · have HX : Hid (inR l i j = ⟨(i : Int), (j : Int), false, false, 0⟩) := if_pos (.inl (by rw [he]; exact hlen.out.symm))
        have hlt' : ¬ (j : Int) < n := by omega
        clear he
        generalize nl (l.take i) = A at *
        generalize nl (l.take j) = Bn at *
        clear xn x1 x2 x3
        go_enter Try.func9, Try.ntmps9
        go_wp2_with fail
        go_region
        all_goals go_wp2_with (go_at_call 17; refine (CK.out _).mono ?_; rintro e w' ⟨rfl, hw⟩; have hq := hw.symm; subst hq; clear hw)
        all_goals refine (CA.out _ B0.out).mono ?_
        all_goals (rintro e w' ⟨rfl, hw⟩; have hq := hw.symm; subst hq; clear hw)
        all_goals go_wp2_with fail
        all_goals refine (CB.out _ B0.out).mono ?_
        all_goals (rintro e w' ⟨rfl, hw⟩; have hq := hw.symm; subst hq; clear hw)
        all_goals go_wp2_with (first | (go_at_call 19; refine HIN.out.mono ?_; rintro e w' ⟨rfl, hw⟩; have hq := hw.symm; subst hq; clear hw) | fail)
        all_goals exact bodyPost_ret (v := .tuple #[.agg #[.int .i64 ((i : Int)), .int .i64 ((j : Int)), .bool false, .bool false], .int .i64 0]) (by simp [results, Try.results9, go_sem]) rfl ⟨by rw [HX.out]; rfl, by first | exact bAlloc (bAlloc (Below.refl _ _) _) _ | exact (bAlloc (bAlloc (Below.refl _ _) _) _).drew | exact bset4' (bAlloc (bAlloc (Below.refl _ _) _) _).drew _ _ _ _⟩
      · have hlt : j < n := by omega
        have hlt' : (j : Int) < n := by omega
        have hB0 : (0 : Int) ≤ j := by omega
        have HX : Hid (inR l i j = if le (at8 l j) = true then ⟨(i : Int), (j : Int), false, false, 0⟩ else ⟨(i : Int), (j : Int) + 1, false, false, 0⟩) := by
          unfold Hid inR
          rw [hlen.out]
          simp only [he, false_or]
        cases hle : le (at8 l j) with
        | false =>
          rw [hle, if_neg (by simp)] at HX
          have h10 : (((at8 l j).toNat : Int) == 10) = false := hle
          have hn10 : (((at8 l j).toNat : Int) != 10) = true := by simp only [bne, h10]; rfl
          clear hle he
          generalize nl (l.take i) = A at *
          generalize nl (l.take j) = Bn at *
          clear xn x1 x2 x3
          obtain ⟨g, o, rfl, hc⟩ := HT.out.at (by omega)
          have hc0 := hc j (by omega)
          have hg : g < w.heap.size := lt_of_cell hc0
          have hg1 : ¬ g = w.heap.size := by omega
          have hg2 : ¬ g = w.heap.size + 1 := by omega
          clear hc
          go_enter Try.func9, Try.ntmps9
          go_wp2_with fail
          go_region
          all_goals go_wp2_with (go_at_call 17; refine (CK.out _).mono ?_; rintro e w' ⟨rfl, hw⟩; have hq := hw.symm; subst hq; clear hw)
          all_goals refine (CA.out _ B0.out).mono ?_
          all_goals (rintro e w' ⟨rfl, hw⟩; have hq := hw.symm; subst hq; clear hw)
          all_goals go_wp2_with fail
          all_goals refine (CB.out _ B0.out).mono ?_
          all_goals (rintro e w' ⟨rfl, hw⟩; have hq := hw.symm; subst hq; clear hw)
          all_goals go_wp2_with (first | (go_at_call 19; refine HIN.out.mono ?_; rintro e w' ⟨rfl, hw⟩; have hq := hw.symm; subst hq; clear hw) | fail)
          all_goals exact bodyPost_ret (v := .tuple #[.agg #[.int .i64 ((i : Int)), .int .i64 ((j : Int) + 1), .bool false, .bool false], .int .i64 0]) (by simp [results, Try.results9, go_sem]) rfl ⟨by rw [HX.out]; rfl, by first | exact bAlloc (bAlloc (Below.refl _ _) _) _ | exact (bAlloc (bAlloc (Below.refl _ _) _) _).drew | exact bset4' (bAlloc (bAlloc (Below.refl _ _) _) _).drew _ _ _ _⟩
        | true =>
          rw [hle, if_pos rfl] at HX
          have h10 : (((at8 l j).toNat : Int) == 10) = true := hle
          have hn10 : (((at8 l j).toNat : Int) != 10) = false := by simp only [bne, h10]; rfl
          clear hle he
          generalize nl (l.take i) = A at *
          generalize nl (l.take j) = Bn at *
          clear xn x1 x2 x3
          obtain ⟨g, o, rfl, hc⟩ := HT.out.at (by omega)
          have hc0 := hc j (by omega)
          have hg : g < w.heap.size := lt_of_cell hc0
          have hg1 : ¬ g = w.heap.size := by omega
          have hg2 : ¬ g = w.heap.size + 1 := by omega
          clear hc
          go_enter Try.func9, Try.ntmps9
          go_wp2_with fail
          go_region
          all_goals go_wp2_with (go_at_call 17; refine (CK.out _).mono ?_; rintro e w' ⟨rfl, hw⟩; have hq := hw.symm; subst hq; clear hw)
          all_goals refine (CA.out _ B0.out).mono ?_
          all_goals (rintro e w' ⟨rfl, hw⟩; have hq := hw.symm; subst hq; clear hw)
          all_goals go_wp2_with fail
          all_goals refine (CB.out _ B0.out).mono ?_
          all_goals (rintro e w' ⟨rfl, hw⟩; have hq := hw.symm; subst hq; clear hw)
          all_goals go_wp2_with (first | (go_at_call 19; refine HIN.out.mono ?_; rintro e w' ⟨rfl, hw⟩; have hq := hw.symm; subst hq; clear hw) | fail)
          all_goals exact bodyPost_ret (v := .tuple #[.agg #[.int .i64 ((i : Int)), .int .i64 ((j : Int)), .bool false, .bool false], .int .i64 0]) (by simp [results, Try.results9, go_sem]) rfl ⟨by rw [HX.out]; rfl, by first | exact bAlloc (bAlloc (Below.refl _ _) _) _ | exact (bAlloc (bAlloc (Below.refl _ _) _) _).drew | exact bset4' (bAlloc (bAlloc (Below.refl _ _) _) _).drew _ _ _ _⟩

end Go.Proofs.Ytbknnicpdkpmiaa
