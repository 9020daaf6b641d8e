/- The reference's around. -/
import Derived.Test.YtgdhdegmjljbfaaRhd
namespace Go.Proofs.Ytgdhdegmjljbfaa
open Go.RowKit
set_option maxRecDepth 8000 in
set_option maxHeartbeats 16000000 in
theorem raround_any (base : Nat) (ao : Option Addr) (c : Nat) (R : List Rn3) (q n i : Nat) (w : World) (hR : R.length ≤ 4398046511104) (hn1 : 1 ≤ n) (hn2 : n ≤ 9999) (hF : Fst R q i) (hI : ∀ x, R[i]? = some x → x.1 ≤ q) (hap : ∀ j, gp R j = true → gp R (j + 1) = false) (HO : Hid (w.ownsRow base 48 3 (.slice ao R.length c) R.length (rvs R))) :
    Calls Try.prog 21 #[.slice ao R.length c, .int .i64 (q : Int), .int .i64 (n : Int)] w fun e w' => e = ra (cx R i n true) ∧ Below w.heap.size w w' := by
  have hi := hF.le
  have CH := Hid.mk' (fun W (hb : Below w.heap.size w W) => holding_any base ao c R q i W hR hF hI (own_keep HO.out hb))
  have HX : Hid (cx R i n true = (aro R i n).map fun x => (fr R x.1, tt R (x.2 - 1))) := rfl
  have HAP := Hid.mk' hap
  clear hF hI hap
  have HA : Hid (aro R i n = (tak R (gp R i) n i).map fun k => (aw1 R i k, k)) := rfl
  obtain ⟨T, HT⟩ : ∃ T, Hid (tak R (gp R i) n i = T) := ⟨_, rfl⟩
  rw [HT.out] at HA
  rw [HA.out] at HX
  by_cases hl : i < R.length
  · have HD : hd R i = (i : Int) := if_pos hl
    rw [HD] at CH
    have h0 : ¬ ((i : Int) < 0) := by omega
    have HTL := Hid.mk' (fun k (h : T = some k) => tak_le (ah := gp R i) (n := n) hi (HT.out.trans h))
    have HAW : Hid (∀ k, aw1 R i k = if !(gp R i) && !(gp R (k - 1)) && (decide (0 < i) && gp R (i - 1)) then i - 1 else i) := fun k => rfl
    -- a run in memory
    have HC : Hid (∀ W, Below w.heap.size w W → ∀ j, j < R.length → ∃ g, ao = some ⟨g, 0, none⟩ ∧ W.cell? ⟨g, j * 3, none⟩ = some (.int .i64 (fr R j : Int)) ∧ W.cell? ⟨g, j * 3 + 1, none⟩ = some (.int .i64 (tt R j : Int)) ∧ W.cell? ⟨g, j * 3 + 2, none⟩ = some (.bool (gp R j)) ∧ g < W.heap.size) := fun W hb j hj => by
      obtain ⟨x, hx, h1, h2⟩ := own_at hj
      obtain ⟨g, e, c0, c1, c2⟩ := rrun_cells (own_keep HO.out hb) hx
      exact ⟨g, e, by rw [h1]; exact c0, by rw [h2]; exact c1, by rw [gp_at hx]; exact c2, lt_of_cell c0⟩
    obtain ⟨gb, eb, -, -, ci, lb⟩ := HC.out _ (Below.refl _ _) i hl
    subst eb
    go_enter Try.func21, Try.ntmps21
    go_wp2_with (go_at_call 32; refine (CH.out _ (bAlloc (Below.refl _ _) _)).mono ?_; rintro e w' ⟨rfl, hw⟩; have hq := hw.symm; subst hq; clear hw)
    have B1 := Hid.mk' (bAlloc (Below.refl w.heap.size w) (.cells #[.int .i64 0, .int .i64 0, .bool false] 48))
    go_loopg [9, 10] n (fun g x9 x10 wx => ∃ k j : Nat, x9 = .int .i64 (k : Int) ∧ x10 = .int .i64 (j : Int) ∧ j + g = n ∧ k ≤ R.length ∧ Hid (tak R (gp R i) g k = T) ∧ Hid (gp R i = false → gp R k = false) ∧ w.alloc (.cells #[.int .i64 0, .int .i64 0, .bool false] 48) = wx)
    case atStart => exact ⟨i, 0, rfl, rfl, by omega, hi, HT.out, fun h => h, rfl⟩
    case round =>
      obtain ⟨k, j, rfl, rfl, hj, hk, HK, HG, rfl⟩ := hrel
      cases gk with
      | succ g =>
        have h1 : (j : Int) < (n : Int) := by omega
        have hwj : IntKind.i64.wrap ((j : Int) + 1) = ((j + 1 : Nat) : Int) := by rw [IntKind.wrap_i64]; omega
        obtain ⟨K1, HK1⟩ : ∃ K1, Hid (k + 1 = K1) := ⟨_, rfl⟩
        obtain ⟨K2, HK2⟩ : ∃ K2, Hid (k + 2 = K2) := ⟨_, rfl⟩
        have hK1L : K1 ≤ R.length + 1 := by have := HK1.out; omega
        have hw1 : IntKind.i64.wrap ((k : Int) + 1) = (K1 : Int) := by have := HK1.out; rw [IntKind.wrap_i64]; omega
        have hw2 : IntKind.i64.wrap ((k : Int) + 2) = (K2 : Int) := by have := HK2.out; rw [IntKind.wrap_i64]; omega
        have hw3 : IntKind.i64.wrap ((K1 : Int) + 1) = (K2 : Int) := by have := HK2.out; have := HK1.out; rw [IntKind.wrap_i64]; omega
        have HS : Hid ((match stp R (gp R i) k with | none => none | some k' => tak R (gp R i) g k') = T) := HK.out
        have HST : Hid (stp R (gp R i) k = if k1 R k = R.length then none else some (k2 R (gp R i) (k1 R k + 1))) := rfl
        clear HK
        have hk0 : (0 : Int) ≤ (k : Int) := by omega
        rcases Nat.lt_or_ge k R.length with hkl | hkl
        · have g1 : (k : Int) < (R.length : Int) := by omega
          have g2 : ¬ ((R.length : Int) ≤ (k : Int)) := by omega
          obtain ⟨gb2, e2, -, -, ck, -⟩ := HC.out _ (Below.refl _ _) k hkl
          cases e2
          cases hg : gp R k with
          | true =>
            have hai : gp R i = true := by cases h : gp R i with | true => rfl | false => have := HG.out h; rw [hg] at this; cases this
            have HD1 : Hid (k1 R k = K1) := by unfold Hid k1; rw [if_pos hg, HK1.out]
            rw [HD1.out] at HST
            rw [hg] at ck
            by_cases h3 : K1 = R.length
            · have h4 : (R.length : Int) ≤ (K1 : Int) := by omega
              have HN : Hid (cx R i n true = none) := by
                have := HS.out
                rw [HST.out, if_pos h3] at this
                unfold Hid; rw [HX.out, ← this]; rfl
              clear h3
              go_wp2
              all_goals exact bodyPost_ret (v := .tuple #[.agg #[.int .i64 0, .int .i64 0, .bool false], .int .i64 130]) (by simp [results, Try.results21, go_sem]) rfl ⟨by rw [HN.out]; rfl, B1.out⟩
            · have h4 : ¬ ((R.length : Int) ≤ (K1 : Int)) := by have := HK1.out; omega
              have HN : Hid (tak R (gp R i) g K2 = T) := by
                have := HS.out
                rw [HST.out, if_neg h3] at this
                have e : k2 R (gp R i) (K1 + 1) = K2 := by unfold k2; rw [hai]; have := HK1.out; have := HK2.out; simp; omega
                simp only [e] at this
                exact this
              have hK2L : K2 ≤ R.length := by have := HK1.out; have := HK2.out; omega
              clear h3
              go_wp2
              go_roundg g
              case measure => omega
              case rel => exact ⟨K2, j + 1, rfl, rfl, by omega, hK2L, HN.out, (fun h => by rw [hai] at h; cases h), rfl⟩
          | false =>
            have HD1 : Hid (k1 R k = k) := by unfold Hid k1; rw [hg]; rfl
            rw [HD1.out, HK1.out, if_neg (by omega)] at HST
            rw [hg] at ck
            have HKK : Hid (k2 R (gp R i) K1 = if !(gp R i) && gp R K1 then K1 + 1 else K1) := rfl
            have hK1R : K1 ≤ R.length := by have := HK1.out; omega
            have HS2 : Hid (tak R (gp R i) g (k2 R (gp R i) K1) = T) := by have := HS.out; rw [HST.out] at this; exact this
            rcases Nat.lt_or_ge K1 R.length with hk1 | hk1
            · have g3 : (K1 : Int) < (R.length : Int) := by omega
              have g4 : (0 : Int) ≤ (K1 : Int) := by omega
              obtain ⟨gb3, e3, -, -, ck1, -⟩ := HC.out _ (Below.refl _ _) K1 hk1
              cases e3
              have hi1 : (i : Int) < (R.length : Int) := by omega
              have hi0 : (0 : Int) ≤ (i : Int) := by omega
              cases h5 : gp R K1 with
              | false =>
                rw [h5] at ck1 HKK
                have HN : Hid (tak R (gp R i) g K1 = T) := by unfold Hid; have := HS2.out; rw [HKK.out] at this; simpa using this
                go_wp2
                go_roundg g
                case measure => omega
                case rel => exact ⟨K1, j + 1, rfl, rfl, by omega, hK1R, HN.out, (fun _ => h5), rfl⟩
              | true =>
                rw [h5] at ck1 HKK
                cases h6 : gp R i with
                | true =>
                  rw [h6] at ci
                  have HN : Hid (tak R (gp R i) g K1 = T) := by unfold Hid; have := HS2.out; rw [HKK.out, h6] at this; rw [h6]; simpa using this
                  go_wp2
                  go_roundg g
                  case measure => omega
                  case rel => exact ⟨K1, j + 1, rfl, rfl, by omega, hK1R, HN.out, (fun h => by rw [h6] at h; cases h), rfl⟩
                | false =>
                  rw [h6] at ci
                  have e9 : K1 + 1 = K2 := by have := HK1.out; have := HK2.out; omega
                  have HN : Hid (tak R (gp R i) g K2 = T) := by unfold Hid; have := HS2.out; rw [HKK.out, h6, e9] at this; rw [h6]; simpa using this
                  have HG2 : Hid (gp R K2 = false) := by have := HAP.out K1 h5; rw [e9] at this; exact this
                  have hK2L : K2 ≤ R.length := by omega
                  clear e9
                  go_wp2
                  go_roundg g
                  case measure => omega
                  case rel => exact ⟨K2, j + 1, rfl, rfl, by omega, hK2L, HN.out, (fun _ => HG2.out), rfl⟩
            · have g3 : ¬ ((K1 : Int) < (R.length : Int)) := by omega
              have h5 : gp R K1 = false := gp_out hk1
              rw [h5] at HKK
              have HN : Hid (tak R (gp R i) g K1 = T) := by unfold Hid; have := HS2.out; rw [HKK.out] at this; simpa using this
              go_wp2
              go_roundg g
              case measure => omega
              case rel => exact ⟨K1, j + 1, rfl, rfl, by omega, hK1R, HN.out, (fun _ => h5), rfl⟩
        · have g1 : (R.length : Int) ≤ (k : Int) := by omega
          have HD1 : Hid (k1 R k = R.length) := by unfold Hid k1; rw [gp_out hkl]; simp; omega
          have HN : Hid (cx R i n true = none) := by
            have := HS.out
            rw [HST.out, HD1.out, if_pos rfl] at this
            unfold Hid; rw [HX.out, ← this]; rfl
          go_wp2
          all_goals exact bodyPost_ret (v := .tuple #[.agg #[.int .i64 0, .int .i64 0, .bool false], .int .i64 130]) (by simp [results, Try.results21, go_sem]) rfl ⟨by rw [HN.out]; rfl, B1.out⟩
      | zero =>
        have h1 : ¬ ((j : Int) < (n : Int)) := by omega
        obtain rfl : T = some k := HK.out.symm
        obtain ⟨hk1, hk2⟩ := HTL.out k rfl
        have HN : Hid (cx R i n true = some (fr R (aw1 R i k), tt R (k - 1))) := HX.out
        obtain ⟨D, HDD⟩ : ∃ D, Hid (k - 1 = D) := ⟨_, rfl⟩
        have hwD : IntKind.i64.wrap ((k : Int) - 1) = (D : Int) := by have := HDD.out; rw [IntKind.wrap_i64]; omega
        have hD0 : (0 : Int) ≤ (D : Int) := by omega
        have hD1 : (D : Int) < (R.length : Int) := by have := HDD.out; omega
        have hi0 : (0 : Int) ≤ (i : Int) := by omega
        have hi1 : (i : Int) < (R.length : Int) := by omega
        obtain ⟨gb2, e2, ci0, -, -, -⟩ := HC.out _ (Below.refl _ _) i hl
        cases e2
        obtain ⟨gb3, e3, -, cD, cDg, -⟩ := HC.out _ (Below.refl _ _) D (by have := HDD.out; omega)
        cases e3
        have HW := Hid.mk' (HAW.out k)
        rw [HDD.out] at HW HN
        have hwi : IntKind.i64.wrap ((i : Int) - 1) = (i : Int) - 1 := by rw [IntKind.wrap_i64]; omega
        cases h6 : gp R i with
        | true =>
          rw [h6] at ci HW
          have e9 : aw1 R i k = i := by rw [HW.out]; simp
          rw [e9] at HN
          clear e9
          go_wp2_with fail
          all_goals go_region
          all_goals go_wp2
          all_goals first | exact bodyPost_ret (v := .tuple #[.agg #[.int .i64 (fr R i : Int), .int .i64 (tt R D : Int), .bool false], .int .i64 0]) (by simp [results, Try.results21, go_sem]) rfl ⟨by rw [HN.out]; rfl, (bAlloc (bAlloc (Below.refl _ _) _).drew _)⟩ | exact bodyPost_ret (v := .tuple #[.agg #[.int .i64 (fr R i : Int), .int .i64 (tt R D : Int), .bool false], .int .i64 0]) (by simp [results, Try.results21, go_sem]) rfl ⟨by rw [HN.out]; rfl, (bAlloc (bAlloc (Below.refl _ _) _) _).drew⟩
        | false =>
          rw [h6] at ci HW
          cases h7 : gp R D with
          | true =>
            rw [h7] at cDg HW
            have e9 : aw1 R i k = i := by rw [HW.out]; simp
            rw [e9] at HN
            clear e9
            go_wp2_with fail
            all_goals go_region
            all_goals go_wp2
            all_goals first | exact bodyPost_ret (v := .tuple #[.agg #[.int .i64 (fr R i : Int), .int .i64 (tt R D : Int), .bool false], .int .i64 0]) (by simp [results, Try.results21, go_sem]) rfl ⟨by rw [HN.out]; rfl, (bAlloc (bAlloc (Below.refl _ _) _).drew _)⟩ | exact bodyPost_ret (v := .tuple #[.agg #[.int .i64 (fr R i : Int), .int .i64 (tt R D : Int), .bool false], .int .i64 0]) (by simp [results, Try.results21, go_sem]) rfl ⟨by rw [HN.out]; rfl, (bAlloc (bAlloc (Below.refl _ _) _) _).drew⟩
          | false =>
            rw [h7] at cDg HW
            rcases Nat.eq_zero_or_pos i with hz | hz
            · have e9 : aw1 R i k = i := by rw [HW.out, hz]; simp
              rw [e9] at HN
              have hz1 : ¬ ((0 : Int) < (i : Int)) := by omega
              clear e9 hz
              go_wp2_with fail
              all_goals go_region
              all_goals go_wp2
              all_goals first | exact bodyPost_ret (v := .tuple #[.agg #[.int .i64 (fr R i : Int), .int .i64 (tt R D : Int), .bool false], .int .i64 0]) (by simp [results, Try.results21, go_sem]) rfl ⟨by rw [HN.out]; rfl, (bAlloc (bAlloc (Below.refl _ _) _).drew _)⟩ | exact bodyPost_ret (v := .tuple #[.agg #[.int .i64 (fr R i : Int), .int .i64 (tt R D : Int), .bool false], .int .i64 0]) (by simp [results, Try.results21, go_sem]) rfl ⟨by rw [HN.out]; rfl, (bAlloc (bAlloc (Below.refl _ _) _) _).drew⟩
            · obtain ⟨E, HE⟩ : ∃ E, Hid (i - 1 = E) := ⟨_, rfl⟩
              have hz1 : (0 : Int) < (i : Int) := by omega
              have hwE : IntKind.i64.wrap ((i : Int) - 1) = (E : Int) := by have := HE.out; rw [IntKind.wrap_i64]; omega
              have hE0 : (0 : Int) ≤ (E : Int) := by omega
              have hE1 : (E : Int) < (R.length : Int) := by have := HE.out; omega
              obtain ⟨gb4, e4, cE0, -, cEg, -⟩ := HC.out _ (Below.refl _ _) E (by have := HE.out; omega)
              cases e4
              rw [HE.out] at HW
              clear hwi
              cases h8 : gp R E with
              | true =>
                rw [h8] at cEg HW
                have e9 : aw1 R i k = E := by rw [HW.out]; simp [hz]
                rw [e9] at HN
                clear e9
                go_wp2_with fail
                all_goals go_region
                all_goals go_wp2
                all_goals first | exact bodyPost_ret (v := .tuple #[.agg #[.int .i64 (fr R E : Int), .int .i64 (tt R D : Int), .bool false], .int .i64 0]) (by simp [results, Try.results21, go_sem]) rfl ⟨by rw [HN.out]; rfl, (bAlloc (bAlloc (Below.refl _ _) _).drew _)⟩ | exact bodyPost_ret (v := .tuple #[.agg #[.int .i64 (fr R E : Int), .int .i64 (tt R D : Int), .bool false], .int .i64 0]) (by simp [results, Try.results21, go_sem]) rfl ⟨by rw [HN.out]; rfl, (bAlloc (bAlloc (Below.refl _ _) _) _).drew⟩
              | false =>
                rw [h8] at cEg HW
                have e9 : aw1 R i k = i := by rw [HW.out]; simp
                rw [e9] at HN
                clear e9
                go_wp2_with fail
                all_goals go_region
                all_goals go_wp2
                all_goals first | exact bodyPost_ret (v := .tuple #[.agg #[.int .i64 (fr R i : Int), .int .i64 (tt R D : Int), .bool false], .int .i64 0]) (by simp [results, Try.results21, go_sem]) rfl ⟨by rw [HN.out]; rfl, (bAlloc (bAlloc (Below.refl _ _) _).drew _)⟩ | exact bodyPost_ret (v := .tuple #[.agg #[.int .i64 (fr R i : Int), .int .i64 (tt R D : Int), .bool false], .int .i64 0]) (by simp [results, Try.results21, go_sem]) rfl ⟨by rw [HN.out]; rfl, (bAlloc (bAlloc (Below.refl _ _) _) _).drew⟩
  · have HD : hd R i = -1 := if_neg hl
    rw [HD] at CH
    have HN : Hid (cx R i n true = none) := by
      have e : T = none := by
        rw [← HT.out]
        obtain ⟨m, rfl⟩ : ∃ m, n = m + 1 := ⟨n - 1, by omega⟩
        unfold tak stp k1
        have h5 : gp R i = false := gp_out (by omega)
        rw [h5]
        simp only [Bool.false_eq_true, if_false]
        rw [if_pos (by omega)]
      unfold Hid; rw [HX.out, e]; rfl
    go_enter Try.func21, Try.ntmps21
    go_wp2_with (go_at_call 32; refine (CH.out _ (bAlloc (Below.refl _ _) _)).mono ?_; rintro e w' ⟨rfl, hw⟩; have hq := hw.symm; subst hq; clear hw)
    all_goals exact bodyPost_ret (v := .tuple #[.agg #[.int .i64 0, .int .i64 0, .bool false], .int .i64 130]) (by simp [results, Try.results21, go_sem]) rfl ⟨by rw [HN.out]; rfl, bAlloc (Below.refl _ _) _⟩
end Go.Proofs.Ytgdhdegmjljbfaa
