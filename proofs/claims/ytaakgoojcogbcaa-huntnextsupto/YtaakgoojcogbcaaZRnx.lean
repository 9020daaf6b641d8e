/- The reference's Next. -/
import Derived.Test.YtaakgoojcogbcaaZHit
namespace Go.Proofs.Ytaakgoojcogbcaa
open Go.RowKit
theorem cnt_take {P : Nat → Bool} {H : List Nat} {i : Nat} (h : i < H.length) : (H.take (i + 1)).countP P = (H.take i).countP P + if P (H.getD i 0) then 1 else 0 := by
  rw [List.take_succ_eq_append_getElem h, List.countP_append, getD_at h]
  simp [List.countP_cons]
/-- the index that the reference takes -/
theorem ref_fwd {H : List Nat} {k C : Nat} (hr : Ris H) (h0 : 0 < H.length) : itr (wy false H) (C + 1) k = H.getD ((hUp H k + C) % H.length) 0 := go_fwd hr h0 C
theorem ref_bwd {H : List Nat} {k C : Nat} (hr : Ris H) (h0 : 0 < H.length) : itr (wy true H) (C + 1) k = H.getD ((hDn H k + (C + 1) * (H.length - 1)) % H.length) 0 := go_bwd hr h0 C
theorem rn_facts (U Dn C' n : Nat) (CV : Int) (hCV : CV = ((C' + 1 : Nat) : Int)) (hU : U ≤ n) (hD : Dn ≤ n) (hn : n ≤ 1048577) (h0 : 0 < n) (h9 : C' + 1 ≤ 9999) :
    IntKind.i64.wrap ((U : Int) + CV) = (U : Int) + CV ∧ IntKind.i64.wrap ((U : Int) + CV - 1) = ((U + C' : Nat) : Int) ∧ (C' = 0 → Go.RowKit.wrap64 (U : Int) = ((U + C' : Nat) : Int)) ∧ Int.tmod ((U + C' : Nat) : Int) (n : Int) = (((U + C') % n : Nat) : Int) ∧ IntKind.i64.wrap ((Dn : Int) - CV) = (Dn : Int) - ((C' + 1 : Nat) : Int) ∧
    IntKind.i64.wrap (Int.tmod ((Dn : Int) - ((C' + 1 : Nat) : Int)) (n : Int) + (n : Int)) = Int.tmod ((Dn : Int) - ((C' + 1 : Nat) : Int)) (n : Int) + (n : Int) ∧ IntKind.i64.wrap (Int.tmod ((Dn : Int) - ((C' + 1 : Nat) : Int)) (n : Int)) = Int.tmod ((Dn : Int) - ((C' + 1 : Nat) : Int)) (n : Int) ∧
    Int.tmod (Int.tmod ((Dn : Int) - ((C' + 1 : Nat) : Int)) (n : Int) + (n : Int)) (n : Int) = (((Dn + (C' + 1) * (n - 1)) % n : Nat) : Int) ∧ ¬ ((n : Int) = 0) := by
  have hn' : (0 : Int) < (n : Int) := by omega
  have hb1 : -(n : Int) < Int.tmod ((Dn : Int) - ((C' + 1 : Nat) : Int)) (n : Int) ∧ Int.tmod ((Dn : Int) - ((C' + 1 : Nat) : Int)) (n : Int) < (n : Int) := by
    refine ⟨?_, Int.tmod_lt_of_pos _ hn'⟩
    by_cases hmd : C' + 1 ≤ Dn
    · have : 0 ≤ Int.tmod ((Dn : Int) - ((C' + 1 : Nat) : Int)) (n : Int) := Int.tmod_nonneg _ (by omega)
      omega
    · rw [show (Dn : Int) - ((C' + 1 : Nat) : Int) = -((C' + 1 - Dn : Nat) : Int) by omega, Int.neg_tmod]
      have := Int.tmod_lt_of_pos ((C' + 1 - Dn : Nat) : Int) hn'
      omega
  refine ⟨by rw [IntKind.wrap_i64]; omega, by rw [IntKind.wrap_i64]; omega, fun h => by unfold Go.RowKit.wrap64; omega, by rw [Int.tmod_eq_emod_of_nonneg (by omega), Int.natCast_emod], by rw [IntKind.wrap_i64]; omega, ?_, ?_, tmod_back Dn (C' + 1) n h0, by omega⟩
  · rw [IntKind.wrap_i64]; omega
  · rw [IntKind.wrap_i64]; omega
set_option maxRecDepth 8000 in
set_option maxHeartbeats 16000000 in
theorem rnext_any (HSC : SearchC) (w : World) (ao : Option Addr) (n c : Nat) (t : List UInt8) (ap : Option Addr) (np cp_ : Nat) (p : List UInt8) (k C : Int) (b : Bool) (hn : n ≤ 1048576) (hg : gd p) (HT : Hid (Tx w ao n c t)) (HP : Hid (Tx w ap np cp_ p)) :
    Calls Try.prog 22 #[.slice ao n c, .int .i64 k, .int .i64 C, .slice ap np cp_, .bool b] w fun e w' => NeP (nxE (cmp p).2 t k C b) w e w' := by
  have hlen := HT.out.len
  obtain ⟨l, HL⟩ : ∃ l, Hid ((cmp p).2 = l) := ⟨_, rfl⟩
  have HB0 := Hid.mk' (bAlloc (Below.refl _ w) (.cells #[.int .i64 0, .int .i64 0, .int .i64 0] 42))
  have HK0 := Hid.mk' (Blk.new w 42 #[.int .i64 0, .int .i64 0, .int .i64 0])
  have CC := Hid.mk' (compiles_any _ ap np cp_ p (HP.out.keep HB0.out))
  have HG := Hid.mk' hg
  rw [HL.out]
  by_cases hk0 : k < 0
  · have hk0' : decide (k < 0) = true := decide_eq_true hk0
    have HE : Hid (nxE l t k C b = tg 0 0 0 2) := nx_bad (by omega)
    clear hk0
    go_enter Try.func22, Try.ntmps22
    go_wp2
    exact bodyPost_ret (v := .tuple #[.agg #[.int .i64 0, .int .i64 0, .int .i64 0], .int .i64 2]) (by simp [results, Try.results22, go_sem]) rfl ⟨HE.out.symm, by first | exact bAlloc (Below.refl _ _) _ | exact bset (bset (bset (bAlloc (Below.refl _ _) _) _ (by simp)) _ (by simp)) _ (by simp)⟩
  · have hk0' : decide (k < 0) = false := decide_eq_false hk0
    by_cases hk1 : (n : Int) < k
    · have hk1' : decide ((n : Int) < k) = true := decide_eq_true hk1
      have HE : Hid (nxE l t k C b = tg 0 0 0 2) := nx_bad (by omega)
      clear hk0 hk1
      go_enter Try.func22, Try.ntmps22
      go_wp2
      exact bodyPost_ret (v := .tuple #[.agg #[.int .i64 0, .int .i64 0, .int .i64 0], .int .i64 2]) (by simp [results, Try.results22, go_sem]) rfl ⟨HE.out.symm, by first | exact bAlloc (Below.refl _ _) _ | exact bset (bset (bset (bAlloc (Below.refl _ _) _) _ (by simp)) _ (by simp)) _ (by simp)⟩
    · have hk1' : decide ((n : Int) < k) = false := decide_eq_false hk1
      by_cases hC0 : C < 0
      · have hC0' : decide (C < 0) = true := decide_eq_true hC0
        have HE : Hid (nxE l t k C b = tg 0 0 0 2) := nx_bad (by omega)
        clear hC0
        go_enter Try.func22, Try.ntmps22
        go_wp2
        exact bodyPost_ret (v := .tuple #[.agg #[.int .i64 0, .int .i64 0, .int .i64 0], .int .i64 2]) (by simp [results, Try.results22, go_sem]) rfl ⟨HE.out.symm, by first | exact bAlloc (Below.refl _ _) _ | exact bset (bset (bset (bAlloc (Below.refl _ _) _) _ (by simp)) _ (by simp)) _ (by simp)⟩
      · have hC0' : decide (C < 0) = false := decide_eq_false hC0
        by_cases hC1 : 9999 < C
        · have hC1' : decide (9999 < C) = true := decide_eq_true hC1
          have HE : Hid (nxE l t k C b = tg 0 0 0 2) := nx_bad (by omega)
          clear hC0 hC1
          go_enter Try.func22, Try.ntmps22
          go_wp2
          exact bodyPost_ret (v := .tuple #[.agg #[.int .i64 0, .int .i64 0, .int .i64 0], .int .i64 2]) (by simp [results, Try.results22, go_sem]) rfl ⟨HE.out.symm, by first | exact bAlloc (Below.refl _ _) _ | exact bset (bset (bset (bAlloc (Below.refl _ _) _) _ (by simp)) _ (by simp)) _ (by simp)⟩
        · have hC1' : decide (9999 < C) = false := decide_eq_false hC1
          have hok : 0 ≤ k ∧ k ≤ t.length ∧ 0 ≤ C ∧ C ≤ 9999 := by omega
          obtain ⟨kn, rfl⟩ : ∃ j : Nat, k = (j : Int) := ⟨k.toNat, by omega⟩
          have HOK := Hid.mk' hok
          have hknn : kn ≤ n := by omega
          have hknn' : ¬ n < kn := by omega
          have hkni : ¬ ((n : Int) < (kn : Int)) := by omega
          obtain ⟨C', HC'⟩ : ∃ C' : Nat, Hid (max C 1 = ((C' + 1 : Nat) : Int)) := ⟨(max C 1).toNat - 1, by unfold Hid; omega⟩
          have hC9 : C' + 1 ≤ 9999 := by have := HC'.out; omega
          have HC9 := Hid.mk' hC9
          clear hok hC0 hC1 hk0 hk1 hC9
          go_enter Try.func22, Try.ntmps22
          go_wp2_with fail
          refine CC.out.mono ?_
          rintro e w1 ⟨hb1, r, rfl, hr⟩
          have hr0 : r = 0 := hr.2 HG.out
          subst hr0
          have B1 := Hid.mk' (bT HB0.out hb1)
          have K1 := Hid.mk' (HK0.out.keep hb1)
          clear hb1 hr CC HB0 HK0
          have CH := Hid.mk' (hits_any HSC w1 ao n c t ap np cp_ p hn HG.out (HT.out.keep B1.out) (HP.out.keep B1.out))
          rw [HL.out] at CH
          go_wp2_with fail
          refine CH.out.mono ?_
          rintro e w2 ⟨v, rfl, ho, hb2⟩
          have B2 := Hid.mk' (bT B1.out hb2)
          have K2 := Hid.mk' (K1.out.keep hb2)
          have O2 := Hid.mk' ho
          have hHl := hs_len l t
          obtain ⟨av, cv, ev⟩ := own_shape ho
          subst ev
          clear ho hb2 CH B1 K1
          have c0 : w2.cell? ⟨w.heap.size, 0, none⟩ = some (.int .i64 0) := K2.out.cell (j := 0) rfl
          have c1 : w2.cell? ⟨w.heap.size, 1, none⟩ = some (.int .i64 0) := K2.out.cell (j := 1) rfl
          have c2 : w2.cell? ⟨w.heap.size, 2, none⟩ = some (.int .i64 0) := K2.out.cell (j := 2) rfl
          have z0 := K2.out.frozen 0
          have z1 := K2.out.frozen 1
          have z2 := K2.out.frozen 2
          cases hH : okh (hs l t) with
          | false =>
            have h0 : (hs l t).length = 0 := by unfold okh at hH; simpa using hH
            have h0' : (((hs l t).length : Int) == 0) = true := by rw [h0]; rfl
            have HE : Hid (nxE l t (kn : Int) C b = tg 0 0 0 120) := nx_none HOK.out hH
            clear hH h0
            go_wp2
            exact bodyPost_ret (v := .tuple #[.agg #[.int .i64 0, .int .i64 0, .int .i64 0], .int .i64 120]) (by simp [results, Try.results22, go_sem, c0, c1, c2]) rfl ⟨HE.out.symm, by first | exact B2.out | exact bset (bset (bset B2.out _ (by simp)) _ (by simp)) _ (by simp)⟩
          | true =>
            have h0 := okh_pos hH
            have h0' : (((hs l t).length : Int) == 0) = false := beq_false_of_ne (by omega)
            have HE : Hid (nxE l t (kn : Int) C b = tg (kn : Int) (itr (wy b (hs l t)) (C' + 1) kn : Nat) 1 0) := by
              unfold Hid; rw [nx_yes HOK.out hH, HC'.out, Int.toNat_natCast, Int.toNat_natCast]
            have HF := Hid.mk' (ref_fwd (H := hs l t) (k := kn) (C := C') hs_ris h0)
            have HBW := Hid.mk' (ref_bwd (H := hs l t) (k := kn) (C := C') hs_ris h0)
            have HUL := Hid.mk' (hUp_le (H := hs l t) (at_ := kn))
            have HDL := Hid.mk' (hDn_le (H := hs l t) (at_ := kn))
            have HUD : Hid (hUp (hs l t) kn = (hs l t).countP (fun h => decide (h ≤ kn))) := rfl
            have HDD : Hid (hDn (hs l t) kn = (hs l t).countP (fun h => decide (h < kn))) := rfl
            obtain ⟨g, cap, eg, _, _⟩ := own_some O2.out h0
            injection eg with e1 e2 e3
            subst e1 e3
            have HCL : Hid (∀ j, j < (hs l t).length → w2.cell? ⟨g, j, none⟩ = some (.int .i64 ((hs l t).getD j 0 : Int))) := fun j hj => row_cell O2.out (nvs_at hj)
            obtain ⟨H, HH⟩ : ∃ H, Hid (hs l t = H) := ⟨_, rfl⟩
            rw [HH.out] at h0 h0' HE HF HBW HUL HDL HUD HDD HCL hHl ⊢
            clear hH O2 HOK
            by_cases hCz : C = 0
            · have hCz' : (C == 0) = true := by simp [hCz]
              have HCv : Hid (C' = 0) := by have := HC'.out; unfold Hid; omega
              clear hCz
              go_wp2_with fail
              go_loopg [14, 15, 16] H.length (fun m x14 x15 x16 wx => ∃ i : Nat, x16 = .int .i64 (i : Int) ∧ i + m = H.length ∧ x14 = .int .i64 ((H.take i).countP (fun h => decide (h < kn)) : Int) ∧ x15 = .int .i64 ((H.take i).countP (fun h => decide (h ≤ kn)) : Int) ∧ wx = w2)
              case atStart => exact ⟨0, rfl, by omega, rfl, rfl, rfl⟩
              case round =>
                obtain ⟨i, rfl, him, rfl, rfl, hw⟩ := hrel
                have hw' := hw.symm
                clear hw
                subst hw'
                cases gk with
                | zero =>
                  have hi1 : ¬ ((i : Int) < (H.length : Int)) := by omega
                  have hiE : i = H.length := by omega
                  subst hiE
                  rw [List.take_length, ← HUD.out, ← HDD.out]
                  obtain ⟨U, HU⟩ : ∃ U, Hid (hUp H kn = U) := ⟨_, rfl⟩
                  obtain ⟨Dn, HD⟩ : ∃ D, Hid (hDn H kn = D) := ⟨_, rfl⟩
                  rw [HU.out] at HF HUL ⊢
                  rw [HD.out] at HBW HDL ⊢
                  have hm2 := Nat.mod_lt (U + C') h0
                  have hm3 := Nat.mod_lt (Dn + (C' + 1) * (H.length - 1)) h0
                  obtain ⟨hs1, hs2, hs2', hm1, hs3, hs4, hwt, htb, hm5⟩ := rn_facts U Dn C' H.length 1 (by have := HCv.out; omega) HUL.out HDL.out (by omega) h0 HC9.out
                  replace hs2' := hs2' HCv.out
                  clear hs2
                  obtain ⟨T1, HT1⟩ : ∃ T1, Hid (Int.tmod ((Dn : Int) - ((C' + 1 : Nat) : Int)) (H.length : Int) = T1) := ⟨_, rfl⟩
                  have hT1 := HT1.out
                  rw [hT1] at hs4 hwt htb
                  obtain ⟨V1, HV1⟩ : ∃ V, Hid (U + C' = V) := ⟨_, rfl⟩
                  obtain ⟨E1, HE1⟩ : ∃ E : Int, Hid ((Dn : Int) - ((C' + 1 : Nat) : Int) = E) := ⟨_, rfl⟩
                  have hV0 : 0 ≤ (V1 : Int) := by omega
                  rw [HE1.out] at hT1 hs3
                  have cF := HCL.out _ hm2
                  have cB := HCL.out _ hm3
                  have hm2' : (((U + C') % H.length : Nat) : Int) < (H.length : Int) := by omega
                  have hm3' : (((Dn + (C' + 1) * (H.length - 1)) % H.length : Nat) : Int) < (H.length : Int) := by omega
                  rw [← HF.out] at cF
                  rw [← HBW.out] at cB
                  obtain ⟨iF, HiF⟩ : ∃ i, Hid ((U + C') % H.length = i) := ⟨_, rfl⟩
                  obtain ⟨iB, HiB⟩ : ∃ i, Hid ((Dn + (C' + 1) * (H.length - 1)) % H.length = i) := ⟨_, rfl⟩
                  rw [HiF.out] at hm1 hm2' cF
                  rw [HV1.out] at hm1 hs2'
                  rw [HiB.out] at htb hm3' cB
                  clear hm2 hm3 HF HBW HCL him HT1
                  cases b with
                  | false =>
                    obtain ⟨X, HX⟩ : ∃ X, Hid (itr (wy false H) (C' + 1) kn = X) := ⟨_, rfl⟩
                    rw [HX.out] at cF HE
                    clear cB htb hm3' hs3 hs4 hT1 hwt
                    go_wp2
                    exact bodyPost_ret (v := .tuple #[.agg #[.int .i64 (kn : Int), .int .i64 (X : Int), .int .i64 1], .int .i64 0]) (by simp [results, Try.results22, go_sem, c0, c1, c2]) rfl ⟨HE.out.symm, by first | exact B2.out | exact bset (bset (bset B2.out _ (by simp)) _ (by simp)) _ (by simp)⟩
                  | true =>
                    obtain ⟨X, HX⟩ : ∃ X, Hid (itr (wy true H) (C' + 1) kn = X) := ⟨_, rfl⟩
                    rw [HX.out] at cB HE
                    clear cF hm2'
                    go_wp2
                    exact bodyPost_ret (v := .tuple #[.agg #[.int .i64 (kn : Int), .int .i64 (X : Int), .int .i64 1], .int .i64 0]) (by simp [results, Try.results22, go_sem, c0, c1, c2]) rfl ⟨HE.out.symm, by first | exact B2.out | exact bset (bset (bset B2.out _ (by simp)) _ (by simp)) _ (by simp)⟩
                | succ m =>
                  have hi1 : (i : Int) < (H.length : Int) := by omega
                  have cx := HCL.out i (by omega)
                  have hD1 := cnt_take (P := fun h => decide (h < kn)) (H := H) (i := i) (by omega)
                  have hU1 := cnt_take (P := fun h => decide (h ≤ kn)) (H := H) (i := i) (by omega)
                  have hDb : (H.take i).countP (fun h => decide (h < kn)) ≤ H.length := Nat.le_trans List.countP_le_length (by rw [List.length_take]; omega)
                  have hUb : (H.take i).countP (fun h => decide (h ≤ kn)) ≤ H.length := Nat.le_trans List.countP_le_length (by rw [List.length_take]; omega)
                  obtain ⟨Y, HY⟩ : ∃ Y, Hid (H.getD i 0 = Y) := ⟨_, rfl⟩
                  rw [HY.out] at cx hD1 hU1
                  obtain ⟨d1, Hd1⟩ : ∃ d, Hid ((H.take i).countP (fun h => decide (h < kn)) = d) := ⟨_, rfl⟩
                  obtain ⟨u1, Hu1⟩ : ∃ d, Hid ((H.take i).countP (fun h => decide (h ≤ kn)) = d) := ⟨_, rfl⟩
                  rw [Hd1.out] at hD1 hDb ⊢
                  rw [Hu1.out] at hU1 hUb ⊢
                  have hwd : IntKind.i64.wrap ((d1 : Int) + 1) = ((d1 + 1 : Nat) : Int) := by rw [IntKind.wrap_i64]; omega
                  have hwu : IntKind.i64.wrap ((u1 : Int) + 1) = ((u1 + 1 : Nat) : Int) := by rw [IntKind.wrap_i64]; omega
                  have hwi : IntKind.i64.wrap ((i : Int) + 1) = ((i + 1 : Nat) : Int) := by rw [IntKind.wrap_i64]; omega
                  by_cases hY1 : Y < kn
                  · have e1 : (Y : Int) < (kn : Int) := by omega
                    have e2 : (Y : Int) ≤ (kn : Int) := by omega
                    rw [decide_eq_true hY1, if_pos rfl] at hD1
                    rw [decide_eq_true (by omega), if_pos rfl] at hU1
                    have HD1 := Hid.mk' hD1
                    have HU1 := Hid.mk' hU1
                    clear hD1 hU1 hY1
                    go_wp2_with fail
                    go_roundg m
                    case measure => omega
                    case rel => exact ⟨i + 1, rfl, by omega, by rw [HD1.out]; first | rfl | go_num, by rw [HU1.out]; first | rfl | go_num, rfl⟩
                  · have e1 : ¬ ((Y : Int) < (kn : Int)) := by omega
                    by_cases hY2 : Y ≤ kn
                    · have e2 : (Y : Int) ≤ (kn : Int) := by omega
                      rw [decide_eq_false hY1, if_neg (by decide)] at hD1
                      rw [decide_eq_true hY2, if_pos rfl] at hU1
                      have HD1 := Hid.mk' hD1
                      have HU1 := Hid.mk' hU1
                      clear hD1 hU1 hY1 hY2
                      go_wp2_with fail
                      go_roundg m
                      case measure => omega
                      case rel => exact ⟨i + 1, rfl, by omega, by rw [HD1.out, Nat.add_zero], by rw [HU1.out]; first | rfl | go_num, rfl⟩
                    · have e2 : ¬ ((Y : Int) ≤ (kn : Int)) := by omega
                      rw [decide_eq_false hY1, if_neg (by decide)] at hD1
                      rw [decide_eq_false hY2, if_neg (by decide)] at hU1
                      have HD1 := Hid.mk' hD1
                      have HU1 := Hid.mk' hU1
                      clear hD1 hU1 hY1 hY2
                      go_wp2_with fail
                      go_roundg m
                      case measure => omega
                      case rel => exact ⟨i + 1, rfl, by omega, by rw [HD1.out, Nat.add_zero], by rw [HU1.out, Nat.add_zero], rfl⟩
            · have hCz' : (C == 0) = false := by simp [hCz]
              have HCv : Hid (C = ((C' + 1 : Nat) : Int)) := by have := HC'.out; have h9 := of_decide_eq_false hC0'; unfold Hid; omega
              clear hCz
              go_wp2_with fail
              go_loopg [14, 15, 16] H.length (fun m x14 x15 x16 wx => ∃ i : Nat, x16 = .int .i64 (i : Int) ∧ i + m = H.length ∧ x14 = .int .i64 ((H.take i).countP (fun h => decide (h < kn)) : Int) ∧ x15 = .int .i64 ((H.take i).countP (fun h => decide (h ≤ kn)) : Int) ∧ wx = w2)
              case atStart => exact ⟨0, rfl, by omega, rfl, rfl, rfl⟩
              case round =>
                obtain ⟨i, rfl, him, rfl, rfl, hw⟩ := hrel
                have hw' := hw.symm
                clear hw
                subst hw'
                cases gk with
                | zero =>
                  have hi1 : ¬ ((i : Int) < (H.length : Int)) := by omega
                  have hiE : i = H.length := by omega
                  subst hiE
                  rw [List.take_length, ← HUD.out, ← HDD.out]
                  obtain ⟨U, HU⟩ : ∃ U, Hid (hUp H kn = U) := ⟨_, rfl⟩
                  obtain ⟨Dn, HD⟩ : ∃ D, Hid (hDn H kn = D) := ⟨_, rfl⟩
                  rw [HU.out] at HF HUL ⊢
                  rw [HD.out] at HBW HDL ⊢
                  have hm2 := Nat.mod_lt (U + C') h0
                  have hm3 := Nat.mod_lt (Dn + (C' + 1) * (H.length - 1)) h0
                  obtain ⟨hs1, hs2, hs2', hm1, hs3, hs4, hwt, htb, hm5⟩ := rn_facts U Dn C' H.length C HCv.out HUL.out HDL.out (by omega) h0 HC9.out
                  clear hs2'
                  obtain ⟨T1, HT1⟩ : ∃ T1, Hid (Int.tmod ((Dn : Int) - ((C' + 1 : Nat) : Int)) (H.length : Int) = T1) := ⟨_, rfl⟩
                  have hT1 := HT1.out
                  rw [hT1] at hs4 hwt htb
                  obtain ⟨V1, HV1⟩ : ∃ V, Hid (U + C' = V) := ⟨_, rfl⟩
                  obtain ⟨E1, HE1⟩ : ∃ E : Int, Hid ((Dn : Int) - ((C' + 1 : Nat) : Int) = E) := ⟨_, rfl⟩
                  have hV0 : 0 ≤ (V1 : Int) := by omega
                  rw [HE1.out] at hT1 hs3
                  have cF := HCL.out _ hm2
                  have cB := HCL.out _ hm3
                  have hm2' : (((U + C') % H.length : Nat) : Int) < (H.length : Int) := by omega
                  have hm3' : (((Dn + (C' + 1) * (H.length - 1)) % H.length : Nat) : Int) < (H.length : Int) := by omega
                  rw [← HF.out] at cF
                  rw [← HBW.out] at cB
                  obtain ⟨iF, HiF⟩ : ∃ i, Hid ((U + C') % H.length = i) := ⟨_, rfl⟩
                  obtain ⟨iB, HiB⟩ : ∃ i, Hid ((Dn + (C' + 1) * (H.length - 1)) % H.length = i) := ⟨_, rfl⟩
                  rw [HiF.out] at hm1 hm2' cF
                  rw [HV1.out] at hm1 hs2
                  rw [HiB.out] at htb hm3' cB
                  clear hm2 hm3 HF HBW HCL him HT1
                  cases b with
                  | false =>
                    obtain ⟨X, HX⟩ : ∃ X, Hid (itr (wy false H) (C' + 1) kn = X) := ⟨_, rfl⟩
                    rw [HX.out] at cF HE
                    clear cB htb hm3' hs3 hs4 hT1 hwt
                    go_wp2
                    exact bodyPost_ret (v := .tuple #[.agg #[.int .i64 (kn : Int), .int .i64 (X : Int), .int .i64 1], .int .i64 0]) (by simp [results, Try.results22, go_sem, c0, c1, c2]) rfl ⟨HE.out.symm, by first | exact B2.out | exact bset (bset (bset B2.out _ (by simp)) _ (by simp)) _ (by simp)⟩
                  | true =>
                    obtain ⟨X, HX⟩ : ∃ X, Hid (itr (wy true H) (C' + 1) kn = X) := ⟨_, rfl⟩
                    rw [HX.out] at cB HE
                    clear cF hm2'
                    go_wp2
                    exact bodyPost_ret (v := .tuple #[.agg #[.int .i64 (kn : Int), .int .i64 (X : Int), .int .i64 1], .int .i64 0]) (by simp [results, Try.results22, go_sem, c0, c1, c2]) rfl ⟨HE.out.symm, by first | exact B2.out | exact bset (bset (bset B2.out _ (by simp)) _ (by simp)) _ (by simp)⟩
                | succ m =>
                  have hi1 : (i : Int) < (H.length : Int) := by omega
                  have cx := HCL.out i (by omega)
                  have hD1 := cnt_take (P := fun h => decide (h < kn)) (H := H) (i := i) (by omega)
                  have hU1 := cnt_take (P := fun h => decide (h ≤ kn)) (H := H) (i := i) (by omega)
                  have hDb : (H.take i).countP (fun h => decide (h < kn)) ≤ H.length := Nat.le_trans List.countP_le_length (by rw [List.length_take]; omega)
                  have hUb : (H.take i).countP (fun h => decide (h ≤ kn)) ≤ H.length := Nat.le_trans List.countP_le_length (by rw [List.length_take]; omega)
                  obtain ⟨Y, HY⟩ : ∃ Y, Hid (H.getD i 0 = Y) := ⟨_, rfl⟩
                  rw [HY.out] at cx hD1 hU1
                  obtain ⟨d1, Hd1⟩ : ∃ d, Hid ((H.take i).countP (fun h => decide (h < kn)) = d) := ⟨_, rfl⟩
                  obtain ⟨u1, Hu1⟩ : ∃ d, Hid ((H.take i).countP (fun h => decide (h ≤ kn)) = d) := ⟨_, rfl⟩
                  rw [Hd1.out] at hD1 hDb ⊢
                  rw [Hu1.out] at hU1 hUb ⊢
                  have hwd : IntKind.i64.wrap ((d1 : Int) + 1) = ((d1 + 1 : Nat) : Int) := by rw [IntKind.wrap_i64]; omega
                  have hwu : IntKind.i64.wrap ((u1 : Int) + 1) = ((u1 + 1 : Nat) : Int) := by rw [IntKind.wrap_i64]; omega
                  have hwi : IntKind.i64.wrap ((i : Int) + 1) = ((i + 1 : Nat) : Int) := by rw [IntKind.wrap_i64]; omega
                  by_cases hY1 : Y < kn
                  · have e1 : (Y : Int) < (kn : Int) := by omega
                    have e2 : (Y : Int) ≤ (kn : Int) := by omega
                    rw [decide_eq_true hY1, if_pos rfl] at hD1
                    rw [decide_eq_true (by omega), if_pos rfl] at hU1
                    have HD1 := Hid.mk' hD1
                    have HU1 := Hid.mk' hU1
                    clear hD1 hU1 hY1
                    go_wp2_with fail
                    go_roundg m
                    case measure => omega
                    case rel => exact ⟨i + 1, rfl, by omega, by rw [HD1.out]; first | rfl | go_num, by rw [HU1.out]; first | rfl | go_num, rfl⟩
                  · have e1 : ¬ ((Y : Int) < (kn : Int)) := by omega
                    by_cases hY2 : Y ≤ kn
                    · have e2 : (Y : Int) ≤ (kn : Int) := by omega
                      rw [decide_eq_false hY1, if_neg (by decide)] at hD1
                      rw [decide_eq_true hY2, if_pos rfl] at hU1
                      have HD1 := Hid.mk' hD1
                      have HU1 := Hid.mk' hU1
                      clear hD1 hU1 hY1 hY2
                      go_wp2_with fail
                      go_roundg m
                      case measure => omega
                      case rel => exact ⟨i + 1, rfl, by omega, by rw [HD1.out, Nat.add_zero], by rw [HU1.out]; first | rfl | go_num, rfl⟩
                    · have e2 : ¬ ((Y : Int) ≤ (kn : Int)) := by omega
                      rw [decide_eq_false hY1, if_neg (by decide)] at hD1
                      rw [decide_eq_false hY2, if_neg (by decide)] at hU1
                      have HD1 := Hid.mk' hD1
                      have HU1 := Hid.mk' hU1
                      clear hD1 hU1 hY1 hY2
                      go_wp2_with fail
                      go_roundg m
                      case measure => omega
                      case rel => exact ⟨i + 1, rfl, by omega, by rw [HD1.out, Nat.add_zero], by rw [HU1.out, Nat.add_zero], rfl⟩
end Go.Proofs.Ytaakgoojcogbcaa
