/- object.around and its closure, object.choose. -/
import Derived.Test.YtgdhdegmjljbfaaPab
import Derived.Test.YtgdhdegmjljbfaaCpr
namespace Go.Proofs.Ytgdhdegmjljbfaa
open Go.RowKit
theorem row_cell {W : World} {base e size n g c : Nat} {xs : List Value} {j : Nat} {u : Value} (h : W.ownsRow base e size (.slice (some ⟨g, 0, none⟩) n c) n xs) (hj : xs[j]? = some u) : W.cell? ⟨g, j, none⟩ = some u := by
  rcases own_srv h with ⟨e, _⟩ | ⟨ad, c, e, hc⟩
  · cases e
  · injection e with e _ _
    injection e with e
    have := hc j _ hj
    rw [← e, add_none, Nat.zero_add] at this
    exact this
theorem run_cells {W : World} {base i : Nat} {ao : Option Addr} {c : Nat} {R : List Rn3} {x : Rn3} (h : W.ownsRow base 77 3 (.slice ao R.length c) R.length (rvs R)) (hx : R[i]? = some x) :
    ∃ g, ao = some ⟨g, 0, none⟩ ∧ W.cell? ⟨g, i * 3, none⟩ = some (.int .i64 (x.1 : Int)) ∧ W.cell? ⟨g, i * 3 + 1, none⟩ = some (.int .i64 (x.2.1 : Int)) ∧ W.cell? ⟨g, i * 3 + 2, none⟩ = some (.bool x.2.2) := by
  have hi := (List.getElem?_eq_some_iff.1 hx).1
  obtain ⟨g, cap, e, h1, _⟩ := own_some h (by omega)
  cases e
  obtain ⟨a, b, d⟩ := rvs_at R hx
  exact ⟨g, rfl, row_cell h a, row_cell h b, row_cell h d⟩
/-- the closure: is a run there, and a gap -/
def gi (R : List Rn3) (i : Int) : Bool := decide (0 ≤ i) && gp R i.toNat
set_option maxRecDepth 8000 in
set_option maxHeartbeats 4000000 in
theorem isGap_any (base b : Nat) (ao : Option Addr) (c : Nat) (R : List Rn3) (i : Int) (w : World) (hc : w.cell? ⟨b, 0, none⟩ = some (.slice ao R.length c)) (HO : Hid (w.ownsRow base 77 3 (.slice ao R.length c) R.length (rvs R))) :
    Calls Try.prog 66 #[.int .i64 i, .pointer (some ⟨b, 0, none⟩)] w fun e w' => e = .returned (.bool (gi R i)) ∧ w' = w := by
  by_cases h0 : 0 ≤ i
  · obtain ⟨k, rfl⟩ := Int.eq_ofNat_of_zero_le h0
    have HG : Hid (gi R (k : Int) = gp R k) := by unfold Hid gi; simp
    by_cases h1 : k < R.length
    · have h2 : (k : Int) < (R.length : Int) := by omega
      have hx : R[k]? = some R[k] := List.getElem?_eq_getElem h1
      obtain ⟨g, rfl, _, _, hc2⟩ := run_cells HO.out hx
      have HP := Hid.mk' (gp_at hx)
      generalize R[k] = x at *
      clear hx
      generalize x.2.2 = bb at *
      go_enter Try.func66, Try.ntmps66
      go_wp2
      all_goals go_ret
      all_goals exact ⟨by rw [HG.out, HP.out]; rfl, rfl⟩
    · have h2 : ¬ ((k : Int) < (R.length : Int)) := by omega
      have HP := Hid.mk' (gp_out (R := R) (j := k) (by omega))
      go_enter Try.func66, Try.ntmps66
      go_wp2
      all_goals go_ret
      all_goals exact ⟨by rw [HG.out, HP.out]; rfl, rfl⟩
  · have HG : Hid (gi R i = false) := by unfold Hid gi; simp; omega
    go_enter Try.func66, Try.ntmps66
    go_wp2
    all_goals go_ret
    all_goals exact ⟨by rw [HG.out]; rfl, rfl⟩
theorem gi_nat (R : List Rn3) (k : Nat) : gi R (k : Int) = gp R k := by unfold gi; simp
theorem gi_pred (R : List Rn3) (k : Nat) : gi R ((k : Int) - 1) = (decide (0 < k) && gp R (k - 1)) := by
  unfold gi
  rcases Nat.eq_zero_or_pos k with h | h
  · subst h; simp
  · have e : ((k : Int) - 1).toNat = k - 1 := by omega
    have e1 : (0 : Int) ≤ (k : Int) - 1 := by omega
    rw [e, decide_eq_true e1, decide_eq_true h]
set_option maxRecDepth 8000 in
set_option maxHeartbeats 8000000 in
theorem around_any (base : Nat) (ao : Option Addr) (c : Nat) (R : List Rn3) (i n : Nat) (w : World) (hR : R.length ≤ 4398046511104) (hi : i ≤ R.length) (hn1 : 1 ≤ n) (hn2 : n ≤ 9999) (HO : Hid (w.ownsRow base 77 3 (.slice ao R.length c) R.length (rvs R))) :
    Calls Try.prog 53 #[.slice ao R.length c, .int .i64 (i : Int), .int .i64 (n : Int)] w fun e w' => e = oa (aro R i n) ∧ Below w.heap.size w w' := by
  have HA : Hid (aro R i n = (tak R (gp R i) n i).map fun k => (aw1 R i k, k)) := rfl
  obtain ⟨T, HT⟩ : ∃ T, Hid (tak R (gp R i) n i = T) := ⟨_, rfl⟩
  have HTL := Hid.mk' (fun k (h : T = some k) => tak_le (ah := gp R i) (n := n) hi (HT.out.trans h))
  rw [HT.out] at HA
  have HAW : Hid (∀ k, aw1 R i k = if !(gp R i) && !(gp R (k - 1)) && (decide (0 < i) && gp R (i - 1)) then i - 1 else i) := fun k => rfl
  have hg0 := gi_nat R i
  have CB : Hid (∀ W b, Below w.heap.size w W → W.cell? ⟨b, 0, none⟩ = some (.slice ao R.length c) → ∀ x : Int, Calls Try.prog 66 #[.int .i64 x, .pointer (some ⟨b, 0, none⟩)] W fun e w' => e = .returned (.bool (gi R x)) ∧ w' = W) := fun W b hb hc x => isGap_any base b ao c R x W hc (own_keep HO.out hb)
  have HGP := Hid.mk' (gi_nat R)
  have HGD := Hid.mk' (gi_pred R i)
  generalize gp R i = ah at *
  go_enter Try.func53, Try.ntmps53
  go_wp2_with (go_at_call 66; refine (CB.out _ _ (bAlloc (Below.refl _ _) _) (by simp) _).mono ?_; rintro e w' ⟨rfl, hw⟩; have hq := hw.symm; subst hq; clear hw)
  have HB1 : Hid (Below w.heap.size w (w.alloc (Obj.cells #[Value.slice ao R.length c] 68))) := bAlloc (Below.refl _ _) _
  have hcb : (w.alloc (Obj.cells #[Value.slice ao R.length c] 68)).cell? ⟨w.heap.size, 0, none⟩ = some (.slice ao R.length c) := by simp
  have CG := Hid.mk' (CB.out _ _ HB1.out hcb)
  clear CB
  generalize hbb : w.heap.size = b at CG hcb ⊢
  have Hbb := Hid.mk' hbb
  clear hbb
  generalize w.alloc (Obj.cells #[Value.slice ao R.length c] 68) = w1 at *
  go_loopg [7, 17] n (fun g x7 x17 wx => ∃ k j : Nat, x7 = .int .i64 (k : Int) ∧ x17 = .int .i64 (j : Int) ∧ j + g = n ∧ k ≤ R.length ∧ Hid (tak R ah g k = T) ∧ w1 = wx)
  case atStart => exact ⟨i, 0, rfl, rfl, by omega, hi, HT.out, rfl⟩
  case round =>
    obtain ⟨k, j, rfl, rfl, hj, hk, HK, rfl⟩ := hrel
    cases gk with
    | zero =>
      have h1 : ¬ ((j : Int) < (n : Int)) := by omega
      obtain rfl : T = some k := HK.out.symm
      obtain ⟨hk1, hk2⟩ := HTL.out k rfl
      have hp1 : IntKind.i64.wrap ((k : Int) - 1) = ((k - 1 : Nat) : Int) := by rw [IntKind.wrap_i64]; omega
      have hp2 : IntKind.i64.wrap ((i : Int) - 1) = (i : Int) - 1 := by rw [IntKind.wrap_i64]; omega
      have HR : Hid (aro R i n = some (aw1 R i k, k)) := HA.out
      have HW := Hid.mk' (HAW.out k)
      have hg1 := HGP.out (k - 1)
      have hg2 := HGD.out
      cases ah with
      | true =>
        have HF : Hid (aro R i n = some (i, k)) := by unfold Hid; rw [HR.out, HW.out]; simp
        clear HR HW hg1 hg2
        go_wp2_with (go_at_call 66; refine (CG.out _).mono ?_; rintro e w' ⟨rfl, hw⟩; have hq := hw.symm; subst hq; clear hw)
        all_goals go_ret3
        all_goals exact ⟨by rw [HF.out]; rfl, HB1.out⟩
      | false =>
        cases h3 : gp R (k - 1) with
        | true =>
          have HF : Hid (aro R i n = some (i, k)) := by unfold Hid; rw [HR.out, HW.out, h3]; simp
          rw [h3] at hg1
          clear HR HW hg2 h3
          go_wp2_with (go_at_call 66; refine (CG.out _).mono ?_; rintro e w' ⟨rfl, hw⟩; have hq := hw.symm; subst hq; clear hw)
          all_goals go_ret3
          all_goals exact ⟨by rw [HF.out]; rfl, HB1.out⟩
        | false =>
          rw [h3] at hg1
          cases h4 : (decide (0 < i) && gp R (i - 1)) with
          | true =>
            have HF : Hid (aro R i n = some (i - 1, k)) := by unfold Hid; rw [HR.out, HW.out, h3, h4]; simp
            have hi0 : 0 < i := by simp at h4; exact h4.1
            have HO9 : Hid (oa (some (i - 1, k)) = .returned (.tuple #[.int .i64 ((i : Int) - 1), .int .i64 (k : Int), .bool true])) := by
              unfold Hid oa
              have e : ((i - 1 : Nat) : Int) = (i : Int) - 1 := by omega
              simp only [Option.getD_some, Option.isSome_some, e]
            rw [h4] at hg2
            clear HR HW h3 h4 hi0
            go_wp2_with (go_at_call 66; refine (CG.out _).mono ?_; rintro e w' ⟨rfl, hw⟩; have hq := hw.symm; subst hq; clear hw)
            all_goals go_ret3
            all_goals exact ⟨by rw [HF.out, HO9.out]; rfl, HB1.out⟩
          | false =>
            have HF : Hid (aro R i n = some (i, k)) := by unfold Hid; rw [HR.out, HW.out, h3, h4]; simp
            rw [h4] at hg2
            clear HR HW h3 h4
            go_wp2_with (go_at_call 66; refine (CG.out _).mono ?_; rintro e w' ⟨rfl, hw⟩; have hq := hw.symm; subst hq; clear hw)
            all_goals go_ret3
            all_goals exact ⟨by rw [HF.out]; rfl, HB1.out⟩
    | succ g =>
      have h1 : (j : Int) < (n : Int) := by omega
      have hwj : IntKind.i64.wrap ((j : Int) + 1) = ((j + 1 : Nat) : Int) := by rw [IntKind.wrap_i64]; omega
      have HS : Hid ((match stp R ah k with | none => none | some k' => tak R ah g k') = T) := HK.out
      have HST : Hid (stp R ah k = if k1 R k = R.length then none else some (k2 R ah (k1 R k + 1))) := rfl
      have hg1 := HGP.out k
      have HKL := Hid.mk' (k1_le hk)
      have hD : k1 R k = if gp R k then k + 1 else k := rfl
      generalize k1 R k = K at *
      have hKL : K ≤ R.length := HKL.out.2
      obtain ⟨K1, HK1⟩ : ∃ K1, Hid (K + 1 = K1) := ⟨_, rfl⟩
      rw [HK1.out] at HST
      have hw2 : IntKind.i64.wrap ((K : Int) + 1) = (K1 : Int) := by have := HK1.out; rw [IntKind.wrap_i64]; omega
      have hK1L : K1 ≤ R.length + 1 := by have := HK1.out; omega
      obtain ⟨K2, HK2⟩ : ∃ K2, Hid (K1 + 1 = K2) := ⟨_, rfl⟩
      have hw3 : IntKind.i64.wrap ((K1 : Int) + 1) = (K2 : Int) := by have := HK2.out; rw [IntKind.wrap_i64]; omega
      have hg2 := HGP.out K1
      by_cases h3 : K = R.length
      · have he : ((K : Int) == (R.length : Int)) = true := by rw [h3]; simp
        have HF : Hid (T = none) := by have := HS.out; rw [HST.out, if_pos h3] at this; exact this.symm
        clear h3
        cases h2 : gp R k with
        | true =>
          rw [h2] at hg1 hD
          have hwk : IntKind.i64.wrap ((k : Int) + 1) = (K : Int) := by simp at hD; rw [IntKind.wrap_i64]; omega
          clear hD h2 HK
          go_wp2_with (go_at_call 66; refine (CG.out _).mono ?_; rintro e w' ⟨rfl, hw⟩; have hq := hw.symm; subst hq; clear hw)
          all_goals go_ret3
          all_goals exact ⟨by rw [HA.out, HF.out]; rfl, HB1.out⟩
        | false =>
          rw [h2] at hg1 hD
          obtain rfl : K = k := by simpa using hD
          clear hD h2 HK
          go_wp2_with (go_at_call 66; refine (CG.out _).mono ?_; rintro e w' ⟨rfl, hw⟩; have hq := hw.symm; subst hq; clear hw)
          all_goals go_ret3
          all_goals exact ⟨by rw [HA.out, HF.out]; rfl, HB1.out⟩
      · have he : ((K : Int) == (R.length : Int)) = false := by simp; omega
        have HF : Hid (tak R ah g (k2 R ah K1) = T) := by have := HS.out; rw [HST.out, if_neg h3] at this; exact this
        have hK2 : k2 R ah K1 = if !ah && gp R K1 then K1 + 1 else K1 := rfl
        have hLe := (k2_le (R := R) (ah := ah) (k := K1) (by have := HK1.out; omega)).2
        rw [HK2.out] at hK2
        generalize gp R K1 = G2 at *
        clear h3
        cases h2 : gp R k with
        | true =>
          rw [h2] at hg1 hD
          have hwk : IntKind.i64.wrap ((k : Int) + 1) = (K : Int) := by simp at hD; rw [IntKind.wrap_i64]; omega
          clear hD h2 HK
          cases ah <;> cases G2
          all_goals simp at hK2
          all_goals rw [hK2] at HF hLe
          all_goals clear hK2
          all_goals go_wp2_with (go_at_call 66; refine (CG.out _).mono ?_; rintro e w' ⟨rfl, hw⟩; have hq := hw.symm; subst hq; clear hw)
          all_goals go_roundg g
          all_goals first | omega | exact ⟨_, j + 1, rfl, rfl, by omega, hLe, HF.out, rfl⟩
        | false =>
          rw [h2] at hg1 hD
          obtain rfl : K = k := by simpa using hD
          clear hD h2 HK
          cases ah <;> cases G2
          all_goals simp at hK2
          all_goals rw [hK2] at HF hLe
          all_goals clear hK2
          all_goals go_wp2_with (go_at_call 66; refine (CG.out _).mono ?_; rintro e w' ⟨rfl, hw⟩; have hq := hw.symm; subst hq; clear hw)
          all_goals go_roundg g
          all_goals first | omega | exact ⟨_, j + 1, rfl, rfl, by omega, hLe, HF.out, rfl⟩
end Go.Proofs.Ytgdhdegmjljbfaa
