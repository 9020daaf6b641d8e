/- The reference's holding and inner. -/
import Derived.Test.YtgdhdegmjljbfaaSel
import Derived.BigRegion
namespace Go.Proofs.Ytgdhdegmjljbfaa
open Go.RowKit
theorem info48 : (Try.prog.info? 48).map (fun i => (i.zero, i.size, i.bytes)) = some (some (.agg #[.int .i64 0, .int .i64 0, .bool false]), 3, 24) := by kernel_rfl
theorem rrun_cells {W : World} {base i : Nat} {ao : Option Addr} {c : Nat} {R : List Rn3} {x : Rn3} (h : W.ownsRow base 48 3 (.slice ao R.length c) R.length (rvs R)) (hx : R[i]? = some x) :
    ∃ g, ao = some ⟨g, 0, none⟩ ∧ W.cell? ⟨g, i * 3, none⟩ = some (.int .i64 (x.1 : Int)) ∧ W.cell? ⟨g, i * 3 + 1, none⟩ = some (.int .i64 (x.2.1 : Int)) ∧ W.cell? ⟨g, i * 3 + 2, none⟩ = some (.bool x.2.2) := by
  have hi := (List.getElem?_eq_some_iff.1 hx).1
  obtain ⟨g, cap, e, h1, _⟩ := own_some h (by omega)
  cases e
  obtain ⟨a, b, d⟩ := rvs_at R hx
  exact ⟨g, rfl, row_cell h a, row_cell h b, row_cell h d⟩
/-- what holding answers -/
def hd (R : List Rn3) (i : Nat) : Int := if i < R.length then (i : Int) else -1
set_option maxRecDepth 8000 in
set_option maxHeartbeats 4000000 in
theorem holding_any (base : Nat) (ao : Option Addr) (c : Nat) (R : List Rn3) (q i : Nat) (w : World) (hR : R.length ≤ 4398046511104) (hF : Fst R q i) (hI : ∀ x, R[i]? = some x → x.1 ≤ q) (HO : Hid (w.ownsRow base 48 3 (.slice ao R.length c) R.length (rvs R))) :
    Calls Try.prog 32 #[.slice ao R.length c, .int .i64 (q : Int)] w fun e w' => e = .returned (.int .i64 (hd R i)) ∧ w' = w := by
  have hi := hF.le
  have HF := Hid.mk' hF
  have HI := Hid.mk' hI
  clear hF hI
  go_enter Try.func32, Try.ntmps32
  go_wp2_with fail
  go_loopg [5] i (fun g x5 wx => ∃ k : Nat, x5 = .int .i64 (k : Int) ∧ k + g = i ∧ w = wx)
  case atStart => exact ⟨0, rfl, by omega, rfl⟩
  case round =>
    obtain ⟨k, rfl, hk, rfl⟩ := hrel
    have hk0 : (0 : Int) ≤ (k : Int) := by omega
    cases gk with
    | succ g =>
      have hkl : k < R.length := by omega
      have h1 : (k : Int) < (R.length : Int) := by omega
      obtain ⟨x, hx, _, _⟩ := own_at hkl
      obtain ⟨gb, rfl, hc0, hc1, -⟩ := rrun_cells HO.out hx
      have h2 : ¬ ((q : Int) < (x.2.1 : Int)) := by have := HF.out.low k x (by omega) hx; omega
      have hw : IntKind.i64.wrap ((k : Int) + 1) = ((k + 1 : Nat) : Int) := by rw [IntKind.wrap_i64]; omega
      clear hx hkl
      generalize x.2.1 = X at *
      generalize x.1 = Y at *
      by_cases h3 : (Y : Int) ≤ (q : Int)
      all_goals go_wp2
      all_goals go_roundg g
      all_goals first | omega | exact ⟨k + 1, rfl, by omega, rfl⟩
    | zero =>
      obtain rfl : k = i := by omega
      by_cases h : k < R.length
      · have h1 : (k : Int) < (R.length : Int) := by omega
        obtain ⟨x, hx, _, _⟩ := own_at h
        obtain ⟨gb, rfl, hc0, hc1, -⟩ := rrun_cells HO.out hx
        have h2 : (q : Int) < (x.2.1 : Int) := by have := HF.out.here x hx; omega
        have h3 : (x.1 : Int) ≤ (q : Int) := by have := HI.out x hx; omega
        have HD : Hid (hd R k = (k : Int)) := if_pos h
        clear hx
        generalize x.2.1 = X at *
        generalize x.1 = Y at *
        go_wp2
        all_goals go_ret
        all_goals exact ⟨by rw [HD.out]; rfl, rfl⟩
      · have h1 : ¬ ((k : Int) < (R.length : Int)) := by omega
        have HD : Hid (hd R k = -1) := if_neg h
        go_wp2
        all_goals go_ret
        all_goals exact ⟨by rw [HD.out]; rfl, rfl⟩
/-- a run and an error -/
def ra (r : Option (Nat × Nat)) : Ending := match r with
  | none => .returned (.tuple #[.agg #[.int .i64 0, .int .i64 0, .bool false], .int .i64 130])
  | some x => .returned (.tuple #[.agg #[.int .i64 (x.1 : Int), .int .i64 (x.2 : Int), .bool false], .int .i64 0])
set_option maxRecDepth 8000 in
set_option maxHeartbeats 8000000 in
theorem inner_any (base : Nat) (ao : Option Addr) (c : Nat) (R : List Rn3) (q n i : Nat) (w : World) (hR : R.length ≤ 4398046511104) (hn1 : 1 ≤ n) (hn2 : n ≤ 9999) (hF : Fst R q i) (hI : ∀ x, R[i]? = some x → x.1 ≤ q) (HO : Hid (w.ownsRow base 48 3 (.slice ao R.length c) R.length (rvs R))) :
    Calls Try.prog 22 #[.slice ao R.length c, .int .i64 (q : Int), .int .i64 (n : Int)] w fun e w' => e = ra (cx R i n false) ∧ Below w.heap.size w w' := by
  have hi := hF.le
  have CH := Hid.mk' (fun W (hb : Below w.heap.size w W) => holding_any base ao c R q i W hR hF hI (own_keep HO.out hb))
  have HX : Hid (cx R i n false = (inn R i n).map fun x => (fr R x.1, tt R (x.2 - 1))) := rfl
  unfold inn at HX
  by_cases hl : i < R.length
  · have HD : hd R i = (i : Int) := if_pos hl
    rw [HD] at CH
    have h0 : ¬ ((i : Int) < 0) := by omega
    have hwn : IntKind.i64.wrap ((i : Int) + (n : Int)) = ((i + n : Nat) : Int) := by rw [IntKind.wrap_i64]; omega
    by_cases hle : i + n ≤ R.length
    · have hle1 : ¬ ((R.length : Int) < ((i + n : Nat) : Int)) := by omega
      rw [if_pos (by omega)] at HX
      obtain ⟨x, hx, hfx, _⟩ := own_at (R := R) (a := i) hl
      obtain ⟨y, hy, _, hty⟩ := own_at (R := R) (a := i + n - 1) (by omega)
      have HN : Hid (cx R i n false = some (x.1, y.2.1)) := by unfold Hid; rw [HX.out]; simp only [Option.map_some]; rw [hfx, hty]
      obtain ⟨D, HDD⟩ : ∃ D, Hid (i + n - 1 = D) := ⟨_, rfl⟩
      rw [HDD.out] at hy
      obtain ⟨S, HSS⟩ : ∃ S, Hid (i + n = S) := ⟨_, rfl⟩
      have hS1 : (S : Int) ≤ (R.length : Int) := by have := HSS.out; omega
      rw [HSS.out] at hwn hle1
      have hwD : IntKind.i64.wrap ((S : Int) - 1) = (D : Int) := by have := HDD.out; have := HSS.out; rw [IntKind.wrap_i64]; omega
      obtain ⟨g1, e1, c1, -, -⟩ := rrun_cells HO.out hx
      obtain ⟨g2, e2, -, c2, -⟩ := rrun_cells HO.out hy
      subst e1
      cases e2
      have hA0 : (0 : Int) ≤ (i : Int) := by omega
      have hA1 : (i : Int) < (R.length : Int) := by omega
      have hD0 : (0 : Int) ≤ (D : Int) := by omega
      have hD1 : (D : Int) < (R.length : Int) := by have := HDD.out; omega
      have hg1 : g1 < w.heap.size := lt_of_cell c1
      clear hx hy hfx hty
      generalize x.1 = X at *
      generalize y.2.1 = Y at *
      go_enter Try.func22, Try.ntmps22
      go_wp2_with (go_at_call 32; refine (CH.out _ (bAlloc (Below.refl _ _) _)).mono ?_; rintro e w' ⟨rfl, hw⟩; have hq := hw.symm; subst hq; clear hw)
      all_goals go_region
      all_goals go_wp2
      all_goals exact bodyPost_ret (v := .tuple #[.agg #[.int .i64 (X : Int), .int .i64 (Y : Int), .bool false], .int .i64 0]) (by simp [results, Try.results22, go_sem]) rfl ⟨by rw [HN.out]; rfl, (bAlloc (Below.refl _ _) _).drew⟩
    · have hle1 : (R.length : Int) < ((i + n : Nat) : Int) := by omega
      rw [if_neg (by omega)] at HX
      have HN : Hid (cx R i n false = none) := HX.out
      generalize i + n = S at *
      go_enter Try.func22, Try.ntmps22
      go_wp2_with (go_at_call 32; refine (CH.out _ (bAlloc (Below.refl _ _) _)).mono ?_; rintro e w' ⟨rfl, hw⟩; have hq := hw.symm; subst hq; clear hw)
      all_goals exact bodyPost_ret (v := .tuple #[.agg #[.int .i64 0, .int .i64 0, .bool false], .int .i64 130]) (by simp [results, Try.results22, go_sem]) rfl ⟨by rw [HN.out]; rfl, bAlloc (Below.refl _ _) _⟩
  · have HD : hd R i = -1 := if_neg hl
    rw [HD] at CH
    rw [if_neg (by omega)] at HX
    have HN : Hid (cx R i n false = none) := HX.out
    go_enter Try.func22, Try.ntmps22
    go_wp2_with (go_at_call 32; refine (CH.out _ (bAlloc (Below.refl _ _) _)).mono ?_; rintro e w' ⟨rfl, hw⟩; have hq := hw.symm; subst hq; clear hw)
    all_goals exact bodyPost_ret (v := .tuple #[.agg #[.int .i64 0, .int .i64 0, .bool false], .int .i64 130]) (by simp [results, Try.results22, go_sem]) rfl ⟨by rw [HN.out]; rfl, bAlloc (Below.refl _ _) _⟩
end Go.Proofs.Ytgdhdegmjljbfaa
