/- object.choose. -/
import Derived.Test.YtgdhdegmjljbfaaAro
import Derived.Deep.QuietTactic
import Derived.BigQuiet
namespace Go.Proofs.Ytgdhdegmjljbfaa
open Go.RowKit
theorem below_drew9 (w : World) (n : Nat) : Below w.heap.size w (w.drewN n) := ⟨rfl, rfl, rfl, Nat.le_refl _, fun _ _ => rfl⟩
theorem own_at {R : List Rn3} {a : Nat} (h : a < R.length) : ∃ x, R[a]? = some x ∧ fr R a = x.1 ∧ tt R a = x.2.1 := by
  refine ⟨R[a], List.getElem?_eq_getElem h, ?_, ?_⟩ <;> simp [fr, tt, h]
set_option maxRecDepth 8000 in
set_option maxHeartbeats 8000000 in
theorem choose_any (base : Nat) (ao : Option Addr) (c : Nat) (R : List Rn3) (q n i : Nat) (a : Bool) (w : World) (hR : R.length ≤ 4398046511104) (hF : Fst R q i) (hn1 : 1 ≤ n) (hn2 : n ≤ 9999) (HO : Hid (w.ownsRow base 77 3 (.slice ao R.length c) R.length (rvs R))) :
    Calls Try.prog 38 #[.slice ao R.length c, .int .i64 (q : Int), .int .i64 (n : Int), .bool a] w fun e w' => e = oa (cx R i n a) ∧ Below w.heap.size w w' := by
  have hi := hF.le
  have CA := Hid.mk' (around_any base ao c R i n w hR hi hn1 hn2 HO)
  have HX : Hid (cx R i n a = (cho R i n a).map fun x => (fr R x.1, tt R (x.2 - 1))) := rfl
  have HC := Hid.mk' (fun x (h : cho R i n a = some x) => cho_le hi h)
  have HF := Hid.mk' hF
  clear hF
  go_enter Try.func38, Try.ntmps38
  go_wp2_with fail
  go_loopg [11] i (fun g x11 wx => ∃ k : Nat, x11 = .int .i64 (k : Int) ∧ k + g = i ∧ w = wx)
  case atStart => exact ⟨0, rfl, by omega, rfl⟩
  case round =>
    obtain ⟨k, rfl, hk, rfl⟩ := hrel
    have hk0 : (0 : Int) ≤ (k : Int) := by omega
    cases gk with
    | succ g =>
      have hkl : k < R.length := by omega
      have h1 : (k : Int) < (R.length : Int) := by omega
      obtain ⟨x, hx, _, _⟩ := own_at hkl
      obtain ⟨gb, rfl, _, hc1, _⟩ := run_cells HO.out hx
      have h2 : (x.2.1 : Int) ≤ (q : Int) := by have := HF.out.low k x (by omega) hx; omega
      have hw : IntKind.i64.wrap ((k : Int) + 1) = ((k + 1 : Nat) : Int) := by rw [IntKind.wrap_i64]; omega
      clear hx hkl
      generalize x.2.1 = X at *
      go_wp2
      go_roundg g
      case measure => omega
      case rel => exact ⟨k + 1, rfl, by omega, rfl⟩
    | zero =>
      obtain rfl : k = i := by omega
      have hwn : IntKind.i64.wrap ((k : Int) + (n : Int)) = ((k + n : Nat) : Int) := by rw [IntKind.wrap_i64]; omega
      have hws : IntKind.i64.wrap ((R.length : Int) - (k : Int)) = ((R.length - k : Nat) : Int) := by rw [IntKind.wrap_i64]; omega
      obtain ⟨r, Hr⟩ : ∃ r, Hid (cho R k n a = r) := ⟨_, rfl⟩
      rw [Hr.out] at HX HC
      -- what lies at the place where the loop stands
      have HEND : Hid (¬ ((k : Int) < (R.length : Int)) ∨ ∃ gb, ∃ X : Nat, (k : Int) < (R.length : Int) ∧ ao = some ⟨gb, 0, none⟩ ∧ w.cell? ⟨gb, k * 3 + 1, none⟩ = some (.int .i64 (X : Int)) ∧ ¬ ((X : Int) ≤ (q : Int))) := by
        rcases Nat.lt_or_ge k R.length with h | h
        · obtain ⟨x, hx, _, _⟩ := own_at h
          obtain ⟨gb, e, _, hc1, _⟩ := run_cells HO.out hx
          exact .inr ⟨gb, x.2.1, by omega, e, hc1, by have := HF.out.here x hx; omega⟩
        · exact .inl (by omega)
      cases r with
      | none =>
        have HN : Hid (cx R k n a = none) := HX.out
        cases a with
        | true =>
          have CA1 : Hid (Calls Try.prog 53 #[.slice ao R.length c, .int .i64 (k : Int), .int .i64 (n : Int)] w fun e w' => e = .returned (.tuple #[.int .i64 0, .int .i64 0, .bool false]) ∧ Below w.heap.size w w') := by
            have := CA.out
            rw [show aro R k n = none from Hr.out] at this
            exact this
          rcases HEND.out with h9 | ⟨gb, X, h9, rfl, hX, hq9⟩
          all_goals clear HEND
          all_goals go_wp2_with (go_at_call 53; refine CA1.out.mono ?_; rintro e w1 ⟨rfl, hb1⟩; have B1 := Hid.mk' hb1; clear hb1)
          all_goals go_ret3
          all_goals exact ⟨by rw [HN.out]; rfl, B1.out⟩
        | false =>
          have hle : ¬ ((n : Int) ≤ ((R.length - k : Nat) : Int)) := by
            intro h
            have := Hr.out
            unfold cho inn at this
            rw [if_neg (by simp), if_pos (by omega)] at this
            cases this
          rcases HEND.out with h9 | ⟨gb, X, h9, rfl, hX, hq9⟩
          all_goals clear HEND
          all_goals go_wp2
          all_goals go_ret3
          all_goals exact ⟨by rw [HN.out]; rfl, Below.refl _ _⟩
      | some AB =>
        obtain ⟨A, B⟩ := AB
        obtain ⟨u1, u2, u3, u4⟩ := HC.out (A, B) rfl
        simp only at u1 u2 u3 u4
        obtain ⟨x, hx, hfx, _⟩ := own_at (R := R) (a := A) (by omega)
        obtain ⟨y, hy, _, hty⟩ := own_at (R := R) (a := B - 1) (by omega)
        have HN : Hid (cx R k n a = some (x.1, y.2.1)) := by unfold Hid; rw [HX.out]; simp only [Option.map_some]; rw [hfx, hty]
        have HCX := Hid.mk' (fun W (hb : Below w.heap.size w W) => run_cells (own_keep HO.out hb) hx)
        have HCY := Hid.mk' (fun W (hb : Below w.heap.size w W) => run_cells (own_keep HO.out hb) hy)
        have hA0 : (0 : Int) ≤ (A : Int) := by omega
        have hA1 : (A : Int) < (R.length : Int) := by omega
        obtain ⟨D, HD⟩ : ∃ D, Hid (B - 1 = D) := ⟨_, rfl⟩
        rw [HD.out] at HCY
        have hwB : IntKind.i64.wrap ((B : Int) - 1) = (D : Int) := by have := HD.out; rw [IntKind.wrap_i64]; omega
        have hD0 : (0 : Int) ≤ (D : Int) := by omega
        have hD1 : (D : Int) < (R.length : Int) := by have := HD.out; omega
        clear hx hy hfx hty
        generalize x.1 = X1 at *
        generalize y.2.1 = Y1 at *
        cases a with
        | true =>
          have CA1 : Hid (Calls Try.prog 53 #[.slice ao R.length c, .int .i64 (k : Int), .int .i64 (n : Int)] w fun e w' => e = .returned (.tuple #[.int .i64 (A : Int), .int .i64 (B : Int), .bool true]) ∧ Below w.heap.size w w') := by
            have := CA.out
            rw [show aro R k n = some (A, B) from Hr.out] at this
            exact this
          clear u1 u2 u3 u4
          rcases HEND.out with h9 | ⟨gb, X, h9, rfl, hX, hq9⟩
          all_goals clear HEND
          all_goals go_wp2_with (go_at_call 53; refine CA1.out.mono ?_; rintro e w1 ⟨rfl, hb1⟩; have B1 := Hid.mk' hb1; clear hb1)
          all_goals obtain ⟨g1, e1, c1, -, -⟩ := HCX.out _ B1.out
          all_goals obtain ⟨g2, e2, -, c2, -⟩ := HCY.out _ B1.out
          all_goals cases e1
          all_goals cases e2
          all_goals go_quiet (fail)
          all_goals go_wp2
          all_goals go_ret3
          all_goals exact ⟨by rw [HN.out]; rfl, bT B1.out (below_drew9 _ _)⟩
        | false =>
          have hAB : A = k ∧ B = k + n ∧ n ≤ R.length - k := by
            have := Hr.out
            unfold cho inn at this
            rw [if_neg (by simp)] at this
            split at this
            · injection this with this; injection this with t1 t2; exact ⟨t1.symm, t2.symm, by assumption⟩
            · cases this
          obtain ⟨rfl, rfl, hle⟩ := hAB
          have hle1 : (n : Int) ≤ ((R.length - A : Nat) : Int) := by omega
          clear u1 u2 u3 u4
          obtain ⟨g1, e1, c1, -, -⟩ := HCX.out _ (Below.refl _ _)
          obtain ⟨g2, e2, -, c2, -⟩ := HCY.out _ (Below.refl _ _)
          cases e1
          cases e2
          rcases HEND.out with h9 | ⟨gb, X, h9, e9, hX, hq9⟩
          · omega
          · cases e9
            clear HEND hle
            generalize A + n = P at *
            go_wp2
            go_quiet (fail)
            go_wp2
            all_goals go_ret3
            all_goals exact ⟨by rw [HN.out]; rfl, below_drew9 _ _⟩
end Go.Proofs.Ytgdhdegmjljbfaa
