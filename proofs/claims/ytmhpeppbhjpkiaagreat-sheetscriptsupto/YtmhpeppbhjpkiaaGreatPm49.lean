/- asked, the line of a place. -/
import Derived.Test.YtmhpeppbhjpkiaaGreatPm41
import Derived.Test.YtmhpeppbhjpkiaaGreatPm42
import Derived.Test.YtmhpeppbhjpkiaaGreatPm48
namespace Go.Proofs.YtmhpeppbhjpkiaaGreat
open Go.RowKit

set_option maxRecDepth 8000 in
set_option maxHeartbeats 2000000 in
theorem askedL_no (sb : Nat) (T : List UInt8) (ta : Option Addr) (tc : Nat) (k x b : Int) (vp ve : Value) (W : World) (hQ : Hid (Aq W sb T)) (k3 : (k == 3) = false) (k4 : (k == 4) = false) (k5 : (k == 5) = false) (hx : x < 0 ∨ (T.length : Int) < x) :
    Calls Tryz.prog 10 #[.pointer (some ⟨sb, 0, none⟩), .slice ta T.length tc, .agg #[.int .i64 k, .int .i64 x, .int .i64 b, vp, ve]] W fun e' w' => e' = .returned (.bool true) ∧ Below W.heap.size W w' := by
  have HB := hid (fun (X : Obj) => hQ.out.lnno x hx _ (bAlloc (Below.refl _ _) X))
  have hd : Hid (decide (x < 0) = true ∨ (decide (x < 0) = false ∧ decide ((T.length : Int) < x) = true)) := by
    unfold Hid; by_cases h : x < 0
    · simp [h]
    · right; simp; omega
  clear hx
  go_enter Tryz.func10, Tryz.ntmps10
  go_wp2_with fail
  refine (HB.out _).mono ?_
  rintro e9 w9 ⟨rfl, b9⟩
  obtain ⟨c1, c2⟩ := qbox b9
  have B9 := hid (bT (bAlloc (Below.refl _ _) _) b9)
  clear b9 c2
  rcases hd.out with h | ⟨h, h'⟩
  all_goals
    clear hd
    go_wp2
    go_ret
    exact ⟨rfl, B9.out⟩

set_option maxRecDepth 8000 in
set_option maxHeartbeats 2000000 in
theorem askedL_yes (sb : Nat) (T : List UInt8) (ta : Option Addr) (tc x : Nat) (k b : Int) (vp ve : Value) (W : World) (hQ : Hid (Aq W sb T)) (hR : Hid (Ab.Rd W (.slice ta T.length tc) T)) (hz : T.length ≤ 1048576) (hc : T.length ≤ tc) (k3 : (k == 3) = false) (k4 : (k == 4) = false) (k5 : (k == 5) = false) (hx : x ≤ T.length) :
    Calls Tryz.prog 10 #[.pointer (some ⟨sb, 0, none⟩), .slice ta T.length tc, .agg #[.int .i64 k, .int .i64 (x : Int), .int .i64 b, vp, ve]] W fun e' w' => e' = .returned (.bool true) ∧ Below W.heap.size W w' := by
  have HB := hid (fun (X : Obj) => hQ.out.lnyes x hx _ (bAlloc (Below.refl _ _) X))
  have HL := hid (fun W' (hW : Below W.heap.size W W') => line_any ta tc x T W' hz hc hx (hR.out.keep hW))
  have h1 : (0 : Int) ≤ (x : Int) := by omega
  have h2 : (x : Int) ≤ (T.length : Int) := by omega
  go_enter Tryz.func10, Tryz.ntmps10
  go_wp2_with fail
  refine (HB.out _).mono ?_
  rintro e9 w9 ⟨rfl, b9⟩
  obtain ⟨c1, c2⟩ := qbox b9
  have B9 := hid (bT (bAlloc (Below.refl _ _) _) b9)
  clear b9 c2
  go_wp2_with (go_at_call 32; refine (HL.out _ B9.out).mono ?_; rintro e8 w8 ⟨rfl, hw8⟩; have hw9 := hw8.symm; subst hw9)
  go_ret
  exact ⟨rfl, B9.out⟩
end Go.Proofs.YtmhpeppbhjpkiaaGreat

/- The contract of quoinlaw04.asked. -/
namespace Go.Proofs.YtmhpeppbhjpkiaaGreat
open Go.RowKit

theorem asked_any (sb : Nat) (T : List UInt8) (ta : Option Addr) (tc : Nat) (k x y : Int) (vp ve : Value) (W : World) (hQ : Aq W sb T) (hR : Ab.Rd W (.slice ta T.length tc) T) (hz : T.length ≤ 1048576) (hc : T.length ≤ tc) :
    Calls Tryz.prog 10 #[.pointer (some ⟨sb, 0, none⟩), .slice ta T.length tc, .agg #[.int .i64 k, .int .i64 x, .int .i64 y, vp, ve]] W fun e' w' => e' = .returned (.bool true) ∧ Below W.heap.size W w' := by
  by_cases k3 : k = 3
  · subst k3
    by_cases h : x < 0 ∨ y < x ∨ (T.length : Int) < y
    · exact asked3_no sb T ta tc x y vp ve W hQ h
    · obtain ⟨x, rfl⟩ := Int.eq_ofNat_of_zero_le (a := x) (by omega)
      obtain ⟨y, rfl⟩ := Int.eq_ofNat_of_zero_le (a := y) (by omega)
      exact asked3_yes sb T ta tc x y vp ve W hQ hR hz hc (by omega) (by omega)
  by_cases k4 : k = 4
  · subst k4
    by_cases h : x < 0 ∨ (T.length : Int) ≤ x
    · exact asked4_no sb T ta tc x y vp ve W hQ h
    · obtain ⟨x, rfl⟩ := Int.eq_ofNat_of_zero_le (a := x) (by omega)
      exact asked4_yes sb T ta tc x y vp ve W hQ hR (by omega)
  by_cases k5 : k = 5
  · subst k5
    by_cases h : x < 0 ∨ (Ab.nl T : Int) < x
    · exact asked5_no sb T ta tc x y vp ve W hQ hR hz h
    · obtain ⟨x, rfl⟩ := Int.eq_ofNat_of_zero_le (a := x) (by omega)
      exact asked5_yes sb T ta tc x y vp ve W hQ hR hz (by omega)
  have k3' : (k == 3) = false := by simpa using k3
  have k4' : (k == 4) = false := by simpa using k4
  have k5' : (k == 5) = false := by simpa using k5
  by_cases h : x < 0 ∨ (T.length : Int) < x
  · exact askedL_no sb T ta tc k x y vp ve W hQ k3' k4' k5' h
  · obtain ⟨x, rfl⟩ := Int.eq_ofNat_of_zero_le (a := x) (by omega)
    exact askedL_yes sb T ta tc x k y vp ve W hQ hR hz hc k3' k4' k5' (by omega)
end Go.Proofs.YtmhpeppbhjpkiaaGreat

