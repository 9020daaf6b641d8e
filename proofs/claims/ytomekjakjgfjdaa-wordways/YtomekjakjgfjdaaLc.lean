/- The contract of word's leads, of one of the motions. -/
import Derived.Test.YtomekjakjgfjdaaFew
namespace Go.Proofs.Ytomekjakjgfjdaa
open Go.RowKit

set_option maxHeartbeats 2000000 in
theorem leads_26u (ao : Option Addr) (n c p N : Nat) (big : Bool) (l : List UInt8) (w : World) (hp : p ≤ n) (hN : N ≤ 9999) (HT : Hid (Tx w ao n c l)) :
    Calls Try.prog 20 #[.agg #[.int .i64 1, .func (.func 26) #[] #[], .bool false, .int .i64 2, .bool big], .slice ao n c, .int .i64 p, .int .i64 N] w fun e w' => e = .returned (.int .i64 (sup (ndg l big) (fun d => d) (n - p) N p p : Nat)) ∧ Below w.heap.size w w' := by
  have hbig : (n : Int) ≤ 140737488355328 := by have := HT.out.big; omega
  obtain ⟨A, hA⟩ : ∃ A, A = sup (ndg l big) (fun d => d) (n - p) N p p := ⟨_, rfl⟩
  rw [← hA]
  have HA := Hid.mk' hA
  clear hA
  go_enter Try.func20, Try.ntmps20
  go_wp2
  go_step3
  go_wp2
  go_step3
  go_wp2
  have BW : Hid (Below w.heap.size w (w.alloc (.cells #[.int .i64 1, .func (.func 26) #[] #[], .bool false, .int .i64 2, .bool big] 48))) := bAlloc (Below.refl _ _) _
  have m0 : (w.alloc (.cells #[.int .i64 1, .func (.func 26) #[] #[], .bool false, .int .i64 2, .bool big] 48)).cell? ⟨w.heap.size, 0, none⟩ = some (.int .i64 1) := by simp
  have m1 : (w.alloc (.cells #[.int .i64 1, .func (.func 26) #[] #[], .bool false, .int .i64 2, .bool big] 48)).cell? ⟨w.heap.size, 1, none⟩ = some (.func (.func 26) #[] #[]) := by simp
  have m2 : (w.alloc (.cells #[.int .i64 1, .func (.func 26) #[] #[], .bool false, .int .i64 2, .bool big] 48)).cell? ⟨w.heap.size, 2, none⟩ = some (.bool false) := by simp
  have m3 : (w.alloc (.cells #[.int .i64 1, .func (.func 26) #[] #[], .bool false, .int .i64 2, .bool big] 48)).cell? ⟨w.heap.size, 3, none⟩ = some (.int .i64 2) := by simp
  have m4 : (w.alloc (.cells #[.int .i64 1, .func (.func 26) #[] #[], .bool false, .int .i64 2, .bool big] 48)).cell? ⟨w.heap.size, 4, none⟩ = some (.bool big) := by simp
  have HT1 := Hid.mk' (HT.out.keep BW.out)
  generalize w.alloc (.cells #[.int .i64 1, .func (.func 26) #[] #[], .bool false, .int .i64 2, .bool big] 48) = W1 at *
  go_loopg [9, 13] N (fun m x9 x13 wx => ∃ d j : Nat, j + m = N ∧ d ≤ n ∧ x9 = .int .i64 d ∧ x13 = .int .i64 j ∧ Hid (sup (ndg l big) (fun d => d) (n - d) m d d = A) ∧ W1 = wx)
  case atStart => exact ⟨p, 0, by omega, hp, rfl, rfl, HA.out.symm, rfl⟩
  case round =>
    obtain ⟨d, j, hj, hd, rfl, rfl, HI, rfl⟩ := hrel
    have hd0 : (0 : Int) ≤ (d : Int) := by omega
    have hd1 : (d : Int) ≤ 140737488355328 := by omega
    cases gk with
    | zero =>
      have hjz : ¬ ((j : Int) < (N : Int)) := by omega
      have e : d = A := by have := HI.out; rw [sup_zero] at this; exact this
      subst e
      go_wp2
      try rw [Exit.noGoto_ret]
      go_ret
      exact ⟨rfl, BW.out⟩
    | succ m =>
      have hjz : (j : Int) < (N : Int) := by omega
      have hj1 : (j : Int) ≤ 9999 := by omega
      have hj0 : (0 : Int) ≤ (j : Int) := by omega
      go_wp2
      go_loopg [9, 10] (n - d) (fun g x9 x10 wy => ∃ q : Nat, q + g = n + 1 ∧ d < q ∧ x9 = .int .i64 d ∧ x10 = .int .i64 q ∧ Hid (sup (ndg l big) (fun d => d) g (m + 1) d (q - 1) = A) ∧ W1 = wy)
      case atStart => exact ⟨d + 1, by omega, by omega, rfl, by go_num, HI.out, rfl⟩
      case round =>
        obtain ⟨q, hqg, hdq, rfl, rfl, HJ, rfl⟩ := hrel
        have hq0 : (0 : Int) ≤ (q : Int) := by omega
        have hq1 : (q : Int) ≤ 140737488355329 := by omega
        cases gk with
        | zero =>
          have hqz : ¬ ((q : Int) ≤ (n : Int)) := by omega
          have HE : Hid ((d) = A) := by have := HJ.out; rw [sup_end _ _ (by omega)] at this; exact this
          go_wp2_with (go_at_call 28; refine (fewer_at _ _ _ _ _ _ _ _ _).mono ?_; rintro e w9 ⟨rfl, hb9⟩)
          try rw [Exit.noGoto_ret]
          go_ret
          exact ⟨by rw [← HE.out]; rfl, bT BW.out hb9⟩
        | succ g =>
          have hqz : (q : Int) ≤ (n : Int) := by omega
          have C1 := Hid.mk' (isEnding_any (k := q) big (by omega) HT1)
          have eq1 : q - 1 + 1 = q := by omega
          cases hs : ndg l big q with
          | true =>
            have HK : Hid (sup (ndg l big) (fun d => d) g m q q = A) := by
              have := HJ.out
              rw [sup_yes (by omega) (by rw [eq1]; exact hs), eq1, Nat.add_sub_cancel] at this
              exact this
            rw [hs] at C1
            go_wp2_with (go_at_call 26; refine C1.out.mono ?_; rintro e w' ⟨rfl, hw⟩; have hq := hw.symm; subst hq; clear hw)
            go_roundg m
            case measure => omega
            case rel => exact ⟨q, j + 1, by omega, by omega, rfl, by go_num, by rw [show n - q = g from by omega]; exact HK.out, rfl⟩
          | false =>
            have HK : Hid (sup (ndg l big) (fun d => d) g (m + 1) d q = A) := by
              have := HJ.out
              rw [sup_no (by omega) (by rw [eq1]; exact hs), eq1] at this
              exact this
            rw [hs] at C1
            go_wp2_with (go_at_call 26; refine C1.out.mono ?_; rintro e w' ⟨rfl, hw⟩; have hq := hw.symm; subst hq; clear hw)
            go_roundg g
            case measure => omega
            case rel => exact ⟨q + 1, by omega, by omega, rfl, by go_num, HK.out, rfl⟩

end Go.Proofs.Ytomekjakjgfjdaa
