/- The contract of word's leads, of one of the motions. -/
import Derived.Test.YtomekjakjgfjdaaFew
namespace Go.Proofs.Ytomekjakjgfjdaa
open Go.RowKit

set_option maxHeartbeats 2000000 in
theorem leads_27d (ao : Option Addr) (n c p N : Nat) (big : Bool) (l : List UInt8) (w : World) (hp : p ≤ n) (hN : N ≤ 9999) (HT : Hid (Tx w ao n c l)) :
    Calls Try.prog 20 #[.agg #[.int .i64 (-1), .func (.func 27) #[] #[], .bool true, .int .i64 2, .bool big], .slice ao n c, .int .i64 p, .int .i64 N] w fun e w' => e = .returned (.int .i64 (sdn (hlt l big) (fun _ => 0) p N p : Nat)) ∧ Below w.heap.size w w' := by
  have hbig : (n : Int) ≤ 140737488355328 := by have := HT.out.big; omega
  obtain ⟨A, hA⟩ : ∃ A, A = sdn (hlt l big) (fun _ => 0) p N p := ⟨_, rfl⟩
  rw [← hA]
  have HA := Hid.mk' hA
  clear hA
  go_enter Try.func20, Try.ntmps20
  go_wp2
  go_step3
  go_wp2
  go_step3
  go_wp2
  have BW : Hid (Below w.heap.size w (w.alloc (.cells #[.int .i64 (-1), .func (.func 27) #[] #[], .bool true, .int .i64 2, .bool big] 48))) := bAlloc (Below.refl _ _) _
  have m0 : (w.alloc (.cells #[.int .i64 (-1), .func (.func 27) #[] #[], .bool true, .int .i64 2, .bool big] 48)).cell? ⟨w.heap.size, 0, none⟩ = some (.int .i64 (-1)) := by simp
  have m1 : (w.alloc (.cells #[.int .i64 (-1), .func (.func 27) #[] #[], .bool true, .int .i64 2, .bool big] 48)).cell? ⟨w.heap.size, 1, none⟩ = some (.func (.func 27) #[] #[]) := by simp
  have m2 : (w.alloc (.cells #[.int .i64 (-1), .func (.func 27) #[] #[], .bool true, .int .i64 2, .bool big] 48)).cell? ⟨w.heap.size, 2, none⟩ = some (.bool true) := by simp
  have m3 : (w.alloc (.cells #[.int .i64 (-1), .func (.func 27) #[] #[], .bool true, .int .i64 2, .bool big] 48)).cell? ⟨w.heap.size, 3, none⟩ = some (.int .i64 2) := by simp
  have m4 : (w.alloc (.cells #[.int .i64 (-1), .func (.func 27) #[] #[], .bool true, .int .i64 2, .bool big] 48)).cell? ⟨w.heap.size, 4, none⟩ = some (.bool big) := by simp
  have HT1 := Hid.mk' (HT.out.keep BW.out)
  generalize w.alloc (.cells #[.int .i64 (-1), .func (.func 27) #[] #[], .bool true, .int .i64 2, .bool big] 48) = W1 at *
  go_loopg [9, 13] N (fun m x9 x13 wx => ∃ d j : Nat, j + m = N ∧ d ≤ n ∧ x9 = .int .i64 d ∧ x13 = .int .i64 j ∧ Hid (sdn (hlt l big) (fun _ => 0) d m d = A) ∧ W1 = wx)
  case atStart => exact ⟨p, 0, by omega, hp, rfl, rfl, HA.out.symm, rfl⟩
  case round =>
    obtain ⟨d, j, hj, hd, rfl, rfl, HI, rfl⟩ := hrel
    have hd0 : (0 : Int) ≤ (d : Int) := by omega
    have hd1 : (d : Int) ≤ 140737488355328 := by omega
    cases gk with
    | zero =>
      have hjz : ¬ ((j : Int) < (N : Int)) := by omega
      have e : d = A := by have := HI.out; rw [sdn_zero] at this; exact this
      subst e
      go_wp2
      try rw [Exit.noGoto_ret]
      go_ret
      exact ⟨rfl, BW.out⟩
    | succ m =>
      have hjz : (j : Int) < (N : Int) := by omega
      have hj1 : (j : Int) ≤ 9999 := by omega
      have hj0 : (0 : Int) ≤ (j : Int) := by omega
      go_wp2
      go_loopg [9, 10] d (fun g x9 x10 wy => g ≤ d ∧ x9 = .int .i64 d ∧ x10 = .int .i64 ((g : Int) - 1) ∧ Hid (sdn (hlt l big) (fun _ => 0) g (m + 1) d = A) ∧ W1 = wy)
      case atStart => exact ⟨Nat.le_refl _, rfl, by go_num, HI.out, rfl⟩
      case round =>
        obtain ⟨hgd, rfl, rfl, HJ, rfl⟩ := hrel
        cases gk with
        | zero =>
          have HE : Hid ((0) = A) := by have := HJ.out; rw [sdn_end _ (by omega)] at this; exact this
          go_wp2_with (go_at_call 28; refine (fewer_dn _ _ _ _ _ _ _ _).mono ?_; rintro e w9 ⟨rfl, hb9⟩)
          try rw [Exit.noGoto_ret]
          go_ret
          exact ⟨by rw [← HE.out]; rfl, bT BW.out hb9⟩
        | succ g =>
          have eg : ((g + 1 : Nat) : Int) - 1 = (g : Int) := by omega
          rw [eg]
          have hqz : (g : Int) ≤ (n : Int) := by omega
          have hq0 : (0 : Int) ≤ (g : Int) := by omega
          have hq1 : (g : Int) ≤ 140737488355328 := by omega
          have C1 := Hid.mk' (isHalt_any (k := g) big (by omega) HT1)
          cases hs : hlt l big g with
          | true =>
            have HK : Hid (sdn (hlt l big) (fun _ => 0) g m g = A) := by
              have := HJ.out
              rw [sdn_yes (by omega) hs, Nat.add_sub_cancel] at this
              exact this
            rw [hs] at C1
            go_wp2_with (go_at_call 27; refine C1.out.mono ?_; rintro e w' ⟨rfl, hw⟩; have hq := hw.symm; subst hq; clear hw)
            go_roundg m
            case measure => omega
            case rel => exact ⟨g, j + 1, by omega, by omega, rfl, by go_num, HK.out, rfl⟩
          | false =>
            have HK : Hid (sdn (hlt l big) (fun _ => 0) g (m + 1) d = A) := by
              have := HJ.out
              rw [sdn_no (by omega) hs] at this
              exact this
            rw [hs] at C1
            go_wp2_with (go_at_call 27; refine C1.out.mono ?_; rintro e w' ⟨rfl, hw⟩; have hq := hw.symm; subst hq; clear hw)
            go_roundg g
            case measure => omega
            case rel => exact ⟨by omega, rfl, by go_num, HK.out, rfl⟩

end Go.Proofs.Ytomekjakjgfjdaa
