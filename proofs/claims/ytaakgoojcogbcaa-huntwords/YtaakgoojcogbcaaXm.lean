/- The contracts of quoinref05.Count, Start, End, Of, begin and Column. -/
import Derived.Test.YtaakgoojcogbcaaXa
namespace Go.Proofs.Ytaakgoojcogbcaa
open Go.RowKit

theorem le_of {l : List UInt8} {i : Nat} {b : Bool} (h : (((at8 l i).toNat : Int) == 10) = b) : le (at8 l i) = b := h

end Go.Proofs.Ytaakgoojcogbcaa
/- The contracts of quoinref05.Of, begin, Column, First, At and Rest. -/
namespace Go.Proofs.Ytaakgoojcogbcaa
open Go.RowKit

theorem pl_no {l : List UInt8} {n : Nat} {i : Int} (hl : l.length = n) (h : plB l i = false) : i < 0 ∨ (n : Int) < i := by
  have h := of_decide_eq_false h
  omega

set_option maxHeartbeats 1000000 in
theorem begin_any (ao : Option Addr) (n c k : Nat) (l : List UInt8) (w : World) (hk : k ≤ n) (HT : Hid (Tx w ao n c l)) :
    Calls Try.prog 90 #[.slice ao n c, .int .i64 k] w fun e w' => e = .returned (.int .i64 (bg l k)) ∧ w' = w := by
  have hbig : (n : Int) ≤ 140737488355328 := by have := HT.out.big; omega
  go_enter Try.func90, Try.ntmps90
  go_wp2_with fail
  go_loopw [1] (fun u wr => ∃ j : Nat, u = .int .i64 (j : Int) ∧ j ≤ n ∧ bg l k = bg l j ∧ wr = w) (fun u _ => (intOf u).toNat)
  case atStart => exact ⟨k, rfl, hk, rfl, rfl⟩
  case round =>
    obtain ⟨j, rfl, hj, hbg, rfl⟩ := hrel
    have HG : Hid (bg l k = bg l j) := hbg
    clear hbg
    by_cases hz : j = 0
    · subst hz
      go_wp2
      go_ret
      exact ⟨by rw [HG.out]; rfl, rfl⟩
    · obtain ⟨g, o, rfl, hc⟩ := HT.out.at (by omega)
      have hc0 := hc (j - 1) (by omega)
      have hi0 : (1 : Int) ≤ (j : Int) := by omega
      have hi1 : (0 : Int) < (j : Int) := by omega
      have hin : (j : Int) - 1 < (n : Int) := by omega
      clear hc
      cases h10 : (((at8 l (j - 1)).toNat : Int) == 10) with
      | true =>
        have hne : (((at8 l (j - 1)).toNat : Int) != 10) = false := by simp only [bne, h10]; rfl
        have HB : Hid (bg l j = j) := bg_yes (by omega) h10
        go_wp2
        go_ret
        exact ⟨by rw [HG.out, HB.out]; rfl, rfl⟩
      | false =>
        have hne : (((at8 l (j - 1)).toNat : Int) != 10) = true := by simp only [bne, h10]; rfl
        have HB : Hid (bg l j = bg l (j - 1)) := by
          unfold Hid
          obtain ⟨i, rfl⟩ : ∃ i, j = i + 1 := ⟨j - 1, by omega⟩
          conv => lhs; unfold bg
          rw [if_neg (by rw [show le (at8 l i) = false from h10]; simp)]
          rfl
        go_wp2
        go_roundw
        case rel => exact ⟨j - 1, by congr 1; omega, by omega, by rw [HG.out, HB.out], by trivial⟩
        case measure => first | (simp [intOf]; done) | (simp [intOf]; omega)

theorem lb_lt {s e : Nat} (h : s < e) : (lb s e : Int) = (e : Int) - 1 := by unfold lb; omega
theorem lb_eq {s e : Nat} (h : s = e) : lb s e = s := by unfold lb; omega

set_option maxHeartbeats 1000000 in
theorem refRest_any (ao : Option Addr) (n c : Nat) (i : Int) (l : List UInt8) (w : World) (_h1 : -9223372036854775808 ≤ i) (_h2 : i ≤ 9223372036854775807) (HT : Hid (Tx w ao n c l)) :
    Calls Try.prog 68 #[.slice ao n c, .int .i64 i] w fun e w' => e = .returned (.int .i64 (rs l (cl l i))) ∧ w' = w := by
  have hl := HT.out.len
  have hcl := cl_le l i
  have hi := cl_eq l i
  rw [hl] at hi
  have hbig : (n : Int) ≤ 140737488355328 := by have := HT.out.big; omega
  have C1 : Hid (Calls Try.prog 90 #[.slice ao n c, .int .i64 (cl l i : Nat)] w fun e w' => e = .returned (.int .i64 (bg l (cl l i))) ∧ w' = w) := begin_any ao n c (cl l i) l w (by omega) HT
  have HL := Hid.mk' hl
  generalize cl l i = k at *
  have hk : (k : Int) ≤ n := by omega
  have hk0 : (0 : Int) ≤ k := by omega
  clear hl
  have HR0 : Hid (bg l k = k → rs l k = k) := fun h => by unfold rs; rw [if_pos (.inr h)]
  have HB : Hid (bg l k ≤ k) := bg_le l k
  by_cases hkn : k < n
  · obtain ⟨g, o, rfl, hc⟩ := HT.out.at (by omega)
    have c1 := hc k hkn
    have hkn' : (k : Int) < n := by omega
    clear hc
    cases h10 : (((at8 l k).toNat : Int) == 10) with
    | false =>
      have HR : Hid (rs l k = k) := by unfold Hid rs; rw [if_pos (.inl ⟨by rw [HL.out]; exact hkn, h10⟩)]
      have hne : (((at8 l k).toNat : Int) != 10) = true := by simp only [bne, h10]; rfl
      go_enter Try.func68, Try.ntmps68
      go_wp2_with (go_at_call 90; refine C1.out.mono ?_; rintro e w' ⟨rfl, hw⟩; have hq := hw.symm; subst hq)
      go_ret
      exact ⟨by rw [HR.out]; rfl, rfl⟩
    | true =>
      have hne : (((at8 l k).toNat : Int) != 10) = false := by simp only [bne, h10]; rfl
      by_cases hbg : bg l k = k
      · have HR : Hid (rs l k = k) := HR0.out hbg
        rw [hbg] at C1
        go_enter Try.func68, Try.ntmps68
        go_wp2_with (go_at_call 90; refine C1.out.mono ?_; rintro e w' ⟨rfl, hw⟩; have hq := hw.symm; subst hq)
        go_ret
        exact ⟨by rw [HR.out]; rfl, rfl⟩
      · have hb2 : ((k : Int) == (bg l k : Int)) = false := by rw [beq_eq_false_iff_ne]; omega
        have HR : Hid ((rs l k : Int) = (k : Int) - 1) := by
          unfold Hid rs
          rw [if_neg (fun h => by rcases h with h | h; (rw [le_of h10] at h; simp at h); exact hbg h)]
          have := HB.out
          omega
        have hk1 : (1 : Int) ≤ k := by have := HB.out; omega
        go_enter Try.func68, Try.ntmps68
        go_wp2_with (go_at_call 90; refine C1.out.mono ?_; rintro e w' ⟨rfl, hw⟩; have hq := hw.symm; subst hq)
        go_ret
        exact ⟨by rw [HR.out]; rfl, rfl⟩
  · have hkn' : ¬ (k : Int) < n := by omega
    by_cases hbg : bg l k = k
    · have HR : Hid (rs l k = k) := HR0.out hbg
      rw [hbg] at C1
      go_enter Try.func68, Try.ntmps68
      go_wp2_with (go_at_call 90; refine C1.out.mono ?_; rintro e w' ⟨rfl, hw⟩; have hq := hw.symm; subst hq)
      go_ret
      exact ⟨by rw [HR.out]; rfl, rfl⟩
    · have hb2 : ((k : Int) == (bg l k : Int)) = false := by rw [beq_eq_false_iff_ne]; omega
      have HR : Hid ((rs l k : Int) = (k : Int) - 1) := by
        unfold Hid rs
        rw [if_neg (fun h => by rcases h with h | h; (have h3 := HL.out; omega); exact hbg h)]
        have := HB.out
        omega
      have hk1 : (1 : Int) ≤ k := by have := HB.out; omega
      go_enter Try.func68, Try.ntmps68
      go_wp2_with (go_at_call 90; refine C1.out.mono ?_; rintro e w' ⟨rfl, hw⟩; have hq := hw.symm; subst hq)
      go_ret
      exact ⟨by rw [HR.out]; rfl, rfl⟩
end Go.Proofs.Ytaakgoojcogbcaa
