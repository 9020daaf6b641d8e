/- The contract of quoinref10's bracket. -/
import Derived.Test.YtkapddemgodamaaDoorRsm
namespace Go.Proofs.YtkapddemgodamaaDoor
open Go.RowKit

def brk (o : Option Nat) : Int := match o with
  | none => -1
  | some q => q
set_option maxHeartbeats 2000000 in
theorem bracket_any {ao : Option Addr} {n c p : Nat} {l : List UInt8} {w : World} (hp : p ≤ n) (HT : Hid (Tx w ao n c l)) :
    Calls Tryd.prog 21 #[.slice ao n c, .int .i64 p] w fun e w' => e = .returned (.int .i64 (brk (fq l (n - p) p))) ∧ w' = w := by
  have hl := HT.out.len
  have hbig := HT.out.big
  obtain ⟨A, hA⟩ : ∃ A, A = fq l (n - p) p := ⟨_, rfl⟩
  rw [← hA]
  have HA := Hid.mk' hA.symm
  clear hA
  go_enter Tryd.func21, Tryd.ntmps21
  go_wp2
  go_loopg [5] (n - p) (fun g x1 wx => ∃ q : Nat, x1 = .int .i64 q ∧ q + g = n ∧ Hid (fq l g q = A) ∧ w = wx)
  case atStart => exact ⟨p, rfl, by omega, HA.out, rfl⟩
  case round =>
    obtain ⟨q, rfl, hq, HI, rfl⟩ := hrel
    have hq0 : (0 : Int) ≤ (q : Int) := by omega
    have hq1 : (q : Int) ≤ 140737488355328 := by omega
    cases gk with
    | zero =>
      have hqn : ¬ ((q : Int) < (n : Int)) := by omega
      obtain rfl : A = none := by have := HI.out; rw [← this]; rfl
      go_wp2
      go_ret
      exact ⟨rfl, rfl⟩
    | succ g =>
      have hqn : (q : Int) < (n : Int) := by omega
      obtain ⟨gg, o, rfl, hcl⟩ := HT.out.at (by omega)
      clear hcl
      have hc0 := cell_bi' HT.out (j := q) (by omega)
      have HP := HI.out
      unfold fq at HP
      by_cases hb : bi l q = 10
      · obtain rfl : A = none := by rw [← HP, if_pos hb]
        have hb2 : (bi l q != 10) = false := by simp [hb]
        clear hb HP HI
        generalize bi l q = y at *
        go_wp2
        go_ret
        exact ⟨rfl, rfl⟩
      · rw [if_neg hb] at HP
        have hb2 : (bi l q != 10) = true := by simp [hb]
        have C2 := Hid.mk' (rpartner_any (bi l q) w)
        clear HI hb
        unfold ptr at C2
        generalize po (bi l q) = xo at *
        generalize pn (bi l q) = xn at *
        generalize pk (bi l q) = xk at *
        generalize bi l q = y at *
        cases xk with
        | true =>
          obtain rfl : A = some q := by rw [← HP]; simp
          clear HP
          go_wp2_with (go_at_call 30; refine C2.out.mono ?_; rintro e w' ⟨rfl, hw⟩; have hq := hw.symm; subst hq; clear hw)
          all_goals go_ret
          all_goals exact ⟨rfl, rfl⟩
        | false =>
          have HI : Hid (fq l g (q + 1) = A) := Hid.mk' (by simpa using HP)
          clear HP
          go_wp2_with (go_at_call 30; refine C2.out.mono ?_; rintro e w' ⟨rfl, hw⟩; have hq := hw.symm; subst hq; clear hw)
          all_goals go_roundg g
          all_goals first | omega | exact ⟨q + 1, by go_num, by omega, HI.out, rfl⟩
end Go.Proofs.YtkapddemgodamaaDoor
