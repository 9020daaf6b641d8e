/- %: the line's next bracket, and its partner: the program. -/
import Derived.Test.YtkapddemgodamaaDoorKat
import Derived.Test.YtkapddemgodamaaDoorRws
import Derived.Deep.LoopGhost
import Derived.Deep.CutRange
namespace Go.Proofs.YtkapddemgodamaaDoor
open Go.RowKit

theorem below_drewN (w : World) (n : Nat) : Below w.heap.size w (w.drewN n) := ⟨rfl, rfl, rfl, Nat.le_refl _, fun _ _ => rfl⟩
/-- the first bracket from i on, ahead of the line's end; d bytes are left -/
def fq (l : List UInt8) : Nat → Nat → Option Nat
  | 0, _ => none
  | d + 1, i => if bi l i = 10 then none else if pk (bi l i) = true then some i else fq l d (i + 1)
def oq (o : Option Nat) : Ending := .returned (.tuple #[.int .i64 (o.getD 0 : Nat), .bool o.isSome])
theorem ka_lt {l : List UInt8} {k : Nat} (h : k < l.length) : ka l k = kd (bi l k) false := by unfold ka; rw [if_pos h]
theorem ka_end {l : List UInt8} {k : Nat} (h : l.length ≤ k) : ka l k = 3 := by unfold ka; rw [if_neg (by omega)]

set_option maxHeartbeats 2000000 in
theorem bracketFrom_any {ao : Option Addr} {n c p : Nat} {l : List UInt8} {w : World} (hp : p ≤ n) (HT : Hid (Tx w ao n c l)) :
    Calls Tryd.prog 31 #[.slice ao n c, .int .i64 p] w fun e w' => e = oq (fq l (n - p) p) ∧ w' = w := by
  have hl := HT.out.len
  have hbig := HT.out.big
  obtain ⟨A, hA⟩ : ∃ A, A = fq l (n - p) p := ⟨_, rfl⟩
  rw [← hA]
  have HA := Hid.mk' hA.symm
  clear hA
  go_enter Tryd.func31, Tryd.ntmps31
  go_wp2_with fail
  go_loopg [1] (n - p) (fun g x1 wx => ∃ q : Nat, x1 = .int .i64 q ∧ q + g = n ∧ Hid (fq l g q = A) ∧ w = wx)
  case atStart => exact ⟨p, rfl, by omega, HA.out, rfl⟩
  case round =>
    obtain ⟨q, rfl, hq, HI, rfl⟩ := hrel
    have C1 := Hid.mk' (kindAt_any (k := q) (by omega) HT)
    have hq0 : (0 : Int) ≤ (q : Int) := by omega
    have hq1 : (q : Int) ≤ 140737488355328 := by omega
    cases gk with
    | zero =>
      have hk : ka l q = 3 := ka_end (by omega)
      rw [hk] at C1
      obtain rfl : A = none := by have := HI.out; rw [← this]; rfl
      clear hk
      go_wp2_with (go_at_call 37; refine C1.out.mono ?_; rintro e w' ⟨rfl, hw⟩; have hq := hw.symm; subst hq; clear hw)
      go_ret2
      exact ⟨rfl, rfl⟩
    | succ g =>
      have hqn : (q : Int) < (n : Int) := by omega
      obtain ⟨gg, o, rfl, hcl⟩ := HT.out.at (by omega)
      have hc0 := hcl q (by omega)
      clear hcl
      have hk := ka_lt (l := l) (k := q) (by omega)
      by_cases hb : bi l q = 10
      · obtain rfl : A = none := by have := HI.out; rw [← this]; unfold fq; rw [if_pos hb]
        rw [hk, (kd_three _).2 hb] at C1
        clear hk hb
        go_wp2_with (go_at_call 37; refine C1.out.mono ?_; rintro e w' ⟨rfl, hw⟩; have hq := hw.symm; subst hq; clear hw)
        go_ret2
        exact ⟨rfl, rfl⟩
      · have hk3 : (ka l q == 3) = false := by simp only [hk, beq_eq_false_iff_ne]; exact fun e => hb ((kd_three _).1 e)
        generalize ka l q = kk at *
        have hk3' : (kk != 3) = true := by simp only [bne, hk3]; rfl
        have C2 := Hid.mk' (partner_any ((at8 l q).toNat : Int) w)
        have HP := HI.out
        unfold fq at HP
        rw [if_neg hb] at HP
        clear hk HI hb
        unfold ptr at C2
        have hbi : bi l q = ((at8 l q).toNat : Int) := rfl
        rw [hbi] at HP
        clear hbi
        generalize po ((at8 l q).toNat : Int) = xo at *
        generalize pn ((at8 l q).toNat : Int) = xn at *
        generalize pk ((at8 l q).toNat : Int) = xk at *
        cases xk with
        | true =>
          obtain rfl : A = some q := by rw [← HP]; simp
          clear HP
          go_wp2_with (first | (go_at_call 37; refine C1.out.mono ?_; rintro e w' ⟨rfl, hw⟩; have hq := hw.symm; subst hq; clear hw) | (go_at_call 14; refine C2.out.mono ?_; rintro e w' ⟨rfl, hw⟩; have hq := hw.symm; subst hq; clear hw))
          all_goals go_ret2
          all_goals exact ⟨rfl, rfl⟩
        | false =>
          have HI : Hid (fq l g (q + 1) = A) := Hid.mk' (by simpa using HP)
          clear HP
          go_wp2_with (first | (go_at_call 37; refine C1.out.mono ?_; rintro e w' ⟨rfl, hw⟩; have hq := hw.symm; subst hq; clear hw) | (go_at_call 14; refine C2.out.mono ?_; rintro e w' ⟨rfl, hw⟩; have hq := hw.symm; subst hq; clear hw))
          all_goals go_roundg g
          all_goals first | omega | exact ⟨q + 1, by go_num, by omega, HI.out, rfl⟩
end Go.Proofs.YtkapddemgodamaaDoor
