/- bytes.HasPrefix; does an edit fit a text? -/
import Derived.Test.YtaahklapoppgaaaPm05
namespace Go.Proofs.Ytaahklapoppgaaa
open Go.RowKit

set_option maxRecDepth 8000
theorem below_drewN (w : World) (n : Nat) : Below w.heap.size w (w.drewN n) := ⟨rfl, rfl, rfl, Nat.le_refl _, fun _ _ => rfl⟩
set_option maxHeartbeats 4000000 in
theorem prefix_any (a1 : Option Addr) (n1 c1 : Nat) (l1 : List UInt8) (a2 : Option Addr) (n2 c2 : Nat) (l2 : List UInt8) (w : World) (h1 : Hid (Tx w a1 n1 c1 l1)) (h2 : Hid (Tx w a2 n2 c2 l2)) :
    Calls Try.prog 78 #[.slice a1 n1 c1, .slice a2 n2 c2] w fun e w' => e = .returned (.bool (l1.take l2.length == l2)) ∧ w' = w := by
  have e2 := h2.out.len
  have e1 := h1.out.len
  by_cases hle : n2 ≤ n1
  · have hz1 : (n2 : Int) ≤ (n1 : Int) := by omega
    obtain ⟨a3, c3, hs3, hT3⟩ := sl_h h1.out (m := n2) hle
    have C := Hid.mk' (equal_any a3 n2 c3 (l1.take n2) a2 n2 c2 l2 w hT3 h2)
    rw [e2]
    generalize (l1.take n2 == l2) = q at *
    clear hT3 hle h1 h2 e1 e2
    go_enter Try.func78, Try.ntmps78
    go_wp2_with (first | (go_at_call 84; refine C.out.mono ?_; rintro e w1 ⟨rfl, rfl⟩) | fail)
    go_ret
    exact ⟨rfl, rfl⟩
  · have hz1 : ¬ (n2 : Int) ≤ (n1 : Int) := by omega
    have hq : (l1.take l2.length == l2) = false := by
      cases hb : (l1.take l2.length == l2) with
      | false => rfl
      | true =>
        have := congrArg List.length (eq_of_beq hb)
        rw [List.length_take] at this
        omega
    rw [hq]
    clear hle h1 h2 e1 e2 hq
    go_enter Try.func78, Try.ntmps78
    go_wp2
    go_ret
    exact ⟨rfl, rfl⟩
set_option maxHeartbeats 4000000 in
theorem efits_any (ao : Option Addr) (n c : Nat) (T : List UInt8) (r : Er) (w : World) (hT : Hid (Tx w ao n c T)) (hE : Hid (Et w r)) :
    Calls Try.prog 64 #[.slice ao n c, .agg r.cs] w fun e w' => e = .returned (.bool (fitB T r.d)) ∧ Below w.heap.size w w' := by
  obtain ⟨a, p1, o, c1, O, p2, n2, c2, N⟩ := r
  show Calls Try.prog 64 #[.slice ao n c, .agg #[.int .i64 a, .slice p1 o c1, .slice p2 n2 c2]] w fun e w' => e = .returned (.bool (fitB T (Er.d ⟨a, p1, o, c1, O, p2, n2, c2, N⟩))) ∧ Below w.heap.size w w'
  have hn := hT.out.len
  have ho := hE.out.t1.len
  dsimp only at ho
  generalize hW1 : w.alloc (.cells #[.int .i64 a, .slice p1 o c1, .slice p2 n2 c2] 77) = W1
  have K0 : Hid (Blk W1 w.heap.size 77 #[.int .i64 a, .slice p1 o c1, .slice p2 n2 c2]) := by subst hW1; exact Blk.new w 77 _
  have L0 : Hid (Below w.heap.size w W1) := by subst hW1; exact bAlloc (Below.refl _ _) _
  obtain ⟨q, hq⟩ : ∃ q, q = w.heap.size := ⟨_, rfl⟩
  rw [← hq] at K0
  have k0 : W1.cell? ⟨q, 0, none⟩ = some (.int .i64 a) := K0.out.cell rfl
  have k1 : W1.cell? ⟨q, 1, none⟩ = some (.slice p1 o c1) := K0.out.cell rfl
  have hqr : w.heap.size = q := hq.symm
  by_cases ha : 0 ≤ a
  · obtain ⟨p, rfl⟩ : ∃ p : Nat, a = (p : Int) := ⟨a.toNat, by omega⟩
    by_cases hp : p ≤ n
    · have hf : fitB T (Er.d ⟨(p : Int), p1, o, c1, O, p2, n2, c2, N⟩) = ((T.drop p).take O.length == O) := by
        unfold fitB Er.d
        dsimp only
        rw [decide_eq_true (show (0 : Int) ≤ (p : Int) by omega), decide_eq_true (show (p : Int) ≤ (T.length : Int) by omega)]
        simp
      rw [hf]
      have hz1 : (0 : Int) ≤ (p : Int) := by omega
      have hz2 : (p : Int) ≤ (n : Int) := by omega
      obtain ⟨a3, c3, hs3, hT3⟩ := sl_l (hT.out.keep L0.out) (lo := p) (z := (p : Int)) hp rfl
      have C := Hid.mk' (fun W (hb : Below W1.heap.size W1 W) => prefix_any a3 (n - p) c3 (T.drop p) p1 o c1 O W (hT3.keep hb) ((hE.out.t1.keep L0.out).keep hb))
      generalize ((T.drop p).take O.length == O) = b at *
      clear hT3 hf hT hE hq hp ha hn ho
      go_enter Try.func64, Try.ntmps64
      go_upto_region 1 with fail
      clear hW1 hqr
      go_quiet (first | (go_at_call 78; exact Calls.quiet_of_same (C.out _ (below_drewN _ _))) | fail)
      go_wp2
      go_ret
      exact ⟨rfl, bT L0.out (below_drewN _ _)⟩
    · have hf : fitB T (Er.d ⟨(p : Int), p1, o, c1, O, p2, n2, c2, N⟩) = false := by
        unfold fitB Er.d
        dsimp only
        rw [decide_eq_false (show ¬ (p : Int) ≤ (T.length : Int) by omega)]
        simp
      rw [hf]
      have hz1 : (0 : Int) ≤ (p : Int) := by omega
      have hz2 : decide ((p : Int) ≤ (n : Int)) = false := decide_eq_false (by omega)
      have hz3 : decide (p ≤ n) = false := decide_eq_false (by omega)
      have hz4 : ¬ p ≤ n := by omega
      clear hf hT hE hq hp ha hn ho
      go_enter Try.func64, Try.ntmps64
      go_upto_region 1 with fail
      clear hW1 hqr
      go_quiet (fail)
      go_wp2
      go_ret
      exact ⟨rfl, bT L0.out (below_drewN _ _)⟩
  · have hf : fitB T (Er.d ⟨a, p1, o, c1, O, p2, n2, c2, N⟩) = false := by
      unfold fitB Er.d
      dsimp only
      rw [decide_eq_false (show ¬ (0 : Int) ≤ a by omega)]
      simp
    rw [hf]
    have hz1 : decide ((0 : Int) ≤ a) = false := decide_eq_false (by omega)
    clear hf hT hE hq hn ho
    go_enter Try.func64, Try.ntmps64
    go_upto_region 1 with fail
    clear hW1 hqr
    go_quiet (fail)
    go_wp2
    go_ret
    exact ⟨rfl, bT L0.out (below_drewN _ _)⟩
end Go.Proofs.Ytaahklapoppgaaa
