/- The contracts of step's small functions: steps, isResting, left, right, onward, backward, lineOrLast. -/
import Derived.Test.YtbkhbnmihnomaaaMv
import Derived.Deep.RegionHeld3
namespace Go.Proofs.Ytbkhbnmihnomaaa
open Go.RowKit

/-- a motion, as a value -/
abbrev mo (ao : Option Addr) (n c : Nat) (p L want cnt : Int) : Value := .agg #[.slice ao n c, .int .i64 p, .int .i64 L, .int .i64 want, .int .i64 cnt]

set_option maxHeartbeats 400000 in
theorem steps_any (v0 : Value) (p L want cnt : Int) (w : World) :
    Calls Try.prog 43 #[.agg #[v0, .int .i64 p, .int .i64 L, .int .i64 want, .int .i64 cnt]] w fun e w' => e = .returned (.int .i64 (max cnt 1)) ∧ w' = w.alloc (.cells #[v0, .int .i64 p, .int .i64 L, .int .i64 want, .int .i64 cnt] 52) := by
  go_enter Try.func43, Try.ntmps43
  go_wp2
  go_ret
  exact ⟨rfl, rfl⟩

theorem wr64 {n : Int} (h1 : -9223372036854775808 ≤ n) (h2 : n ≤ 9223372036854775807) : IntKind.i64.wrap n = n := by
  rw [IntKind.wrap_i64]; omega
theorem rst_eq {l : List UInt8} {p : Nat} : ((rs l p : Int) == (p : Int)) = rst l p := by
  unfold rst
  rw [Bool.eq_iff_iff]
  simp
  omega
set_option maxHeartbeats 400000 in
theorem resting_any (ao : Option Addr) (n c p : Nat) (l : List UInt8) (w : World) (hp : p ≤ n) (HT : Hid (Tx w ao n c l)) :
    Calls Try.prog 55 #[.slice ao n c, .int .i64 p] w fun e w' => e = .returned (.bool (rst l p)) ∧ w' = w := by
  have hbig := HT.out.big
  have hl := HT.out.len
  have hc : cl l (p : Int) = p := cl_nat (by omega)
  have C := rest_any ao n c (p : Int) l w (by omega) (by omega) HT
  rw [hc] at C
  have C := Hid.mk' C
  clear hc
  go_enter Try.func55, Try.ntmps55
  go_wp2_with (go_at_call 12; refine C.out.mono ?_; rintro e w' ⟨rfl, hw⟩; subst hw)
  go_ret
  exact ⟨by rw [rst_eq]; rfl, rfl⟩

set_option maxHeartbeats 1000000 in
theorem left_any (ao : Option Addr) (n c p N : Nat) (want cnt : Int) (l : List UInt8) (w : World) (hp : p ≤ n) (hc : max cnt 1 = (N : Int)) (hN : (N : Int) ≤ 9999) (HT : Hid (Tx w ao n c l)) :
    Calls Try.prog 44 #[mo ao n c p (nl (l.take p) : Nat) want cnt] w fun e w' => e = prE (tgt l p want N (decide (cnt = 0)) 1) 70 ∧ Below w.heap.size w w' := by
  have hbig : (n : Int) ≤ 140737488355328 := by have := HT.out.big; omega
  have hpn : (p : Int) ≤ (n : Int) := by omega
  have hp0 : (0 : Int) ≤ (p : Int) := by omega
  have hbp : (bg l p : Int) ≤ (p : Int) := by have := bg_le l p; omega
  have hb0 : (0 : Int) ≤ (bg l p : Int) := by omega
  have hN0 : (1 : Int) ≤ (N : Int) := by omega
  have C1 := Hid.mk' (fun x => start_is hp (Hid.mk' (HT.out.keep (bAlloc (Below.refl _ _) x))))
  by_cases hs : p = bg l p
  · have HA : Hid (prE (tgt l p want N (decide (cnt = 0)) 1) 70 = .returned (.tuple #[.int .i64 0, .int .i64 70])) := by
      show prE (opt (decide (p ≠ bg l p)) _) 70 = _
      rw [decide_eq_false (by omega)]; rfl
    have hs1 : ((p : Int) == (bg l p : Int)) = true := by simp; omega
    clear hs
    go_enter Try.func44, Try.ntmps44
    go_wp2_with (go_at_call 48; refine (C1.out _).mono ?_; rintro e w' ⟨rfl, hw⟩; subst hw)
    go_ret2
    exact ⟨by rw [HA.out]; rfl, bAlloc (Below.refl _ _) _⟩
  · have HA : Hid (prE (tgt l p want N (decide (cnt = 0)) 1) 70 = .returned (.tuple #[.int .i64 (max ((p : Int) - (N : Int)) (bg l p : Int)), .int .i64 0])) := by
      show prE (opt (decide (p ≠ bg l p)) (max (p - N) (bg l p))) 70 = _
      rw [decide_eq_true hs, show (max ((p : Int) - (N : Int)) (bg l p : Int)) = ((max (p - N) (bg l p) : Nat) : Int) from by omega]
      rfl
    have hs1 : ((p : Int) == (bg l p : Int)) = false := by simp; omega
    have hwr : IntKind.i64.wrap ((p : Int) - (N : Int)) = (p : Int) - (N : Int) := wr64 (by omega) (by omega)
    go_enter Try.func44, Try.ntmps44
    go_wp2_with (go_at_call 48; refine (C1.out _).mono ?_; rintro e w' ⟨rfl, hw⟩; subst hw)
    go_region_held3 (fun w' => w'.cell? ⟨w.heap.size, 0, none⟩ = some (.slice ao n c) ∧ w'.cell? ⟨w.heap.size, 1, none⟩ = some (.int .i64 p) ∧ w'.cell? ⟨w.heap.size, 2, none⟩ = some (.int .i64 (nl (l.take p) : Nat)) ∧ w'.cell? ⟨w.heap.size, 3, none⟩ = some (.int .i64 want) ∧ w'.cell? ⟨w.heap.size, 4, none⟩ = some (.int .i64 cnt)) (first | assumption | simp [*, go_sem]) (first | (go_at_call 43; refine (steps_any _ _ _ _ _ _).mono ?_; rintro e w9 ⟨rfl, rfl⟩) | fail)
    all_goals go_wp2
    all_goals go_ret2
    all_goals exact ⟨by rw [HA.out]; rfl, (by first | exact (bAlloc (bAlloc (Below.refl _ _) _).drew _) | exact (bAlloc (bAlloc (Below.refl _ _) _) _).drew | exact (bAlloc (bAlloc (Below.refl _ _) _) _) | exact (bAlloc (bAlloc (Below.refl _ _) _).drew _).drew)⟩

set_option maxHeartbeats 1000000 in
theorem right_any (ao : Option Addr) (n c p N : Nat) (want cnt : Int) (l : List UInt8) (w : World) (hp : p ≤ n) (hc : max cnt 1 = (N : Int)) (hN : (N : Int) ≤ 9999) (HT : Hid (Tx w ao n c l)) :
    Calls Try.prog 45 #[mo ao n c p (nl (l.take p) : Nat) want cnt] w fun e w' => e = prE (tgt l p want N (decide (cnt = 0)) 2) 70 ∧ Below w.heap.size w w' := by
  have hbig : (n : Int) ≤ 140737488355328 := by have := HT.out.big; omega
  have hpn : (p : Int) ≤ (n : Int) := by omega
  have hp0 : (0 : Int) ≤ (p : Int) := by omega
  have hbp : (en l (bg l p) : Int) ≤ (n : Int) := by have := bg_le l p; have := HT.out.len; have := en_le (t := l) (s := bg l p) (by omega); omega
  have hb0 : (p : Int) ≤ (en l (bg l p) : Int) := by have := place_en (t := l) (i := p) (by have := HT.out.len; omega); omega
  have hN0 : (1 : Int) ≤ (N : Int) := by omega
  have C1 := Hid.mk' (fun x => end_is hp (Hid.mk' (HT.out.keep (bAlloc (Below.refl _ _) x))))
  by_cases hs : p = en l (bg l p)
  · have HA : Hid (prE (tgt l p want N (decide (cnt = 0)) 2) 70 = .returned (.tuple #[.int .i64 0, .int .i64 70])) := by
      show prE (opt (decide (p ≠ en l (bg l p))) _) 70 = _
      rw [decide_eq_false (by omega)]; rfl
    have hs1 : ((p : Int) == (en l (bg l p) : Int)) = true := by simp; omega
    clear hs
    go_enter Try.func45, Try.ntmps45
    go_wp2_with (go_at_call 17; refine (C1.out _).mono ?_; rintro e w' ⟨rfl, hw⟩; subst hw)
    go_ret2
    exact ⟨by rw [HA.out]; rfl, bAlloc (Below.refl _ _) _⟩
  · have HA : Hid (prE (tgt l p want N (decide (cnt = 0)) 2) 70 = .returned (.tuple #[.int .i64 (min ((p : Int) + (N : Int)) (en l (bg l p) : Int)), .int .i64 0])) := by
      show prE (opt (decide (p ≠ en l (bg l p))) (min (p + N) (en l (bg l p)))) 70 = _
      rw [decide_eq_true hs, show (min ((p : Int) + (N : Int)) (en l (bg l p) : Int)) = ((min (p + N) (en l (bg l p)) : Nat) : Int) from by omega]
      rfl
    have hs1 : ((p : Int) == (en l (bg l p) : Int)) = false := by simp; omega
    have hwr : IntKind.i64.wrap ((p : Int) + (N : Int)) = (p : Int) + (N : Int) := wr64 (by omega) (by omega)
    go_enter Try.func45, Try.ntmps45
    go_wp2_with (go_at_call 17; refine (C1.out _).mono ?_; rintro e w' ⟨rfl, hw⟩; subst hw)
    go_region_held3 (fun w' => w'.cell? ⟨w.heap.size, 0, none⟩ = some (.slice ao n c) ∧ w'.cell? ⟨w.heap.size, 1, none⟩ = some (.int .i64 p) ∧ w'.cell? ⟨w.heap.size, 2, none⟩ = some (.int .i64 (nl (l.take p) : Nat)) ∧ w'.cell? ⟨w.heap.size, 3, none⟩ = some (.int .i64 want) ∧ w'.cell? ⟨w.heap.size, 4, none⟩ = some (.int .i64 cnt)) (first | assumption | simp [*, go_sem]) (first | (go_at_call 43; refine (steps_any _ _ _ _ _ _).mono ?_; rintro e w9 ⟨rfl, rfl⟩) | fail)
    all_goals go_wp2
    all_goals go_ret2
    all_goals exact ⟨by rw [HA.out]; rfl, (by first | exact (bAlloc (bAlloc (Below.refl _ _) _).drew _) | exact (bAlloc (bAlloc (Below.refl _ _) _) _).drew | exact (bAlloc (bAlloc (Below.refl _ _) _) _) | exact (bAlloc (bAlloc (Below.refl _ _) _).drew _).drew)⟩


theorem onw_stop (l : List UInt8) (d p to : Nat) : onw l d p 0 to = to := by cases d <;> rfl
theorem onw_yes {l : List UInt8} {d p m to : Nat} (h : stp l p = true) (hm : 0 < m) : onw l (d + 1) p m to = onw l d (p + 1) (m - 1) p := by
  conv => lhs; unfold onw
  rw [if_neg (by omega), if_pos h]
theorem onw_no {l : List UInt8} {d p m to : Nat} (h : stp l p = false) (hm : 0 < m) : onw l (d + 1) p m to = onw l d (p + 1) m to := by
  conv => lhs; unfold onw
  rw [if_neg (by omega), if_neg (by rw [h]; simp)]
theorem bkw_stop (l : List UInt8) (p to : Nat) : bkw l p 0 to = to := by cases p <;> rfl
theorem bkw_yes {l : List UInt8} {p m to : Nat} (h : rst l p = true) (hm : 0 < m) : bkw l (p + 1) m to = bkw l p (m - 1) p := by
  conv => lhs; unfold bkw
  rw [if_neg (by omega), if_pos h]
theorem bkw_no {l : List UInt8} {p m to : Nat} (h : rst l p = false) (hm : 0 < m) : bkw l (p + 1) m to = bkw l p m to := by
  conv => lhs; unfold bkw
  rw [if_neg (by omega), if_neg (by rw [h]; simp)]

set_option maxHeartbeats 1000000 in
theorem onward_any (ao : Option Addr) (n c p N : Nat) (want cnt : Int) (l : List UInt8) (w : World) (hp : p ≤ n) (hc : max cnt 1 = (N : Int)) (hN : (N : Int) ≤ 9999) (HT : Hid (Tx w ao n c l)) :
    Calls Try.prog 46 #[mo ao n c p (nl (l.take p) : Nat) want cnt] w fun e w' => e = prE (tgt l p want N (decide (cnt = 0)) 3) 70 ∧ Below w.heap.size w w' := by
  have hbig : (n : Int) ≤ 140737488355328 := by have := HT.out.big; omega
  have hpn : (p : Int) ≤ (n : Int) := by omega
  have hN0 : (1 : Int) ≤ (N : Int) := by omega
  have hl := Hid.mk' HT.out.len
  have FIN : Hid (∀ to : Nat, onwP l p N = to → prE (tgt l p want N (decide (cnt = 0)) 3) 70 = if to = p then .returned (.tuple #[.int .i64 0, .int .i64 70]) else .returned (.tuple #[.int .i64 to, .int .i64 0])) := by
    intro to ht
    show prE (opt (decide (onwP l p N ≠ p)) (onwP l p N)) 70 = _
    rw [ht]
    by_cases h : to = p
    · rw [if_pos h, decide_eq_false (by simpa using h)]; rfl
    · rw [if_neg h, decide_eq_true h]; rfl
  go_enter Try.func46, Try.ntmps46
  go_wp2_with fail
  go_region_held3 (fun w' => w'.cell? ⟨w.heap.size, 0, none⟩ = some (.slice ao n c) ∧ w'.cell? ⟨w.heap.size, 1, none⟩ = some (.int .i64 p) ∧ w'.cell? ⟨w.heap.size, 2, none⟩ = some (.int .i64 (nl (l.take p) : Nat)) ∧ w'.cell? ⟨w.heap.size, 3, none⟩ = some (.int .i64 want) ∧ w'.cell? ⟨w.heap.size, 4, none⟩ = some (.int .i64 cnt)) (first | assumption | simp [*, go_sem]) (first | (go_at_call 43; refine (steps_any _ _ _ _ _ _).mono ?_; rintro e w9 ⟨rfl, rfl⟩) | fail)
  all_goals go_wp2
  all_goals
    go_loopw [4, 5, 6] (fun a b d wr => ∃ to m q : Nat, a = .int .i64 to ∧ b = .int .i64 m ∧ d = .int .i64 q ∧ q ≤ n + 1 ∧ p + 1 ≤ q ∧ onwP l p N = onw l (n + 1 - q) q m to ∧ m ≤ N ∧ to ≤ n ∧ Below w.heap.size w wr ∧ wr.cell? ⟨w.heap.size, 0, none⟩ = some (.slice ao n c) ∧ wr.cell? ⟨w.heap.size, 1, none⟩ = some (.int .i64 p)) (fun _ _ d _ => n + 1 - (intOf d).toNat)
    case atStart =>
      refine ⟨p, N, p + 1, rfl, rfl, by go_num, by omega, by omega, ?_, by omega, hp, ?_, by simp [go_sem], by simp [go_sem]⟩
      · unfold onwP; rw [hl.out, show n + 1 - (p + 1) = n - p from by omega]
      · exact (bAlloc (bAlloc (Below.refl _ _) _) _).drew
    case round =>
      obtain ⟨to, m, q, rfl, rfl, rfl, hq, hpq, ho, hmN, hto, hb, c0, c1⟩ := hrel
      have HO := Hid.mk' ho
      have HB := Hid.mk' hb
      have T1 := Hid.mk' (HT.out.keep hb)
      clear ho hb
      have hq0 : (0 : Int) ≤ (q : Int) := by omega
      have hm0 : (0 : Int) ≤ (m : Int) := by omega
      have hmN' : (m : Int) ≤ 9999 := by omega
      have hq1 : (q : Int) ≤ 140737488355329 := by omega
      by_cases hgo : q ≤ n ∧ 0 < m
      · obtain ⟨hqn, hm⟩ := hgo
        have hqn' : (q : Int) ≤ (n : Int) := by omega
        have hm' : (0 : Int) < (m : Int) := by omega
        by_cases hqe : q = n
        · have hqe' : ((q : Int) == (n : Int)) = true := by simp; omega
          have HY : Hid (onw l (n + 1 - q) q m to = onw l (n + 1 - (q + 1)) (q + 1) (m - 1) q) := by
            unfold Hid
            rw [show n + 1 - q = (n + 1 - (q + 1)) + 1 from by omega]
            exact onw_yes (by unfold stp; rw [hl.out, decide_eq_true hqe]; rfl) hm
          clear hqe
          go_wp2
          go_roundw
          case rel => exact ⟨q, m - 1, q + 1, rfl, by go_num, by go_num, by omega, by omega, by rw [HO.out, HY.out], by omega, hqn, HB.out, c0, c1⟩
          case measure => first | (simp [intOf]; done) | (simp [intOf]; omega)
        · have hqe' : ((q : Int) == (n : Int)) = false := by simp; omega
          cases hr : rst l q with
          | true =>
            have HY : Hid (onw l (n + 1 - q) q m to = onw l (n + 1 - (q + 1)) (q + 1) (m - 1) q) := by
              unfold Hid
              rw [show n + 1 - q = (n + 1 - (q + 1)) + 1 from by omega]
              exact onw_yes (by unfold stp; unfold rst at hr; rw [hr]; simp) hm
            go_wp2_with (go_at_call 55; refine (resting_any _ _ _ q l _ hqn T1).mono ?_; rintro e w' ⟨rfl, hw⟩; subst hw; rw [hr])
            go_roundw
            case rel => exact ⟨q, m - 1, q + 1, rfl, by go_num, by go_num, by omega, by omega, by rw [HO.out, HY.out], by omega, hqn, HB.out, c0, c1⟩
            case measure => first | (simp [intOf]; done) | (simp [intOf]; omega)
          | false =>
            have HY : Hid (onw l (n + 1 - q) q m to = onw l (n + 1 - (q + 1)) (q + 1) m to) := by
              unfold Hid
              rw [show n + 1 - q = (n + 1 - (q + 1)) + 1 from by omega]
              exact onw_no (by unfold stp; unfold rst at hr; rw [hr, hl.out, decide_eq_false hqe]; rfl) hm
            go_wp2_with (go_at_call 55; refine (resting_any _ _ _ q l _ hqn T1).mono ?_; rintro e w' ⟨rfl, hw⟩; subst hw; rw [hr])
            go_roundw
            case rel => exact ⟨to, m, q + 1, rfl, rfl, by go_num, by omega, by omega, by rw [HO.out, HY.out], by omega, hto, HB.out, c0, c1⟩
            case measure => first | (simp [intOf]; done) | (simp [intOf]; omega)
      · have HE : Hid (onwP l p N = to) := by
          unfold Hid
          rw [HO.out]
          by_cases hm : m = 0
          · rw [hm, onw_stop]
          · rw [show n + 1 - q = 0 from by omega]; rfl
        have FE := FIN.out to HE.out
        have HF := Hid.mk' FE
        clear FE
        by_cases hqn : q ≤ n
        · have hqn' : (q : Int) ≤ (n : Int) := by omega
          obtain rfl : m = 0 := by omega
          by_cases ht : to = p
          · have ht' : ((to : Int) == (p : Int)) = true := by simp; omega
            go_wp2
            go_ret2
            exact ⟨by rw [HF.out, if_pos ht]; rfl, HB.out⟩
          · have ht' : ((to : Int) == (p : Int)) = false := by simp; omega
            go_wp2
            go_ret2
            exact ⟨by rw [HF.out, if_neg ht]; rfl, HB.out⟩
        · have hqn' : (n : Int) < (q : Int) := by omega
          by_cases ht : to = p
          · have ht' : ((to : Int) == (p : Int)) = true := by simp; omega
            go_wp2
            go_ret2
            exact ⟨by rw [HF.out, if_pos ht]; rfl, HB.out⟩
          · have ht' : ((to : Int) == (p : Int)) = false := by simp; omega
            go_wp2
            go_ret2
            exact ⟨by rw [HF.out, if_neg ht]; rfl, HB.out⟩

set_option maxHeartbeats 1000000 in
theorem backward_any (ao : Option Addr) (n c p N : Nat) (want cnt : Int) (l : List UInt8) (w : World) (hp : p ≤ n) (hc : max cnt 1 = (N : Int)) (hN : (N : Int) ≤ 9999) (HT : Hid (Tx w ao n c l)) :
    Calls Try.prog 47 #[mo ao n c p (nl (l.take p) : Nat) want cnt] w fun e w' => e = prE (tgt l p want N (decide (cnt = 0)) 4) 70 ∧ Below w.heap.size w w' := by
  have hbig : (n : Int) ≤ 140737488355328 := by have := HT.out.big; omega
  have hpn : (p : Int) ≤ (n : Int) := by omega
  have hp0 : (0 : Int) ≤ (p : Int) := by omega
  have hN0 : (1 : Int) ≤ (N : Int) := by omega
  have FIN : Hid (∀ to : Nat, bkwP l p N = to → prE (tgt l p want N (decide (cnt = 0)) 4) 70 = if to = p then .returned (.tuple #[.int .i64 0, .int .i64 70]) else .returned (.tuple #[.int .i64 to, .int .i64 0])) := by
    intro to ht
    show prE (opt (decide (bkwP l p N ≠ p)) (bkwP l p N)) 70 = _
    rw [ht]
    by_cases h : to = p
    · rw [if_pos h, decide_eq_false (by simpa using h)]; rfl
    · rw [if_neg h, decide_eq_true h]; rfl
  go_enter Try.func47, Try.ntmps47
  go_wp2_with fail
  go_region_held3 (fun w' => w'.cell? ⟨w.heap.size, 0, none⟩ = some (.slice ao n c) ∧ w'.cell? ⟨w.heap.size, 1, none⟩ = some (.int .i64 p) ∧ w'.cell? ⟨w.heap.size, 2, none⟩ = some (.int .i64 (nl (l.take p) : Nat)) ∧ w'.cell? ⟨w.heap.size, 3, none⟩ = some (.int .i64 want) ∧ w'.cell? ⟨w.heap.size, 4, none⟩ = some (.int .i64 cnt)) (first | assumption | simp [*, go_sem]) (first | (go_at_call 43; refine (steps_any _ _ _ _ _ _).mono ?_; rintro e w9 ⟨rfl, rfl⟩) | fail)
  all_goals go_wp2
  all_goals
    go_loopw [4, 5, 6] (fun a b d wr => ∃ to m q : Nat, a = .int .i64 to ∧ b = .int .i64 m ∧ d = .int .i64 ((q : Int) - 1) ∧ q ≤ p ∧ bkwP l p N = bkw l q m to ∧ m ≤ N ∧ to ≤ n ∧ Below w.heap.size w wr ∧ wr.cell? ⟨w.heap.size, 0, none⟩ = some (.slice ao n c) ∧ wr.cell? ⟨w.heap.size, 1, none⟩ = some (.int .i64 p)) (fun _ _ d _ => (intOf d + 1).toNat)
    case atStart =>
      refine ⟨p, N, p, rfl, rfl, rfl, by omega, rfl, by omega, hp, ?_, by simp [go_sem], by simp [go_sem]⟩
      exact (bAlloc (bAlloc (Below.refl _ _) _) _).drew
    case round =>
      obtain ⟨to, m, q, rfl, rfl, rfl, hq, ho, hmN, hto, hb, c0, c1⟩ := hrel
      have HO := Hid.mk' ho
      have HB := Hid.mk' hb
      have T1 := Hid.mk' (HT.out.keep hb)
      clear ho hb
      have hm0 : (0 : Int) ≤ (m : Int) := by omega
      have hmN' : (m : Int) ≤ 9999 := by omega
      by_cases hgo : 0 < q ∧ 0 < m
      · obtain ⟨hqn, hm⟩ := hgo
        obtain ⟨j, rfl⟩ : ∃ j, q = j + 1 := ⟨q - 1, by omega⟩
        rw [show ((j + 1 : Nat) : Int) - 1 = (j : Int) from by omega]
        have hj0 : (0 : Int) ≤ (j : Int) := by omega
        have hj1 : (j : Int) ≤ 140737488355329 := by omega
        have hm' : (0 : Int) < (m : Int) := by omega
        cases hr : rst l j with
        | true =>
          have HY : Hid (bkw l (j + 1) m to = bkw l j (m - 1) j) := bkw_yes hr hm
          go_wp2_with (go_at_call 55; refine (resting_any _ _ _ j l _ (by omega) T1).mono ?_; rintro e w' ⟨rfl, hw⟩; subst hw; rw [hr])
          go_roundw
          case rel => exact ⟨j, m - 1, j, rfl, by go_num, by go_num, by omega, by rw [HO.out, HY.out], by omega, by omega, HB.out, c0, c1⟩
          case measure => first | (simp [intOf]; done) | (simp [intOf]; omega)
        | false =>
          have HY : Hid (bkw l (j + 1) m to = bkw l j m to) := bkw_no hr hm
          go_wp2_with (go_at_call 55; refine (resting_any _ _ _ j l _ (by omega) T1).mono ?_; rintro e w' ⟨rfl, hw⟩; subst hw; rw [hr])
          go_roundw
          case rel => exact ⟨to, m, j, rfl, rfl, by go_num, by omega, by rw [HO.out, HY.out], by omega, by omega, HB.out, c0, c1⟩
          case measure => first | (simp [intOf]; done) | (simp [intOf]; omega)
      · have HE : Hid (bkwP l p N = to) := by
          unfold Hid
          rw [HO.out]
          by_cases hm : m = 0
          · rw [hm, bkw_stop]
          · rw [show q = 0 from by omega]; rfl
        have FE := FIN.out to HE.out
        have HF := Hid.mk' FE
        clear FE
        by_cases hqn : 0 < q
        · have hqn' : (0 : Int) ≤ (q : Int) - 1 := by omega
          obtain rfl : m = 0 := by omega
          by_cases ht : to = p
          · have ht' : ((to : Int) == (p : Int)) = true := by simp; omega
            go_wp2
            go_ret2
            exact ⟨by rw [HF.out, if_pos ht]; rfl, HB.out⟩
          · have ht' : ((to : Int) == (p : Int)) = false := by simp; omega
            go_wp2
            go_ret2
            exact ⟨by rw [HF.out, if_neg ht]; rfl, HB.out⟩
        · obtain rfl : q = 0 := by omega
          by_cases ht : to = p
          · have ht' : ((to : Int) == (p : Int)) = true := by simp; omega
            go_wp2
            go_ret2
            exact ⟨by rw [HF.out, if_pos ht]; rfl, HB.out⟩
          · have ht' : ((to : Int) == (p : Int)) = false := by simp; omega
            go_wp2
            go_ret2
            exact ⟨by rw [HF.out, if_neg ht]; rfl, HB.out⟩

theorem pr_ans (b : Bool) (x : Nat) : pr (ans b x) = prE (opt b x) 2 := by cases b <;> rfl
theorem pr_first (l : List UInt8) (L : Int) : pr (aFirst l L) = prE (lnFirst l L) 2 := pr_ans _ _
theorem pr_end (l : List UInt8) (L : Int) : pr (aEnd l L) = prE (lnEnd l L) 2 := pr_ans _ _
theorem pr_at (l : List UInt8) (L C : Int) (h : -1 ≤ C) : pr (aAt l L C) = prE (lnAt l L C) 2 := by
  unfold aAt lnAt; rw [pr_ans, decide_eq_true h, Bool.and_true]
/-- the place, the error of a pair -/
def vl (o : Option Nat) : Int := ((o.getD 0 : Nat) : Int)
def er (o : Option Nat) (z : Int) : Int := if o.isSome then 0 else z
theorem prE_pair (o : Option Nat) (z : Int) : prE o z = .returned (.tuple #[.int .i64 (vl o), .int .i64 (er o z)]) := by cases o <;> rfl

set_option maxHeartbeats 1000000 in
theorem lineOrLast_any (ao : Option Addr) (n c p N : Nat) (want cnt : Int) (l : List UInt8) (w : World) (hc : max cnt 1 = (N : Int)) (hN : (N : Int) ≤ 9999) (hc0 : 0 ≤ cnt) (HT : Hid (Tx w ao n c l)) :
    Calls Try.prog 49 #[mo ao n c p (nl (l.take p) : Nat) want cnt] w fun e w' => e = prE (tgt l p want N (decide (cnt = 0)) 15) 2 ∧ Below w.heap.size w w' := by
  have hbig : (n : Int) ≤ 140737488355328 := by have := HT.out.big; omega
  have hnl : (nl l : Int) ≤ 140737488355328 := by have := nl_le l; have := HT.out.len; omega
  have T0 := fun x => Hid.mk' (HT.out.keep (bAlloc (Below.refl _ _) x))
  have HT0 := Hid.mk' T0
  clear T0
  by_cases hz : cnt = 0
  · have HA : Hid (prE (tgt l p want N (decide (cnt = 0)) 15) 2 = prE (lnFirst l (nl l)) 2) := by
      unfold Hid; congr 1; show (if decide (cnt = 0) then lnFirst l (nl l) else _) = _; rw [if_pos (by simpa using hz)]
    generalize prE (tgt l p want N (decide (cnt = 0)) 15) 2 = E at HA ⊢
    subst hz
    go_enter Try.func49, Try.ntmps49
    go_wp2_with fail
    refine (count_any _ _ _ l _ (HT0.out _)).mono ?_
    rintro e w1 ⟨rfl, hb1⟩
    have T1 := Hid.mk' ((HT0.out _).out.keep hb1)
    have B1 := Hid.mk' (bT (bAlloc (Below.refl _ _) _) hb1)
    obtain ⟨hcc, hff⟩ := (⟨fun b o h => hb1.cell (p := ⟨b, o, none⟩) h, trivial⟩ : (∀ b o, b < _ → w1.cell? ⟨b, o, none⟩ = _) ∧ True)
    clear hb1
    go_wp2_with fail
    refine (first_any _ _ _ _ l _ (by omega) T1).mono ?_
    rintro e w9 ⟨rfl, hw⟩
    have hq := hw.symm
    subst hq
    rw [pr_first, prE_pair]
    go_wp2
    go_ret2
    exact ⟨by rw [HA.out, prE_pair]; rfl, B1.out⟩
  · have HA : Hid (prE (tgt l p want N (decide (cnt = 0)) 15) 2 = prE (lnFirst l (cnt - 1)) 2) := by
      unfold Hid; congr 1; show (if decide (cnt = 0) then lnFirst l (nl l) else lnFirst l ((N : Int) - 1)) = _; rw [if_neg (by simpa using hz)]; rw [show (N : Int) = cnt from by omega]
    generalize prE (tgt l p want N (decide (cnt = 0)) 15) 2 = E at HA ⊢
    have hz' : (cnt == 0) = false := by simpa using hz
    have hc1 : cnt ≤ 9999 := by omega
    go_enter Try.func49, Try.ntmps49
    go_wp2_with fail
    refine (first_any _ _ _ _ l _ (by omega) (HT0.out _)).mono ?_
    rintro e w9 ⟨rfl, hw⟩
    have hq := hw.symm
    subst hq
    rw [pr_first, prE_pair]
    go_wp2
    go_ret2
    exact ⟨by rw [HA.out, prE_pair]; rfl, bAlloc (Below.refl _ _) _⟩
end Go.Proofs.Ytbkhbnmihnomaaa
