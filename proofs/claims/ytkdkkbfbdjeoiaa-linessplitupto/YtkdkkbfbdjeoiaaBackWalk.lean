/- The walk of quoinlaw05.LinesBack: it answers true for every text and every number. -/
import Derived.Test.YtkdkkbfbdjeoiaaRestWalk
namespace Go.Proofs.Ytkdkkbfbdjeoiaa
open Go.RowKit

theorem start_is {ao : Option Addr} {n c k : Nat} {l : List UInt8} {w : World} (hk : k ≤ n) (HT : Hid (Tx w ao n c l)) :
    Calls Try.prog 11 #[.slice ao n c, .int .i64 (nl (l.take k))] w fun e w' => e = .returned (.tuple #[.int .i64 (bg l k), .int .i64 0]) ∧ w' = w := by
  have hl := HT.out.len
  have hb := HT.out.big
  have h1 := nl_take_le l k
  have h2 := nl_le l
  have := start_any ao n c (nl (l.take k) : Nat) l w (by omega) HT
  have e : pr (aStart l (nl (l.take k) : Nat)) = .returned (.tuple #[.int .i64 (bg l k), .int .i64 0]) := by
    unfold pr aStart ans
    rw [ln_at, Int.toNat_natCast, sp_of l k (by omega)]; rfl
  rwa [e] at this
theorem end_is {ao : Option Addr} {n c k : Nat} {l : List UInt8} {w : World} (hk : k ≤ n) (HT : Hid (Tx w ao n c l)) :
    Calls Try.prog 13 #[.slice ao n c, .int .i64 (nl (l.take k))] w fun e w' => e = .returned (.tuple #[.int .i64 (en l (bg l k)), .int .i64 0]) ∧ w' = w := by
  have hl := HT.out.len
  have hb := HT.out.big
  have h1 := nl_take_le l k
  have h2 := nl_le l
  have := end_any ao n c (nl (l.take k) : Nat) l w (by omega) HT
  have e : pr (aEnd l (nl (l.take k) : Nat)) = .returned (.tuple #[.int .i64 (en l (bg l k)), .int .i64 0]) := by
    unfold pr aEnd ans
    rw [ln_at, Int.toNat_natCast, sp_of l k (by omega)]; rfl
  rwa [e] at this

set_option maxHeartbeats 1000000 in
theorem back_out (ao : Option Addr) (n c : Nat) (i : Int) (l : List UInt8) (w : World) (hi : i < 0 ∨ (n : Int) < i) (HT : Hid (Tx w ao n c l)) :
    Calls Try.prog 5 #[.slice ao n c, .int .i64 i] w fun e w' => e = .returned (.bool true) ∧ Below w.heap.size w w' := by
  have hp : plB l i = false := decide_eq_false (by have := HT.out.len; omega)
  have HO : Hid (pr (aOf l i) = .returned (.tuple #[.int .i64 0, .int .i64 2])) := by unfold Hid pr aOf ans; rw [hp]; rfl
  have HC : Hid (pr (aCol l i) = .returned (.tuple #[.int .i64 0, .int .i64 2])) := by unfold Hid pr aCol ans; rw [hp]; rfl
  clear hp
  go_enter Try.func5, Try.ntmps5
  go_wp2_with fail
  refine (alive_any _).mono ?_
  rintro e w1 ⟨rfl, hb1⟩
  have T1 := Hid.mk' (HT.out.keep hb1)
  go_wp2_with fail
  refine (of_any _ _ _ _ l _ T1).mono ?_
  rintro e w2 ⟨rfl, hb2⟩
  rw [HO.out]
  have T2 := Hid.mk' (T1.out.keep hb2)
  have B2 := Hid.mk' (bT hb1 hb2)
  clear hb1 hb2
  go_wp2_with fail
  refine (column_any _ _ _ _ l _ T2).mono ?_
  rintro e w9 ⟨rfl, hw⟩
  have hq := hw.symm
  subst hq
  rw [HC.out]
  rcases hi with hi | hi
  · go_wp2
    go_ret
    exact ⟨rfl, B2.out⟩
  · have h0 : ¬ i < 0 := by omega
    go_wp2
    go_ret
    exact ⟨rfl, B2.out⟩

set_option maxHeartbeats 2000000 in
theorem back_in (ao : Option Addr) (n c k : Nat) (l : List UInt8) (w : World) (hk : k ≤ n) (HT : Hid (Tx w ao n c l)) :
    Calls Try.prog 5 #[.slice ao n c, .int .i64 k] w fun e w' => e = .returned (.bool true) ∧ Below w.heap.size w w' := by
  have HL := Hid.mk' HT.out.len
  have hbig : (n : Int) ≤ 140737488355328 := by have := HT.out.big; omega
  have hkl : k ≤ l.length := by rw [HL.out]; omega
  have hSk := bg_le l k
  have hkE := place_en hkl
  have hEn : en l (bg l k) ≤ n := by have := en_le (t := l) (s := bg l k) (by omega); rw [HL.out] at this; exact this
  have hmN := nl_take_le l k
  have hN : nl l ≤ n := by have := nl_le l; rw [HL.out] at this; exact this
  have HS : Hid (St l (nl (l.take k)) (bg l k)) := bg_st l k hkl
  have HE1 := Hid.mk' (fun j => en_none (t := l) (s := bg l k) (j := j))
  have HE2 := Hid.mk' (en_edge (t := l) (s := bg l k))
  have HM := Hid.mk' (fun (W : World) (h : Hid (Tx W ao n c l)) => start_is (k := k) hk h)
  have HO := Hid.mk' (fun (W : World) (h : Hid (Tx W ao n c l)) => of_is (k := k) hk h)
  have HP := Hid.mk' (fun (W : World) (h : Hid (Tx W ao n c l)) => end_is (k := k) hk h)
  have HQ := Hid.mk' (fun (W : World) (h : Hid (Tx W ao n c l)) => col_is (k := k) hk h)
  have HR := Hid.mk' (fun (W : World) (h : Hid (Tx W ao n c l)) => count_any ao n c l W h)
  clear hkl
  generalize en l (bg l k) = E at *
  generalize bg l k = S at *
  generalize nl (l.take k) = m at *
  generalize nl l = N at *
  have hq : ((k - S : Nat) : Int) = (k : Int) - S := by omega
  rw [hq] at HQ
  clear hq
  have h1 : (0 : Int) ≤ S := by omega
  have h2 : (S : Int) ≤ k := by omega
  have h3 : (k : Int) ≤ E := by omega
  have h4 : (E : Int) ≤ n := by omega
  have h5 : (0 : Int) ≤ m := by omega
  have h6 : (m : Int) ≤ N := by omega
  have h7 : (N : Int) ≤ n := by omega
  have h8 : ¬ (k : Int) < 0 := by omega
  have h9 : ¬ (k : Int) > n := by omega
  go_enter Try.func5, Try.ntmps5
  go_wp2_with fail
  refine (alive_any _).mono ?_
  rintro e w1 ⟨rfl, hb1⟩
  have T1 := Hid.mk' (HT.out.keep hb1)
  go_wp2_with fail
  refine (HO.out _ T1).mono ?_
  rintro e w2 ⟨rfl, hb2⟩
  have T2 := Hid.mk' (T1.out.keep hb2)
  have B2 := Hid.mk' (bT hb1 hb2)
  clear hb1 hb2
  go_wp2_with fail
  refine (HQ.out _ T2).mono ?_
  rintro e w9 ⟨rfl, hw⟩
  have hq := hw.symm
  subst hq
  clear hw
  go_wp2_with fail
  refine (HM.out _ T2).mono ?_
  rintro e w9 ⟨rfl, hw⟩
  have hq := hw.symm
  subst hq
  clear hw
  go_wp2_with fail
  refine (HP.out _ T2).mono ?_
  rintro e w9 ⟨rfl, hw⟩
  have hq := hw.symm
  subst hq
  clear hw
  go_wp2_with fail
  refine (HR.out _ T2).mono ?_
  rintro e w3 ⟨rfl, hb3⟩
  have T3 := Hid.mk' (T2.out.keep hb3)
  have B3 := Hid.mk' (bT B2.out hb3)
  clear hb3 B2
  go_wp2_with fail
  go_loopw [13] (fun u wr => ∃ i : Nat, u = .int .i64 i ∧ S ≤ i ∧ i ≤ E ∧ wr = w3) (fun u _ => E - (intOf u).toNat)
  case atStart => exact ⟨S, rfl, Nat.le_refl _, by omega, by first | rfl | trivial⟩
  case round =>
    obtain ⟨i, rfl, hSi, hiE, hw0⟩ := hrel
    have hq := hw0.symm
    subst hq
    clear hw0
    by_cases hlt : i < E
    · obtain ⟨g, o, rfl, hc⟩ := T3.out.at (by omega)
      have hc0 := hc i (by omega)
      have hi0 : (0 : Int) ≤ (i : Int) := by omega
      have hin : (i : Int) < (n : Int) := by omega
      have hiE' : (i : Int) < (E : Int) := by omega
      have h10 : (((at8 l i).toNat : Int) == 10) = false := HE1.out i hSi hlt
      clear hc
      go_wp2
      go_roundw
      case rel => exact ⟨i + 1, by go_num, by omega, by omega, by first | trivial | rfl⟩
      case measure => first | (simp [intOf]; done) | (simp [intOf]; omega)
    · obtain rfl : i = E := by omega
      by_cases hS : S = 0
      · subst hS
        by_cases hE : i = n
        · subst hE
          go_wp2
          go_ret
          exact ⟨rfl, B3.out⟩
        · obtain ⟨g, o, rfl, hc⟩ := T3.out.at (by omega)
          have hc0 := hc i (by omega)
          have hin : (i : Int) < (n : Int) := by omega
          have hin2 : ((i : Int) == (n : Int)) = false := by rw [beq_eq_false_iff_ne]; omega
          have h10 : (((at8 l i).toNat : Int) == 10) = true := HE2.out (by rw [HL.out]; omega)
          clear hc
          go_wp2
          go_ret
          exact ⟨rfl, B3.out⟩
      · obtain ⟨g, o, rfl, hc⟩ := T3.out.at (by omega)
        have hc1 := hc (S - 1) (by omega)
        have hS1 : (1 : Int) ≤ S := by omega
        have hS2 : (S : Int) - 1 < n := by omega
        have hS3 : ((S : Int) == 0) = false := by rw [beq_eq_false_iff_ne]; omega
        have h11 : (((at8 l (S - 1)).toNat : Int) == 10) = true := by rcases HS.out.edge with h | h; omega; exact h.2
        by_cases hE : i = n
        · subst hE
          clear hc
          go_wp2
          go_ret
          exact ⟨rfl, B3.out⟩
        · have hc0 := hc i (by omega)
          have hin : (i : Int) < (n : Int) := by omega
          have hin2 : ((i : Int) == (n : Int)) = false := by rw [beq_eq_false_iff_ne]; omega
          have h10 : (((at8 l i).toNat : Int) == 10) = true := HE2.out (by rw [HL.out]; omega)
          clear hc
          go_wp2
          go_ret
          exact ⟨rfl, B3.out⟩

theorem linesBack_walk (ao : Option Addr) (n c : Nat) (i : Int) (l : List UInt8) (w : World) (HT : Hid (Tx w ao n c l)) :
    Calls Try.prog 5 #[.slice ao n c, .int .i64 i] w fun e w' => e = .returned (.bool true) ∧ Below w.heap.size w w' := by
  by_cases h0 : i < 0
  · exact back_out ao n c i l w (.inl h0) HT
  · by_cases hn : (n : Int) < i
    · exact back_out ao n c i l w (.inr hn) HT
    · obtain ⟨k, rfl⟩ := Int.eq_ofNat_of_zero_le (show 0 ≤ i by omega)
      exact back_in ao n c k l w (by omega) HT
end Go.Proofs.Ytkdkkbfbdjeoiaa
