/- The walk of quoinlaw05.LinesRest: it answers true for every text and every number. -/
import Derived.Test.YtkdkkbfbdjeoiaaAwake
namespace Go.Proofs.Ytkdkkbfbdjeoiaa
open Go.RowKit

theorem cl_nat {l : List UInt8} {k : Nat} (h : k ≤ l.length) : cl l (k : Int) = k := by
  unfold cl; rw [if_neg (by omega), if_neg (by omega)]; simp
theorem rs_cases {l : List UInt8} {i : Nat} (h : i ≤ l.length) : rs l i = i ∨ (rs l i = i - 1 ∧ 0 < i ∧ le (at8 l (i - 1)) = false ∧ (i = l.length ∨ le (at8 l i) = true)) := by
  unfold rs
  by_cases hc : (i < l.length ∧ le (at8 l i) = false) ∨ bg l i = i
  · rw [if_pos hc]; exact .inl rfl
  · rw [if_neg hc]
    have h0 : 0 < i := by
      rcases Nat.eq_zero_or_pos i with e | e
      · subst e; exact absurd (.inr rfl) hc
      · exact e
    refine .inr ⟨rfl, h0, ?_, ?_⟩
    · cases hb : le (at8 l (i - 1)) with
      | false => rfl
      | true => exact absurd (.inr (bg_yes h0 hb)) hc
    · rcases Nat.lt_or_ge i l.length with hl | hl
      · cases hb : le (at8 l i) with
        | true => exact .inr rfl
        | false => exact absurd (.inl ⟨hl, hb⟩) hc
      · exact .inl (by omega)
theorem rs_le {l : List UInt8} {i : Nat} (h : i ≤ l.length) : rs l i ≤ i := by rcases rs_cases h with e | ⟨e, _⟩ <;> omega
theorem rs_ge {l : List UInt8} {i : Nat} (h : i ≤ l.length) : i ≤ rs l i + 1 := by rcases rs_cases h with e | ⟨e, _⟩ <;> omega
theorem rs_again {l : List UInt8} {i : Nat} (h : i ≤ l.length) : rs l (rs l i) = rs l i := by
  rcases rs_cases h with e | ⟨e, h0, hb, _⟩
  · rw [e, e]
  · rw [e]
    unfold rs
    rw [if_pos (.inl ⟨by omega, hb⟩)]
theorem rs_line {l : List UInt8} {i : Nat} (h : i ≤ l.length) : nl (l.take (rs l i)) = nl (l.take i) := by
  rcases rs_cases h with e | ⟨e, h0, hb, _⟩
  · rw [e]
  · have := nl_take l (i - 1) (by omega)
    rw [hb, show i - 1 + 1 = i from by omega] at this
    rw [e, this]; rfl
theorem rs_pc {l : List UInt8} {i : Nat} (h : i ≤ l.length) : pc (bg l i) (en l (bg l i)) ((i - bg l i : Nat) : Int) = rs l i := by
  have hb := bg_le l i
  have hE := place_en h
  have hEl := en_le (t := l) (s := bg l i) (by omega)
  unfold pc
  by_cases hlt : i < en l (bg l i)
  · rw [if_pos (by omega)]
    have : rs l i = i := by unfold rs; rw [if_pos (.inl ⟨by omega, en_none hb hlt⟩)]
    rw [this]; simp; omega
  · have hi : en l (bg l i) = i := by omega
    rw [if_neg (by omega), hi]
    rcases rs_cases h with e | ⟨e, h0, h1, h2⟩
    · rw [e]
      unfold lb
      rcases Nat.lt_or_ge (bg l i) i with hl | hl
      · exfalso
        unfold rs at e
        rcases Nat.lt_or_ge i l.length with h3 | h3
        · have h4 := en_edge (t := l) (s := bg l i) (by omega)
          rw [hi] at h4
          rw [if_neg (fun h => by rcases h with h | h; (rw [h4] at h; simp at h); omega)] at e
          omega
        · rw [if_neg (fun h => by rcases h with h | h <;> omega)] at e
          omega
      · omega
    · rw [e]
      have : bg l i ≠ i := bg_no h0 h1
      unfold lb; omega

/-- Rest, its answer known -/
theorem rest_is {ao : Option Addr} {n c : Nat} {i : Int} {l : List UInt8} {w : World} {r : Nat} (h1 : -9223372036854775808 ≤ i) (h2 : i ≤ 9223372036854775807) (HT : Hid (Tx w ao n c l)) (hr : rs l (cl l i) = r) :
    Calls Try.prog 23 #[.slice ao n c, .int .i64 i] w fun e w' => e = .returned (.int .i64 r) ∧ w' = w := by
  have := rest_any ao n c i l w h1 h2 HT
  rwa [hr] at this

set_option maxHeartbeats 1000000 in
theorem rest_out (ao : Option Addr) (n c : Nat) (i : Int) (k : Nat) (l : List UInt8) (w : World) (h1 : -9223372036854775808 ≤ i) (h2 : i ≤ 9223372036854775807) (hi : Hid (cl l i = k)) (hik : (i < 0 ∧ k = 0) ∨ ((n : Int) < i ∧ k = n)) (HT : Hid (Tx w ao n c l)) :
    Calls Try.prog 7 #[.slice ao n c, .int .i64 i] w fun e w' => e = .returned (.bool true) ∧ Below w.heap.size w w' := by
  have HL := Hid.mk' HT.out.len
  have hbig : (n : Int) ≤ 140737488355328 := by have := HT.out.big; omega
  have hkl : k ≤ l.length := by rw [HL.out]; omega
  have hrn : rs l k ≤ n := by have := rs_le hkl; rw [HL.out] at hkl; omega
  have HA := Hid.mk' (rs_again hkl)
  have HI : Hid (rs l (cl l i) = rs l k) := by unfold Hid; rw [hi.out]
  have HC : Hid (cl l (rs l k : Nat) = rs l k) := cl_nat (by rw [HL.out]; exact hrn)
  have HK : Hid (cl l (k : Nat) = k) := cl_nat hkl
  clear hkl
  generalize hR : rs l k = r at *
  have hR := Hid.mk' hR
  have hr0 : (0 : Int) ≤ r := by omega
  have hrn' : (r : Int) ≤ n := by omega
  go_enter Try.func7, Try.ntmps7
  go_wp2_with fail
  refine (alive_any _).mono ?_
  rintro e w1 ⟨rfl, hb1⟩
  have T1 := Hid.mk' (HT.out.keep hb1)
  rcases hik with ⟨h0, hk⟩ | ⟨h0, hk⟩
  · subst hk
    go_wp2_with fail
    refine (rest_is (r := r) h1 h2 T1 HI.out).mono ?_
    rintro e w9 ⟨rfl, hw⟩
    have hq := hw.symm
    subst hq
    clear hw
    go_wp2_with fail
    refine (rest_is (r := r) (by omega) (by omega) T1 (by rw [HC.out, HA.out])).mono ?_
    rintro e w9 ⟨rfl, hw⟩
    have hq := hw.symm
    subst hq
    clear hw
    go_wp2_with fail
    refine (rest_is (i := 0) (r := r) (by omega) (by omega) T1 (by have := HK.out; rw [show ((0 : Nat) : Int) = 0 from rfl] at this; rw [this, hR.out])).mono ?_
    rintro e w9 ⟨rfl, hw⟩
    have hq := hw.symm
    subst hq
    clear hw
    go_wp2
    go_ret
    exact ⟨rfl, hb1⟩
  · subst hk
    have hpos : ¬ i < 0 := by omega
    go_wp2_with fail
    refine (rest_is (r := r) h1 h2 T1 HI.out).mono ?_
    rintro e w9 ⟨rfl, hw⟩
    have hq := hw.symm
    subst hq
    clear hw
    go_wp2_with fail
    refine (rest_is (r := r) (by omega) (by omega) T1 (by rw [HC.out, HA.out])).mono ?_
    rintro e w9 ⟨rfl, hw⟩
    have hq := hw.symm
    subst hq
    clear hw
    go_wp2_with fail
    refine (rest_is (r := r) (by omega) (by omega) T1 (by rw [HK.out, hR.out])).mono ?_
    rintro e w9 ⟨rfl, hw⟩
    have hq := hw.symm
    subst hq
    clear hw
    go_wp2
    go_ret
    exact ⟨rfl, hb1⟩

theorem of_is {ao : Option Addr} {n c k : Nat} {l : List UInt8} {w : World} (hk : k ≤ n) (HT : Hid (Tx w ao n c l)) :
    Calls Try.prog 15 #[.slice ao n c, .int .i64 k] w fun e w' => e = .returned (.tuple #[.int .i64 (nl (l.take k)), .int .i64 0]) ∧ Below w.heap.size w w' := by
  have := of_any ao n c k l w HT
  have e : pr (aOf l (k : Int)) = .returned (.tuple #[.int .i64 (nl (l.take k)), .int .i64 0]) := by
    unfold pr aOf ans plB; rw [decide_eq_true (by have := HT.out.len; omega)]; rfl
  rwa [e] at this
theorem col_is {ao : Option Addr} {n c k : Nat} {l : List UInt8} {w : World} (hk : k ≤ n) (HT : Hid (Tx w ao n c l)) :
    Calls Try.prog 17 #[.slice ao n c, .int .i64 k] w fun e w' => e = .returned (.tuple #[.int .i64 ((k - bg l k : Nat) : Int), .int .i64 0]) ∧ w' = w := by
  have := column_any ao n c k l w HT
  have e : pr (aCol l (k : Int)) = .returned (.tuple #[.int .i64 ((k - bg l k : Nat) : Int), .int .i64 0]) := by
    unfold pr aCol ans plB; rw [decide_eq_true (by have := HT.out.len; omega)]; rfl
  rwa [e] at this
theorem ln_at (l : List UInt8) (k : Nat) : lnB l (nl (l.take k) : Nat) = true := decide_eq_true ⟨by omega, by have := nl_take_le l k; omega⟩
theorem at_is {ao : Option Addr} {n c k : Nat} {l : List UInt8} {w : World} (hk : k ≤ n) (HT : Hid (Tx w ao n c l)) :
    Calls Try.prog 21 #[.slice ao n c, .int .i64 (nl (l.take k)), .int .i64 ((k - bg l k : Nat) : Int)] w fun e w' => e = .returned (.tuple #[.int .i64 (rs l k), .int .i64 0]) ∧ w' = w := by
  have hl := HT.out.len
  have hb := HT.out.big
  have h1 := nl_take_le l k
  have h2 := nl_le l
  have := at_any ao n c (nl (l.take k) : Nat) ((k - bg l k : Nat) : Int) l w (by omega) (by omega) HT
  have e : pr (aAt l (nl (l.take k) : Nat) ((k - bg l k : Nat) : Int)) = .returned (.tuple #[.int .i64 (rs l k), .int .i64 0]) := by
    unfold pr aAt ans
    rw [ln_at, decide_eq_true (by omega), Int.toNat_natCast, sp_of l k (by omega), rs_pc (by omega)]; rfl
  rwa [e] at this

set_option maxHeartbeats 1000000 in
theorem rest_in (ao : Option Addr) (n c k : Nat) (l : List UInt8) (w : World) (hk : k ≤ n) (HT : Hid (Tx w ao n c l)) :
    Calls Try.prog 7 #[.slice ao n c, .int .i64 k] w fun e w' => e = .returned (.bool true) ∧ Below w.heap.size w w' := by
  have HL := Hid.mk' HT.out.len
  have hbig : (n : Int) ≤ 140737488355328 := by have := HT.out.big; omega
  have hkl : k ≤ l.length := by rw [HL.out]; omega
  have hrk : rs l k ≤ k := rs_le hkl
  have hkr : k ≤ rs l k + 1 := rs_ge hkl
  have HA := Hid.mk' (rs_again hkl)
  have HC : Hid (cl l (rs l k : Nat) = rs l k) := cl_nat (by omega)
  have HK : Hid (cl l (k : Nat) = k) := cl_nat hkl
  have HN := Hid.mk' (rs_line hkl)
  have HM := Hid.mk' (fun (W : World) (h : Hid (Tx W ao n c l)) => at_is (k := k) hk h)
  have HO := Hid.mk' (fun (W : World) (h : Hid (Tx W ao n c l)) => of_is (k := k) hk h)
  have HP := Hid.mk' (fun (W : World) (h : Hid (Tx W ao n c l)) => of_is (k := rs l k) (by omega) h)
  have HQ := Hid.mk' (fun (W : World) (h : Hid (Tx W ao n c l)) => col_is (k := k) hk h)
  rw [HN.out] at HP
  clear hkl HN
  generalize hR : rs l k = r at *
  generalize nl (l.take k) = m at *
  generalize k - bg l k = q at *
  have hR := Hid.mk' hR
  have hr0 : (0 : Int) ≤ r := by omega
  have hk0 : (0 : Int) ≤ k := by omega
  have hrn' : (r : Int) ≤ n := by omega
  have hkn' : (k : Int) ≤ n := by omega
  have hrk' : (r : Int) ≤ k := by omega
  have hkr' : (k : Int) - 1 ≤ r := by omega
  go_enter Try.func7, Try.ntmps7
  go_wp2_with fail
  refine (alive_any _).mono ?_
  rintro e w1 ⟨rfl, hb1⟩
  have T1 := Hid.mk' (HT.out.keep hb1)
  go_wp2_with fail
  refine (rest_is (r := r) (by omega) (by omega) T1 (by rw [HK.out, hR.out])).mono ?_
  rintro e w9 ⟨rfl, hw⟩
  have hq := hw.symm
  subst hq
  clear hw
  go_wp2_with fail
  refine (rest_is (r := r) (by omega) (by omega) T1 (by rw [HC.out, HA.out])).mono ?_
  rintro e w9 ⟨rfl, hw⟩
  have hq := hw.symm
  subst hq
  clear hw
  go_wp2_with fail
  refine (HO.out _ T1).mono ?_
  rintro e w2 ⟨rfl, hb2⟩
  have T2 := Hid.mk' (T1.out.keep hb2)
  go_wp2_with fail
  refine (HP.out _ T2).mono ?_
  rintro e w3 ⟨rfl, hb3⟩
  have T3 := Hid.mk' (T2.out.keep hb3)
  have B3 := Hid.mk' (bT (bT hb1 hb2) hb3)
  clear hb1 hb2 hb3
  go_wp2_with fail
  refine (HQ.out _ T3).mono ?_
  rintro e w9 ⟨rfl, hw⟩
  have hq := hw.symm
  subst hq
  clear hw
  go_wp2_with fail
  refine (HM.out _ T3).mono ?_
  rintro e w9 ⟨rfl, hw⟩
  have hq := hw.symm
  subst hq
  clear hw
  by_cases hrk2 : r = k
  · subst hrk2
    go_wp2
    go_ret
    exact ⟨rfl, B3.out⟩
  · have h9 : ((r : Int) == (k : Int)) = false := by rw [beq_eq_false_iff_ne]; omega
    go_wp2
    go_ret
    exact ⟨rfl, B3.out⟩

theorem linesRest_walk (ao : Option Addr) (n c : Nat) (i : Int) (l : List UInt8) (w : World) (h1 : -9223372036854775808 ≤ i) (h2 : i ≤ 9223372036854775807) (HT : Hid (Tx w ao n c l)) :
    Calls Try.prog 7 #[.slice ao n c, .int .i64 i] w fun e w' => e = .returned (.bool true) ∧ Below w.heap.size w w' := by
  have hl := HT.out.len
  by_cases h0 : i < 0
  · exact rest_out ao n c i 0 l w h1 h2 (by unfold Hid cl; rw [if_pos h0]) (.inl ⟨h0, rfl⟩) HT
  · by_cases hn : (n : Int) < i
    · exact rest_out ao n c i n l w h1 h2 (by unfold Hid cl; rw [if_neg h0, if_pos (by omega), hl]) (.inr ⟨hn, rfl⟩) HT
    · obtain ⟨k, rfl⟩ := Int.eq_ofNat_of_zero_le (show 0 ≤ i by omega)
      exact rest_in ao n c k l w (by omega) HT
end Go.Proofs.Ytkdkkbfbdjeoiaa
