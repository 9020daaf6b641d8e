/- The contract of the reference's Move. -/
import Derived.Test.YtomekjakjgfjdaaRfl
import Derived.Test.YtomekjakjgfjdaaMove
import Derived.Test.YtomekjakjgfjdaaTg
namespace Go.Proofs.Ytomekjakjgfjdaa
open Go.RowKit

theorem tgt_w {l : List UInt8} {p m : Nat} (big : Bool) (hp : p < l.length) (hm : 0 < m) : sup (bgn l big) (fun _ => l.length) (l.length - p) m p p ≠ p := by
  obtain ⟨m, rfl⟩ : ∃ k, m = k + 1 := ⟨m - 1, by omega⟩
  rcases sup_first (S := bgn l big) (ways_len (bgn l big) l.length).le (l.length - p) p p (by omega) (Nat.le_refl _) with ⟨-, h2⟩ | ⟨-, h2⟩
  · rw [h2 m]; show l.length ≠ p; omega
  · have := h2 m; omega
theorem tgt_w0 {l : List UInt8} {m : Nat} (big : Bool) : sup (bgn l big) (fun _ => l.length) (l.length - l.length) m l.length l.length = l.length := by
  rw [Nat.sub_self]
  rcases Nat.eq_zero_or_pos m with h | h
  · subst h; exact sup_zero _ _ _ _ _
  · exact sup_end _ _ h
theorem tgt_b0 {S : Nat → Bool} {m : Nat} : sdn S (fun _ => 0) 0 m 0 = 0 := by
  rcases Nat.eq_zero_or_pos m with h | h
  · subst h; exact sdn_zero _ _ _ _
  · exact sdn_end _ h

set_option maxHeartbeats 1000000 in
theorem rmove_no1 (ao : Option Addr) (n c : Nat) (i cnt : Int) (s : ByteArray) (w : World) (h1 : i < 0) :
    Calls Try.prog 9 #[.slice ao n c, .int .i64 i, .int .i64 cnt, .string s] w fun e w' => e = .returned (.tuple #[.agg #[.int .i64 0, .int .i64 0, .int .i64 0], .int .i64 2]) ∧ Below w.heap.size w w' := by
  go_enter Try.func9, Try.ntmps9
  go_wp2
  exact bodyPost_ret (v := .tuple #[.agg #[.int .i64 0, .int .i64 0, .int .i64 0], .int .i64 2]) (by simp [results, Try.results9, go_sem]) rfl ⟨rfl, by repeat (first | exact bAlloc (Below.refl _ _) _ | refine bset ?_ _ (Nat.le_refl _))⟩
set_option maxHeartbeats 1000000 in
theorem rmove_no2 (ao : Option Addr) (n c : Nat) (i cnt : Int) (s : ByteArray) (w : World) (h0 : 0 ≤ i) (h1 : (n : Int) < i) :
    Calls Try.prog 9 #[.slice ao n c, .int .i64 i, .int .i64 cnt, .string s] w fun e w' => e = .returned (.tuple #[.agg #[.int .i64 0, .int .i64 0, .int .i64 0], .int .i64 2]) ∧ Below w.heap.size w w' := by
  go_enter Try.func9, Try.ntmps9
  go_wp2
  exact bodyPost_ret (v := .tuple #[.agg #[.int .i64 0, .int .i64 0, .int .i64 0], .int .i64 2]) (by simp [results, Try.results9, go_sem]) rfl ⟨rfl, by repeat (first | exact bAlloc (Below.refl _ _) _ | refine bset ?_ _ (Nat.le_refl _))⟩
set_option maxHeartbeats 1000000 in
theorem rmove_no3 (ao : Option Addr) (n c : Nat) (i cnt : Int) (s : ByteArray) (w : World) (h0 : 0 ≤ i) (h1 : i ≤ (n : Int)) (h2 : cnt < 0) :
    Calls Try.prog 9 #[.slice ao n c, .int .i64 i, .int .i64 cnt, .string s] w fun e w' => e = .returned (.tuple #[.agg #[.int .i64 0, .int .i64 0, .int .i64 0], .int .i64 2]) ∧ Below w.heap.size w w' := by
  go_enter Try.func9, Try.ntmps9
  go_wp2
  exact bodyPost_ret (v := .tuple #[.agg #[.int .i64 0, .int .i64 0, .int .i64 0], .int .i64 2]) (by simp [results, Try.results9, go_sem]) rfl ⟨rfl, by repeat (first | exact bAlloc (Below.refl _ _) _ | refine bset ?_ _ (Nat.le_refl _))⟩
set_option maxHeartbeats 1000000 in
theorem rmove_no4 (ao : Option Addr) (n c : Nat) (i cnt : Int) (s : ByteArray) (w : World) (h0 : 0 ≤ i) (h1 : i ≤ (n : Int)) (h2 : 0 ≤ cnt) (h3 : 9999 < cnt) :
    Calls Try.prog 9 #[.slice ao n c, .int .i64 i, .int .i64 cnt, .string s] w fun e w' => e = .returned (.tuple #[.agg #[.int .i64 0, .int .i64 0, .int .i64 0], .int .i64 2]) ∧ Below w.heap.size w w' := by
  go_enter Try.func9, Try.ntmps9
  go_wp2
  exact bodyPost_ret (v := .tuple #[.agg #[.int .i64 0, .int .i64 0, .int .i64 0], .int .i64 2]) (by simp [results, Try.results9, go_sem]) rfl ⟨rfl, by repeat (first | exact bAlloc (Below.refl _ _) _ | refine bset ?_ _ (Nat.le_refl _))⟩
set_option maxHeartbeats 1000000 in
theorem rmove_0 (ao : Option Addr) (n c p : Nat) (cnt : Int) (s : ByteArray) (w : World) (hp : p ≤ n) (hc0 : 0 ≤ cnt) (hc9 : cnt ≤ 9999) (h : kn s = 0) :
    Calls Try.prog 9 #[.slice ao n c, .int .i64 p, .int .i64 cnt, .string s] w fun e w' => e = .returned (.tuple #[.agg #[.int .i64 0, .int .i64 0, .int .i64 0], .int .i64 2]) ∧ Below w.heap.size w w' := by
  obtain ⟨r1, r2, r3, r4, r5, r6, r7, r8⟩ := kn_rules s 0 h
  have HE : Hid (True) := trivial
  clear h
  have hpn : (p : Int) ≤ (n : Int) := by omega
  have hp0 : (0 : Int) ≤ (p : Int) := by omega
  go_enter Try.func9, Try.ntmps9
  go_wp2
  exact bodyPost_ret (v := .tuple #[.agg #[.int .i64 0, .int .i64 0, .int .i64 0], .int .i64 2]) (by simp [results, Try.results9, go_sem]) rfl ⟨rfl, by repeat (first | exact bAlloc (Below.refl _ _) _ | exact bAlloc (bAlloc (Below.refl _ _) _) _ | refine bset ?_ _ (by simp) | refine bAlloc ?_ _)⟩
set_option maxHeartbeats 1000000 in
theorem rmove_1 (ao : Option Addr) (n c p m : Nat) (cnt : Int) (l : List UInt8) (s : ByteArray) (w : World) (HT : Hid (Tx w ao n c l)) (hp : p ≤ n) (hc : max cnt 1 = (m : Int)) (hN : (m : Int) ≤ 9999) (hc0 : 0 ≤ cnt) (hc9 : cnt ≤ 9999) (h : kn s = 1) :
    Calls Try.prog 9 #[.slice ao n c, .int .i64 p, .int .i64 cnt, .string s] w fun e w' => e = (if tgt l p m 1 = p then Ending.returned (.tuple #[.agg #[.int .i64 0, .int .i64 0, .int .i64 0], .int .i64 70]) else .returned (.tuple #[.agg #[.int .i64 p, .int .i64 (tgt l p m 1 : Nat), .int .i64 (mK 1)], .int .i64 0])) ∧ Below w.heap.size w w' := by
  have hl := HT.out.len
  subst hl
  obtain ⟨r1, r2, r3, r4, r5, r6, r7, r8⟩ := kn_rules s 1 h
  clear h
  have hpn : (p : Int) ≤ (l.length : Int) := by omega
  have hp0 : (0 : Int) ≤ (p : Int) := by omega
  have hm0 : 1 ≤ m := by omega
  have T1 := Hid.mk' fun x y => Hid.mk' (HT.out.keep (bAlloc (bAlloc (Below.refl _ _) x) y))
  by_cases hpl : p = l.length
  · have HE : Hid ((if tgt l p m 1 = p then Ending.returned (.tuple #[.agg #[.int .i64 0, .int .i64 0, .int .i64 0], .int .i64 70]) else .returned (.tuple #[.agg #[.int .i64 p, .int .i64 (tgt l p m 1 : Nat), .int .i64 (mK 1)], .int .i64 0])) = .returned (.tuple #[.agg #[.int .i64 0, .int .i64 0, .int .i64 0], .int .i64 70])) := if_pos (by subst hpl; exact tgt_w0 false)
    rw [HE.out]
    have hpl' : ((p : Int) == (l.length : Int)) = true := by simp; omega
    clear HE hpl
    have HE : Hid True := trivial
    go_enter Try.func9, Try.ntmps9
    go_wp2
    exact bodyPost_ret (v := .tuple #[.agg #[.int .i64 0, .int .i64 0, .int .i64 0], .int .i64 70]) (by simp [results, Try.results9, go_sem]) rfl ⟨rfl, by repeat (first | exact bAlloc (Below.refl _ _) _ | exact bAlloc (bAlloc (Below.refl _ _) _) _ | refine bset ?_ _ (by simp) | refine bAlloc ?_ _)⟩
  · have HE : Hid ((if tgt l p m 1 = p then Ending.returned (.tuple #[.agg #[.int .i64 0, .int .i64 0, .int .i64 0], .int .i64 70]) else .returned (.tuple #[.agg #[.int .i64 p, .int .i64 (tgt l p m 1 : Nat), .int .i64 (mK 1)], .int .i64 0])) = .returned (.tuple #[.agg #[.int .i64 p, .int .i64 (sup (bgn l false) (fun _ => l.length) (l.length - p) m p p : Nat), .int .i64 1], .int .i64 0])) := if_neg (tgt_w false (by omega) (by omega))
    rw [HE.out]
    clear HE
    have hpl' : ((p : Int) == (l.length : Int)) = false := by simp; omega
    have C1 := Hid.mk' fun x y => onward_any ao l.length c p m false l _ hp hm0 (by omega) (T1.out x y)
    generalize sup (bgn l false) (fun _ => l.length) (l.length - p) m p p = q at *
    go_enter Try.func9, Try.ntmps9
    go_wp2_with (go_at_call 16; refine (C1.out _ _).mono ?_; rintro e w' ⟨rfl, hw⟩; have hq := hw.symm; subst hq; clear hw)
    exact bodyPost_ret (v := .tuple #[.agg #[.int .i64 p, .int .i64 q, .int .i64 1], .int .i64 0]) (by simp [results, Try.results9, go_sem]) rfl ⟨rfl, by repeat (first | exact bAlloc (Below.refl _ _) _ | exact bAlloc (bAlloc (Below.refl _ _) _) _ | refine bset ?_ _ (by simp) | refine bAlloc ?_ _)⟩
set_option maxHeartbeats 1000000 in
theorem rmove_2 (ao : Option Addr) (n c p m : Nat) (cnt : Int) (l : List UInt8) (s : ByteArray) (w : World) (HT : Hid (Tx w ao n c l)) (hp : p ≤ n) (hc : max cnt 1 = (m : Int)) (hN : (m : Int) ≤ 9999) (hc0 : 0 ≤ cnt) (hc9 : cnt ≤ 9999) (h : kn s = 2) :
    Calls Try.prog 9 #[.slice ao n c, .int .i64 p, .int .i64 cnt, .string s] w fun e w' => e = (if tgt l p m 2 = p then Ending.returned (.tuple #[.agg #[.int .i64 0, .int .i64 0, .int .i64 0], .int .i64 70]) else .returned (.tuple #[.agg #[.int .i64 p, .int .i64 (tgt l p m 2 : Nat), .int .i64 (mK 2)], .int .i64 0])) ∧ Below w.heap.size w w' := by
  have hl := HT.out.len
  subst hl
  obtain ⟨r1, r2, r3, r4, r5, r6, r7, r8⟩ := kn_rules s 2 h
  clear h
  have hpn : (p : Int) ≤ (l.length : Int) := by omega
  have hp0 : (0 : Int) ≤ (p : Int) := by omega
  have hm0 : 1 ≤ m := by omega
  have T1 := Hid.mk' fun x y => Hid.mk' (HT.out.keep (bAlloc (bAlloc (Below.refl _ _) x) y))
  by_cases hpl : p = l.length
  · have HE : Hid ((if tgt l p m 2 = p then Ending.returned (.tuple #[.agg #[.int .i64 0, .int .i64 0, .int .i64 0], .int .i64 70]) else .returned (.tuple #[.agg #[.int .i64 p, .int .i64 (tgt l p m 2 : Nat), .int .i64 (mK 2)], .int .i64 0])) = .returned (.tuple #[.agg #[.int .i64 0, .int .i64 0, .int .i64 0], .int .i64 70])) := if_pos (by subst hpl; exact tgt_w0 true)
    rw [HE.out]
    have hpl' : ((p : Int) == (l.length : Int)) = true := by simp; omega
    clear HE hpl
    have HE : Hid True := trivial
    go_enter Try.func9, Try.ntmps9
    go_wp2
    exact bodyPost_ret (v := .tuple #[.agg #[.int .i64 0, .int .i64 0, .int .i64 0], .int .i64 70]) (by simp [results, Try.results9, go_sem]) rfl ⟨rfl, by repeat (first | exact bAlloc (Below.refl _ _) _ | exact bAlloc (bAlloc (Below.refl _ _) _) _ | refine bset ?_ _ (by simp) | refine bAlloc ?_ _)⟩
  · have HE : Hid ((if tgt l p m 2 = p then Ending.returned (.tuple #[.agg #[.int .i64 0, .int .i64 0, .int .i64 0], .int .i64 70]) else .returned (.tuple #[.agg #[.int .i64 p, .int .i64 (tgt l p m 2 : Nat), .int .i64 (mK 2)], .int .i64 0])) = .returned (.tuple #[.agg #[.int .i64 p, .int .i64 (sup (bgn l true) (fun _ => l.length) (l.length - p) m p p : Nat), .int .i64 1], .int .i64 0])) := if_neg (tgt_w true (by omega) (by omega))
    rw [HE.out]
    clear HE
    have hpl' : ((p : Int) == (l.length : Int)) = false := by simp; omega
    have C1 := Hid.mk' fun x y => onward_any ao l.length c p m true l _ hp hm0 (by omega) (T1.out x y)
    generalize sup (bgn l true) (fun _ => l.length) (l.length - p) m p p = q at *
    go_enter Try.func9, Try.ntmps9
    go_wp2_with (go_at_call 16; refine (C1.out _ _).mono ?_; rintro e w' ⟨rfl, hw⟩; have hq := hw.symm; subst hq; clear hw)
    exact bodyPost_ret (v := .tuple #[.agg #[.int .i64 p, .int .i64 q, .int .i64 1], .int .i64 0]) (by simp [results, Try.results9, go_sem]) rfl ⟨rfl, by repeat (first | exact bAlloc (Below.refl _ _) _ | exact bAlloc (bAlloc (Below.refl _ _) _) _ | refine bset ?_ _ (by simp) | refine bAlloc ?_ _)⟩
set_option maxHeartbeats 1000000 in
theorem rmove_3 (ao : Option Addr) (n c p m : Nat) (cnt : Int) (l : List UInt8) (s : ByteArray) (w : World) (HT : Hid (Tx w ao n c l)) (hp : p ≤ n) (hc : max cnt 1 = (m : Int)) (hN : (m : Int) ≤ 9999) (hc0 : 0 ≤ cnt) (hc9 : cnt ≤ 9999) (h : kn s = 3) :
    Calls Try.prog 9 #[.slice ao n c, .int .i64 p, .int .i64 cnt, .string s] w fun e w' => e = (if tgt l p m 3 = p then Ending.returned (.tuple #[.agg #[.int .i64 0, .int .i64 0, .int .i64 0], .int .i64 70]) else .returned (.tuple #[.agg #[.int .i64 p, .int .i64 (tgt l p m 3 : Nat), .int .i64 (mK 3)], .int .i64 0])) ∧ Below w.heap.size w w' := by
  have hl := HT.out.len
  subst hl
  obtain ⟨r1, r2, r3, r4, r5, r6, r7, r8⟩ := kn_rules s 3 h
  clear h
  have hpn : (p : Int) ≤ (l.length : Int) := by omega
  have hp0 : (0 : Int) ≤ (p : Int) := by omega
  have hm0 : 1 ≤ m := by omega
  have T1 := Hid.mk' fun x y => Hid.mk' (HT.out.keep (bAlloc (bAlloc (Below.refl _ _) x) y))
  by_cases hpl : p = 0
  · have HE : Hid ((if tgt l p m 3 = p then Ending.returned (.tuple #[.agg #[.int .i64 0, .int .i64 0, .int .i64 0], .int .i64 70]) else .returned (.tuple #[.agg #[.int .i64 p, .int .i64 (tgt l p m 3 : Nat), .int .i64 (mK 3)], .int .i64 0])) = .returned (.tuple #[.agg #[.int .i64 0, .int .i64 0, .int .i64 0], .int .i64 70])) := if_pos (by subst hpl; exact tgt_b0 (S := bgn l false))
    rw [HE.out]
    clear HE
    have hpl' : ((p : Int) == 0) = true := by simp; omega
    clear hpl
    go_enter Try.func9, Try.ntmps9
    go_wp2
    exact bodyPost_ret (v := .tuple #[.agg #[.int .i64 0, .int .i64 0, .int .i64 0], .int .i64 70]) (by simp [results, Try.results9, go_sem]) rfl ⟨rfl, by repeat (first | exact bAlloc (Below.refl _ _) _ | exact bAlloc (bAlloc (Below.refl _ _) _) _ | refine bset ?_ _ (by simp) | refine bAlloc ?_ _)⟩
  · have HE : Hid ((if tgt l p m 3 = p then Ending.returned (.tuple #[.agg #[.int .i64 0, .int .i64 0, .int .i64 0], .int .i64 70]) else .returned (.tuple #[.agg #[.int .i64 p, .int .i64 (tgt l p m 3 : Nat), .int .i64 (mK 3)], .int .i64 0])) = .returned (.tuple #[.agg #[.int .i64 p, .int .i64 (sdn (bgn l false) (fun _ => 0) p m p : Nat), .int .i64 1], .int .i64 0])) := if_neg (Nat.ne_of_lt (sdn_lt (by omega) (by omega)))
    rw [HE.out]
    clear HE
    have hpl' : ((p : Int) == 0) = false := by simp; omega
    have C1 := Hid.mk' fun x y => backb_any ao l.length c p m false l _ hp hm0 (by omega) (T1.out x y)
    generalize sdn (bgn l false) (fun _ => 0) p m p = q at *
    go_enter Try.func9, Try.ntmps9
    go_wp2_with (go_at_call 17; refine (C1.out _ _).mono ?_; rintro e w' ⟨rfl, hw⟩; have hq := hw.symm; subst hq; clear hw)
    exact bodyPost_ret (v := .tuple #[.agg #[.int .i64 p, .int .i64 q, .int .i64 1], .int .i64 0]) (by simp [results, Try.results9, go_sem]) rfl ⟨rfl, by repeat (first | exact bAlloc (Below.refl _ _) _ | exact bAlloc (bAlloc (Below.refl _ _) _) _ | refine bset ?_ _ (by simp) | refine bAlloc ?_ _)⟩
set_option maxHeartbeats 1000000 in
theorem rmove_4 (ao : Option Addr) (n c p m : Nat) (cnt : Int) (l : List UInt8) (s : ByteArray) (w : World) (HT : Hid (Tx w ao n c l)) (hp : p ≤ n) (hc : max cnt 1 = (m : Int)) (hN : (m : Int) ≤ 9999) (hc0 : 0 ≤ cnt) (hc9 : cnt ≤ 9999) (h : kn s = 4) :
    Calls Try.prog 9 #[.slice ao n c, .int .i64 p, .int .i64 cnt, .string s] w fun e w' => e = (if tgt l p m 4 = p then Ending.returned (.tuple #[.agg #[.int .i64 0, .int .i64 0, .int .i64 0], .int .i64 70]) else .returned (.tuple #[.agg #[.int .i64 p, .int .i64 (tgt l p m 4 : Nat), .int .i64 (mK 4)], .int .i64 0])) ∧ Below w.heap.size w w' := by
  have hl := HT.out.len
  subst hl
  obtain ⟨r1, r2, r3, r4, r5, r6, r7, r8⟩ := kn_rules s 4 h
  clear h
  have hpn : (p : Int) ≤ (l.length : Int) := by omega
  have hp0 : (0 : Int) ≤ (p : Int) := by omega
  have hm0 : 1 ≤ m := by omega
  have T1 := Hid.mk' fun x y => Hid.mk' (HT.out.keep (bAlloc (bAlloc (Below.refl _ _) x) y))
  by_cases hpl : p = 0
  · have HE : Hid ((if tgt l p m 4 = p then Ending.returned (.tuple #[.agg #[.int .i64 0, .int .i64 0, .int .i64 0], .int .i64 70]) else .returned (.tuple #[.agg #[.int .i64 p, .int .i64 (tgt l p m 4 : Nat), .int .i64 (mK 4)], .int .i64 0])) = .returned (.tuple #[.agg #[.int .i64 0, .int .i64 0, .int .i64 0], .int .i64 70])) := if_pos (by subst hpl; exact tgt_b0 (S := bgn l true))
    rw [HE.out]
    clear HE
    have hpl' : ((p : Int) == 0) = true := by simp; omega
    clear hpl
    go_enter Try.func9, Try.ntmps9
    go_wp2
    exact bodyPost_ret (v := .tuple #[.agg #[.int .i64 0, .int .i64 0, .int .i64 0], .int .i64 70]) (by simp [results, Try.results9, go_sem]) rfl ⟨rfl, by repeat (first | exact bAlloc (Below.refl _ _) _ | exact bAlloc (bAlloc (Below.refl _ _) _) _ | refine bset ?_ _ (by simp) | refine bAlloc ?_ _)⟩
  · have HE : Hid ((if tgt l p m 4 = p then Ending.returned (.tuple #[.agg #[.int .i64 0, .int .i64 0, .int .i64 0], .int .i64 70]) else .returned (.tuple #[.agg #[.int .i64 p, .int .i64 (tgt l p m 4 : Nat), .int .i64 (mK 4)], .int .i64 0])) = .returned (.tuple #[.agg #[.int .i64 p, .int .i64 (sdn (bgn l true) (fun _ => 0) p m p : Nat), .int .i64 1], .int .i64 0])) := if_neg (Nat.ne_of_lt (sdn_lt (by omega) (by omega)))
    rw [HE.out]
    clear HE
    have hpl' : ((p : Int) == 0) = false := by simp; omega
    have C1 := Hid.mk' fun x y => backb_any ao l.length c p m true l _ hp hm0 (by omega) (T1.out x y)
    generalize sdn (bgn l true) (fun _ => 0) p m p = q at *
    go_enter Try.func9, Try.ntmps9
    go_wp2_with (go_at_call 17; refine (C1.out _ _).mono ?_; rintro e w' ⟨rfl, hw⟩; have hq := hw.symm; subst hq; clear hw)
    exact bodyPost_ret (v := .tuple #[.agg #[.int .i64 p, .int .i64 q, .int .i64 1], .int .i64 0]) (by simp [results, Try.results9, go_sem]) rfl ⟨rfl, by repeat (first | exact bAlloc (Below.refl _ _) _ | exact bAlloc (bAlloc (Below.refl _ _) _) _ | refine bset ?_ _ (by simp) | refine bAlloc ?_ _)⟩
set_option maxHeartbeats 1000000 in
theorem rmove_5 (ao : Option Addr) (n c p m : Nat) (cnt : Int) (l : List UInt8) (s : ByteArray) (w : World) (HT : Hid (Tx w ao n c l)) (hp : p ≤ n) (hc : max cnt 1 = (m : Int)) (hN : (m : Int) ≤ 9999) (hc0 : 0 ≤ cnt) (hc9 : cnt ≤ 9999) (h : kn s = 5) :
    Calls Try.prog 9 #[.slice ao n c, .int .i64 p, .int .i64 cnt, .string s] w fun e w' => e = (if tgt l p m 5 = p then Ending.returned (.tuple #[.agg #[.int .i64 0, .int .i64 0, .int .i64 0], .int .i64 70]) else .returned (.tuple #[.agg #[.int .i64 p, .int .i64 (tgt l p m 5 : Nat), .int .i64 (mK 5)], .int .i64 0])) ∧ Below w.heap.size w w' := by
  have hl := HT.out.len
  subst hl
  obtain ⟨r1, r2, r3, r4, r5, r6, r7, r8⟩ := kn_rules s 5 h
  clear h
  have hpn : (p : Int) ≤ (l.length : Int) := by omega
  have hp0 : (0 : Int) ≤ (p : Int) := by omega
  have hm0 : 1 ≤ m := by omega
  have T1 := Hid.mk' fun x y => Hid.mk' (HT.out.keep (bAlloc (bAlloc (Below.refl _ _) x) y))
  have C1 := Hid.mk' fun x y => last_any ao l.length c p m false l _ hp (by omega) (T1.out x y)
  by_cases hpl : sup (ndg l false) (fun d => d) (l.length - p) m p p = p
  · have HE : Hid ((if tgt l p m 5 = p then Ending.returned (.tuple #[.agg #[.int .i64 0, .int .i64 0, .int .i64 0], .int .i64 70]) else .returned (.tuple #[.agg #[.int .i64 p, .int .i64 (tgt l p m 5 : Nat), .int .i64 (mK 5)], .int .i64 0])) = .returned (.tuple #[.agg #[.int .i64 0, .int .i64 0, .int .i64 0], .int .i64 70])) := if_pos hpl
    rw [HE.out]
    have hv : lastV p (sup (ndg l false) (fun d => d) (l.length - p) m p p) = -1 := by unfold lastV; rw [if_pos hpl]
    rw [hv] at C1
    clear HE hpl hv
    go_enter Try.func9, Try.ntmps9
    go_wp2_with (go_at_call 18; refine (C1.out _ _).mono ?_; rintro e w' ⟨rfl, hw⟩; have hq := hw.symm; subst hq; clear hw)
    exact bodyPost_ret (v := .tuple #[.agg #[.int .i64 0, .int .i64 0, .int .i64 0], .int .i64 70]) (by simp [results, Try.results9, go_sem]) rfl ⟨rfl, by repeat (first | exact bAlloc (Below.refl _ _) _ | exact bAlloc (bAlloc (Below.refl _ _) _) _ | refine bset ?_ _ (by simp) | refine bAlloc ?_ _)⟩
  · have HE : Hid ((if tgt l p m 5 = p then Ending.returned (.tuple #[.agg #[.int .i64 0, .int .i64 0, .int .i64 0], .int .i64 70]) else .returned (.tuple #[.agg #[.int .i64 p, .int .i64 (tgt l p m 5 : Nat), .int .i64 (mK 5)], .int .i64 0])) = .returned (.tuple #[.agg #[.int .i64 p, .int .i64 (sup (ndg l false) (fun d => d) (l.length - p) m p p : Nat), .int .i64 2], .int .i64 0])) := if_neg hpl
    rw [HE.out]
    have hv : lastV p (sup (ndg l false) (fun d => d) (l.length - p) m p p) = ((sup (ndg l false) (fun d => d) (l.length - p) m p p : Nat) : Int) := by unfold lastV; rw [if_neg hpl]
    rw [hv] at C1
    clear HE hpl hv
    generalize sup (ndg l false) (fun d => d) (l.length - p) m p p = q at *
    have hq0 : (0 : Int) ≤ (q : Int) := by omega
    go_enter Try.func9, Try.ntmps9
    go_wp2_with (go_at_call 18; refine (C1.out _ _).mono ?_; rintro e w' ⟨rfl, hw⟩; have hq := hw.symm; subst hq; clear hw)
    exact bodyPost_ret (v := .tuple #[.agg #[.int .i64 p, .int .i64 q, .int .i64 2], .int .i64 0]) (by simp [results, Try.results9, go_sem]) rfl ⟨rfl, by repeat (first | exact bAlloc (Below.refl _ _) _ | exact bAlloc (bAlloc (Below.refl _ _) _) _ | refine bset ?_ _ (by simp) | refine bAlloc ?_ _)⟩
set_option maxHeartbeats 1000000 in
theorem rmove_6 (ao : Option Addr) (n c p m : Nat) (cnt : Int) (l : List UInt8) (s : ByteArray) (w : World) (HT : Hid (Tx w ao n c l)) (hp : p ≤ n) (hc : max cnt 1 = (m : Int)) (hN : (m : Int) ≤ 9999) (hc0 : 0 ≤ cnt) (hc9 : cnt ≤ 9999) (h : kn s = 6) :
    Calls Try.prog 9 #[.slice ao n c, .int .i64 p, .int .i64 cnt, .string s] w fun e w' => e = (if tgt l p m 6 = p then Ending.returned (.tuple #[.agg #[.int .i64 0, .int .i64 0, .int .i64 0], .int .i64 70]) else .returned (.tuple #[.agg #[.int .i64 p, .int .i64 (tgt l p m 6 : Nat), .int .i64 (mK 6)], .int .i64 0])) ∧ Below w.heap.size w w' := by
  have hl := HT.out.len
  subst hl
  obtain ⟨r1, r2, r3, r4, r5, r6, r7, r8⟩ := kn_rules s 6 h
  clear h
  have hpn : (p : Int) ≤ (l.length : Int) := by omega
  have hp0 : (0 : Int) ≤ (p : Int) := by omega
  have hm0 : 1 ≤ m := by omega
  have T1 := Hid.mk' fun x y => Hid.mk' (HT.out.keep (bAlloc (bAlloc (Below.refl _ _) x) y))
  have C1 := Hid.mk' fun x y => last_any ao l.length c p m true l _ hp (by omega) (T1.out x y)
  by_cases hpl : sup (ndg l true) (fun d => d) (l.length - p) m p p = p
  · have HE : Hid ((if tgt l p m 6 = p then Ending.returned (.tuple #[.agg #[.int .i64 0, .int .i64 0, .int .i64 0], .int .i64 70]) else .returned (.tuple #[.agg #[.int .i64 p, .int .i64 (tgt l p m 6 : Nat), .int .i64 (mK 6)], .int .i64 0])) = .returned (.tuple #[.agg #[.int .i64 0, .int .i64 0, .int .i64 0], .int .i64 70])) := if_pos hpl
    rw [HE.out]
    have hv : lastV p (sup (ndg l true) (fun d => d) (l.length - p) m p p) = -1 := by unfold lastV; rw [if_pos hpl]
    rw [hv] at C1
    clear HE hpl hv
    go_enter Try.func9, Try.ntmps9
    go_wp2_with (go_at_call 18; refine (C1.out _ _).mono ?_; rintro e w' ⟨rfl, hw⟩; have hq := hw.symm; subst hq; clear hw)
    exact bodyPost_ret (v := .tuple #[.agg #[.int .i64 0, .int .i64 0, .int .i64 0], .int .i64 70]) (by simp [results, Try.results9, go_sem]) rfl ⟨rfl, by repeat (first | exact bAlloc (Below.refl _ _) _ | exact bAlloc (bAlloc (Below.refl _ _) _) _ | refine bset ?_ _ (by simp) | refine bAlloc ?_ _)⟩
  · have HE : Hid ((if tgt l p m 6 = p then Ending.returned (.tuple #[.agg #[.int .i64 0, .int .i64 0, .int .i64 0], .int .i64 70]) else .returned (.tuple #[.agg #[.int .i64 p, .int .i64 (tgt l p m 6 : Nat), .int .i64 (mK 6)], .int .i64 0])) = .returned (.tuple #[.agg #[.int .i64 p, .int .i64 (sup (ndg l true) (fun d => d) (l.length - p) m p p : Nat), .int .i64 2], .int .i64 0])) := if_neg hpl
    rw [HE.out]
    have hv : lastV p (sup (ndg l true) (fun d => d) (l.length - p) m p p) = ((sup (ndg l true) (fun d => d) (l.length - p) m p p : Nat) : Int) := by unfold lastV; rw [if_neg hpl]
    rw [hv] at C1
    clear HE hpl hv
    generalize sup (ndg l true) (fun d => d) (l.length - p) m p p = q at *
    have hq0 : (0 : Int) ≤ (q : Int) := by omega
    go_enter Try.func9, Try.ntmps9
    go_wp2_with (go_at_call 18; refine (C1.out _ _).mono ?_; rintro e w' ⟨rfl, hw⟩; have hq := hw.symm; subst hq; clear hw)
    exact bodyPost_ret (v := .tuple #[.agg #[.int .i64 p, .int .i64 q, .int .i64 2], .int .i64 0]) (by simp [results, Try.results9, go_sem]) rfl ⟨rfl, by repeat (first | exact bAlloc (Below.refl _ _) _ | exact bAlloc (bAlloc (Below.refl _ _) _) _ | refine bset ?_ _ (by simp) | refine bAlloc ?_ _)⟩
set_option maxHeartbeats 1000000 in
theorem rmove_7 (ao : Option Addr) (n c p m : Nat) (cnt : Int) (l : List UInt8) (s : ByteArray) (w : World) (HT : Hid (Tx w ao n c l)) (hp : p ≤ n) (hc : max cnt 1 = (m : Int)) (hN : (m : Int) ≤ 9999) (hc0 : 0 ≤ cnt) (hc9 : cnt ≤ 9999) (h : kn s = 7) :
    Calls Try.prog 9 #[.slice ao n c, .int .i64 p, .int .i64 cnt, .string s] w fun e w' => e = (if tgt l p m 7 = p then Ending.returned (.tuple #[.agg #[.int .i64 0, .int .i64 0, .int .i64 0], .int .i64 70]) else .returned (.tuple #[.agg #[.int .i64 p, .int .i64 (tgt l p m 7 : Nat), .int .i64 (mK 7)], .int .i64 0])) ∧ Below w.heap.size w w' := by
  have hl := HT.out.len
  subst hl
  obtain ⟨r1, r2, r3, r4, r5, r6, r7, r8⟩ := kn_rules s 7 h
  clear h
  have hpn : (p : Int) ≤ (l.length : Int) := by omega
  have hp0 : (0 : Int) ≤ (p : Int) := by omega
  have hm0 : 1 ≤ m := by omega
  have T1 := Hid.mk' fun x y => Hid.mk' (HT.out.keep (bAlloc (bAlloc (Below.refl _ _) x) y))
  by_cases hpl : p = 0
  · have HE : Hid ((if tgt l p m 7 = p then Ending.returned (.tuple #[.agg #[.int .i64 0, .int .i64 0, .int .i64 0], .int .i64 70]) else .returned (.tuple #[.agg #[.int .i64 p, .int .i64 (tgt l p m 7 : Nat), .int .i64 (mK 7)], .int .i64 0])) = .returned (.tuple #[.agg #[.int .i64 0, .int .i64 0, .int .i64 0], .int .i64 70])) := if_pos (by subst hpl; exact tgt_b0 (S := hlt l false))
    rw [HE.out]
    clear HE
    have hpl' : ((p : Int) == 0) = true := by simp; omega
    clear hpl
    go_enter Try.func9, Try.ntmps9
    go_wp2
    exact bodyPost_ret (v := .tuple #[.agg #[.int .i64 0, .int .i64 0, .int .i64 0], .int .i64 70]) (by simp [results, Try.results9, go_sem]) rfl ⟨rfl, by repeat (first | exact bAlloc (Below.refl _ _) _ | exact bAlloc (bAlloc (Below.refl _ _) _) _ | refine bset ?_ _ (by simp) | refine bAlloc ?_ _)⟩
  · have HE : Hid ((if tgt l p m 7 = p then Ending.returned (.tuple #[.agg #[.int .i64 0, .int .i64 0, .int .i64 0], .int .i64 70]) else .returned (.tuple #[.agg #[.int .i64 p, .int .i64 (tgt l p m 7 : Nat), .int .i64 (mK 7)], .int .i64 0])) = .returned (.tuple #[.agg #[.int .i64 p, .int .i64 (sdn (hlt l false) (fun _ => 0) p m p : Nat), .int .i64 2], .int .i64 0])) := if_neg (Nat.ne_of_lt (sdn_lt (by omega) (by omega)))
    rw [HE.out]
    clear HE
    have hpl' : ((p : Int) == 0) = false := by simp; omega
    have C1 := Hid.mk' fun x y => backg_any ao l.length c p m false l _ hp hm0 (by omega) (T1.out x y)
    generalize sdn (hlt l false) (fun _ => 0) p m p = q at *
    go_enter Try.func9, Try.ntmps9
    go_wp2_with (go_at_call 17; refine (C1.out _ _).mono ?_; rintro e w' ⟨rfl, hw⟩; have hq := hw.symm; subst hq; clear hw)
    exact bodyPost_ret (v := .tuple #[.agg #[.int .i64 p, .int .i64 q, .int .i64 2], .int .i64 0]) (by simp [results, Try.results9, go_sem]) rfl ⟨rfl, by repeat (first | exact bAlloc (Below.refl _ _) _ | exact bAlloc (bAlloc (Below.refl _ _) _) _ | refine bset ?_ _ (by simp) | refine bAlloc ?_ _)⟩
set_option maxHeartbeats 1000000 in
theorem rmove_8 (ao : Option Addr) (n c p m : Nat) (cnt : Int) (l : List UInt8) (s : ByteArray) (w : World) (HT : Hid (Tx w ao n c l)) (hp : p ≤ n) (hc : max cnt 1 = (m : Int)) (hN : (m : Int) ≤ 9999) (hc0 : 0 ≤ cnt) (hc9 : cnt ≤ 9999) (h : kn s = 8) :
    Calls Try.prog 9 #[.slice ao n c, .int .i64 p, .int .i64 cnt, .string s] w fun e w' => e = (if tgt l p m 8 = p then Ending.returned (.tuple #[.agg #[.int .i64 0, .int .i64 0, .int .i64 0], .int .i64 70]) else .returned (.tuple #[.agg #[.int .i64 p, .int .i64 (tgt l p m 8 : Nat), .int .i64 (mK 8)], .int .i64 0])) ∧ Below w.heap.size w w' := by
  have hl := HT.out.len
  subst hl
  obtain ⟨r1, r2, r3, r4, r5, r6, r7, r8⟩ := kn_rules s 8 h
  clear h
  have hpn : (p : Int) ≤ (l.length : Int) := by omega
  have hp0 : (0 : Int) ≤ (p : Int) := by omega
  have hm0 : 1 ≤ m := by omega
  have T1 := Hid.mk' fun x y => Hid.mk' (HT.out.keep (bAlloc (bAlloc (Below.refl _ _) x) y))
  by_cases hpl : p = 0
  · have HE : Hid ((if tgt l p m 8 = p then Ending.returned (.tuple #[.agg #[.int .i64 0, .int .i64 0, .int .i64 0], .int .i64 70]) else .returned (.tuple #[.agg #[.int .i64 p, .int .i64 (tgt l p m 8 : Nat), .int .i64 (mK 8)], .int .i64 0])) = .returned (.tuple #[.agg #[.int .i64 0, .int .i64 0, .int .i64 0], .int .i64 70])) := if_pos (by subst hpl; exact tgt_b0 (S := hlt l true))
    rw [HE.out]
    clear HE
    have hpl' : ((p : Int) == 0) = true := by simp; omega
    clear hpl
    go_enter Try.func9, Try.ntmps9
    go_wp2
    exact bodyPost_ret (v := .tuple #[.agg #[.int .i64 0, .int .i64 0, .int .i64 0], .int .i64 70]) (by simp [results, Try.results9, go_sem]) rfl ⟨rfl, by repeat (first | exact bAlloc (Below.refl _ _) _ | exact bAlloc (bAlloc (Below.refl _ _) _) _ | refine bset ?_ _ (by simp) | refine bAlloc ?_ _)⟩
  · have HE : Hid ((if tgt l p m 8 = p then Ending.returned (.tuple #[.agg #[.int .i64 0, .int .i64 0, .int .i64 0], .int .i64 70]) else .returned (.tuple #[.agg #[.int .i64 p, .int .i64 (tgt l p m 8 : Nat), .int .i64 (mK 8)], .int .i64 0])) = .returned (.tuple #[.agg #[.int .i64 p, .int .i64 (sdn (hlt l true) (fun _ => 0) p m p : Nat), .int .i64 2], .int .i64 0])) := if_neg (Nat.ne_of_lt (sdn_lt (by omega) (by omega)))
    rw [HE.out]
    clear HE
    have hpl' : ((p : Int) == 0) = false := by simp; omega
    have C1 := Hid.mk' fun x y => backg_any ao l.length c p m true l _ hp hm0 (by omega) (T1.out x y)
    generalize sdn (hlt l true) (fun _ => 0) p m p = q at *
    go_enter Try.func9, Try.ntmps9
    go_wp2_with (go_at_call 17; refine (C1.out _ _).mono ?_; rintro e w' ⟨rfl, hw⟩; have hq := hw.symm; subst hq; clear hw)
    exact bodyPost_ret (v := .tuple #[.agg #[.int .i64 p, .int .i64 q, .int .i64 2], .int .i64 0]) (by simp [results, Try.results9, go_sem]) rfl ⟨rfl, by repeat (first | exact bAlloc (Below.refl _ _) _ | exact bAlloc (bAlloc (Below.refl _ _) _) _ | refine bset ?_ _ (by simp) | refine bAlloc ?_ _)⟩
theorem rmove_any (ao : Option Addr) (n c : Nat) (i cnt : Int) (l : List UInt8) (s : ByteArray) (w : World) (HT : Hid (Tx w ao n c l)) :
    Calls Try.prog 9 #[.slice ao n c, .int .i64 i, .int .i64 cnt, .string s] w fun e w' => e = mvE (mv l i cnt s) ∧ Below w.heap.size w w' := by
  have hl := HT.out.len
  cases h : okB l i cnt s with
  | false =>
    have e : mvE (mv l i cnt s) = .returned (.tuple #[.agg #[.int .i64 0, .int .i64 0, .int .i64 0], .int .i64 2]) := by unfold mv; rw [h]; rfl
    rw [e]
    by_cases h0 : i < 0
    · exact rmove_no1 ao n c i cnt s w h0
    · by_cases h1 : (n : Int) < i
      · exact rmove_no2 ao n c i cnt s w (by omega) h1
      · by_cases h3 : cnt < 0
        · exact rmove_no3 ao n c i cnt s w (by omega) (by omega) h3
        · by_cases h4 : 9999 < cnt
          · exact rmove_no4 ao n c i cnt s w (by omega) (by omega) (by omega) h4
          · by_cases h5 : kn s = 0
            · obtain ⟨p, rfl⟩ := Int.eq_ofNat_of_zero_le (show 0 ≤ i by omega)
              exact rmove_0 ao n c p cnt s w (by omega) (by omega) (by omega) h5
            · exfalso
              unfold okB plB at h
              rw [decide_eq_true (show 0 ≤ i ∧ i ≤ l.length by omega), decide_eq_true (show 0 ≤ cnt by omega), decide_eq_true (show cnt ≤ 9999 by omega), decide_eq_true h5] at h
              cases h
  | true =>
    have h' := h
    unfold okB at h
    simp only [Bool.and_eq_true, decide_eq_true_eq] at h
    obtain ⟨⟨⟨h1, h3⟩, h4⟩, h5⟩ := h
    obtain ⟨p, rfl, hp⟩ := pl_yes h1
    have hc : max cnt 1 = (((max cnt 1).toNat : Nat) : Int) := by omega
    have all : ∀ k, k ≤ 8 → k ≠ 0 → kn s = k → Calls Try.prog 9 #[.slice ao n c, .int .i64 p, .int .i64 cnt, .string s] w fun e w' => e = (if tgt l p (max cnt 1).toNat k = p then Ending.returned (.tuple #[.agg #[.int .i64 0, .int .i64 0, .int .i64 0], .int .i64 70]) else .returned (.tuple #[.agg #[.int .i64 p, .int .i64 (tgt l p (max cnt 1).toNat k : Nat), .int .i64 (mK k)], .int .i64 0])) ∧ Below w.heap.size w w' := by
      intro k hk
      refine kn_cases (P := fun k => k ≠ 0 → kn s = k → Calls Try.prog 9 #[.slice ao n c, .int .i64 p, .int .i64 cnt, .string s] w fun e w' => e = (if tgt l p (max cnt 1).toNat k = p then Ending.returned (.tuple #[.agg #[.int .i64 0, .int .i64 0, .int .i64 0], .int .i64 70]) else .returned (.tuple #[.agg #[.int .i64 p, .int .i64 (tgt l p (max cnt 1).toNat k : Nat), .int .i64 (mK k)], .int .i64 0])) ∧ Below w.heap.size w w') k hk (fun h => absurd rfl h) ?_ ?_ ?_ ?_ ?_ ?_ ?_ ?_
      · exact fun _ h => rmove_1 ao n c p _ cnt l s w HT (by omega) hc (by omega) h3 h4 h
      · exact fun _ h => rmove_2 ao n c p _ cnt l s w HT (by omega) hc (by omega) h3 h4 h
      · exact fun _ h => rmove_3 ao n c p _ cnt l s w HT (by omega) hc (by omega) h3 h4 h
      · exact fun _ h => rmove_4 ao n c p _ cnt l s w HT (by omega) hc (by omega) h3 h4 h
      · exact fun _ h => rmove_5 ao n c p _ cnt l s w HT (by omega) hc (by omega) h3 h4 h
      · exact fun _ h => rmove_6 ao n c p _ cnt l s w HT (by omega) hc (by omega) h3 h4 h
      · exact fun _ h => rmove_7 ao n c p _ cnt l s w HT (by omega) hc (by omega) h3 h4 h
      · exact fun _ h => rmove_8 ao n c p _ cnt l s w HT (by omega) hc (by omega) h3 h4 h
    refine (all (kn s) (kn_le s) h5 rfl).mono fun e w' hh => ⟨?_, hh.2⟩
    rw [hh.1]
    unfold mv
    rw [h', if_pos rfl, Int.toNat_natCast]
    split <;> rfl
end Go.Proofs.Ytomekjakjgfjdaa
