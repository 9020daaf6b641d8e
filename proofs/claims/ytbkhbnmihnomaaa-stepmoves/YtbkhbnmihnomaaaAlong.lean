/- The contract of the reference's along, key by key. -/
import Derived.Test.YtbkhbnmihnomaaaRefm
namespace Go.Proofs.Ytbkhbnmihnomaaa
open Go.RowKit

theorem rstart_is {ao : Option Addr} {n c k : Nat} {l : List UInt8} {w : World} (hk : k ≤ n) (HT : Hid (Tx w ao n c l)) :
    Calls Try.prog 40 #[.slice ao n c, .int .i64 (nl (l.take k))] w fun e w' => e = .returned (.tuple #[.int .i64 (bg l k), .int .i64 0]) ∧ w' = w := by
  have hl := HT.out.len
  have hb := HT.out.big
  have h1 := nl_take_le l k
  have h2 := nl_le l
  have := refStart_any ao n c (nl (l.take k) : Nat) l w (by omega) HT
  have e : pr (aStart l (nl (l.take k) : Nat)) = .returned (.tuple #[.int .i64 (bg l k), .int .i64 0]) := by
    unfold pr aStart ans
    rw [ln_at, Int.toNat_natCast, sp_of l k (by omega)]; rfl
  rwa [e] at this
theorem rend_is {ao : Option Addr} {n c k : Nat} {l : List UInt8} {w : World} (hk : k ≤ n) (HT : Hid (Tx w ao n c l)) :
    Calls Try.prog 25 #[.slice ao n c, .int .i64 (nl (l.take k))] w fun e w' => e = .returned (.tuple #[.int .i64 (en l (bg l k)), .int .i64 0]) ∧ w' = w := by
  have hl := HT.out.len
  have hb := HT.out.big
  have h1 := nl_take_le l k
  have h2 := nl_le l
  have := refEnd_any ao n c (nl (l.take k) : Nat) l w (by omega) HT
  have e : pr (aEnd l (nl (l.take k) : Nat)) = .returned (.tuple #[.int .i64 (en l (bg l k)), .int .i64 0]) := by
    unfold pr aEnd ans
    rw [ln_at, Int.toNat_natCast, sp_of l k (by omega)]; rfl
  rwa [e] at this
theorem bg_bg (l : List UInt8) (p : Nat) (hp : p ≤ l.length) : bg l (bg l p) = bg l p := bg_self (bg_st l p hp)

set_option maxHeartbeats 2000000 in
theorem along_1y (ao : Option Addr) (n c p N : Nat) (l : List UInt8) (s : ByteArray) (w : World) (HT : Hid (Tx w ao n c l)) (hp : p ≤ n) (hN1 : (1 : Int) ≤ (N : Int)) (hN9 : (N : Int) ≤ 9999) (hk : kn s = 1) (q : Nat) (ht : tgt l p 0 N false 1 = some q) :
    Calls Try.prog 27 #[.slice ao n c, .int .i64 p, .int .i64 N, .int .i64 (nl (l.take p)), .string s] w fun e w' => e = .returned (.tuple #[.agg #[.int .i64 p, .int .i64 q, .int .i64 1], .int .i64 ((q - bg l q : Nat) : Int), .int .i64 0]) ∧ Below w.heap.size w w' := by
  have _hu := And.intro hN1 hN9
  have hbig : (n : Int) ≤ 140737488355328 := by have := HT.out.big; omega
  have hlen := Hid.mk' HT.out.len
  have hpn : (p : Int) ≤ (n : Int) := by omega
  have hp0 : (0 : Int) ≤ (p : Int) := by omega
  have hpl : Hid (p ≤ l.length) := (by rw [HT.out.len]; exact hp)
  have hbp : (bg l p : Int) ≤ (p : Int) := by have := bg_le l p; omega
  have hb0 : (0 : Int) ≤ (bg l p : Int) := by omega
  have hep : (p : Int) ≤ (en l (bg l p) : Int) := by have := place_en hpl.out; omega
  have hen : (en l (bg l p) : Int) ≤ (n : Int) := by have := en_le (t := l) (s := bg l p) (by have := bg_le l p; have := hpl.out; omega); have := hlen.out; omega
  obtain ⟨q1, q2, q3, q4, q5, q6, q7, q8, q9, q10, q11, q12, q13, q14, q15, q16⟩ : (s.toList == [104]) = true ∧ (s.toList == [108]) = false ∧ (s.toList == [32]) = false ∧ (s.toList == [8]) = false ∧ (s.toList == [106]) = false ∧ (s.toList == [107]) = false ∧ (s.toList == [43]) = false ∧ (s.toList == [13]) = false ∧ (s.toList == [45]) = false ∧ (s.toList == [95]) = false ∧ (s.toList == [48]) = false ∧ (s.toList == [94]) = false ∧ (s.toList == [36]) = false ∧ (s.toList == [124]) = false ∧ (s.toList == [71]) = false ∧ (s.toList == [103, 103]) = false := kn_rules s 1 hk
  clear hk
  have hq : q ≤ n := by rw [← hlen.out]; exact tgt_le hpl.out (by omega) ht
  have hv : max ((p : Int) - (N : Int)) (bg l p : Int) = (q : Int) := by
    obtain ⟨h1, h2⟩ := opt_some (show opt (decide (p ≠ bg l p)) (max (p - N) (bg l p)) = some q from ht)
    omega
  have hne : ((q : Int) == (p : Int)) = false := by
    obtain ⟨h1, h2⟩ := opt_some (show opt (decide (p ≠ bg l p)) (max (p - N) (bg l p)) = some q from ht)
    have h3 := of_decide_eq_true h1
    simp
    omega
  clear ht
  have T1 := Hid.mk' (fun x => Hid.mk' (HT.out.keep (bAlloc (Below.refl _ _) x)))
  have B1 := Hid.mk' (fun x => bAlloc (Below.refl w.heap.size w) x)
  go_enter Try.func27, Try.ntmps27
  go_wp2_with fail
  refine (rstart_is hp (T1.out _)).mono ?_
  rintro e w9 ⟨rfl, hw⟩
  have hqq := hw.symm
  subst hqq
  clear hw
  go_wp2_with fail
  refine (rend_is hp (T1.out _)).mono ?_
  rintro e w9 ⟨rfl, hw⟩
  have hqq := hw.symm
  subst hqq
  clear hw
  go_wp2_with fail
  refine (rcolumn_is hq (T1.out _)).mono ?_
  rintro e w9 ⟨rfl, hw⟩
  have hqq := hw.symm
  subst hqq
  clear hw
  go_wp2
  exact bodyPost_ret (v := .tuple #[.agg #[.int .i64 p, .int .i64 q, .int .i64 1], .int .i64 ((q - bg l q : Nat) : Int), .int .i64 0]) (by simp [results, Try.results27, go_sem]) rfl ⟨rfl, bAlloc (Below.refl _ _) _⟩

set_option maxHeartbeats 2000000 in
theorem along_1n (ao : Option Addr) (n c p N : Nat) (l : List UInt8) (s : ByteArray) (w : World) (HT : Hid (Tx w ao n c l)) (hp : p ≤ n) (hN1 : (1 : Int) ≤ (N : Int)) (hN9 : (N : Int) ≤ 9999) (hk : kn s = 1) (ht : tgt l p 0 N false 1 = none) :
    Calls Try.prog 27 #[.slice ao n c, .int .i64 p, .int .i64 N, .int .i64 (nl (l.take p)), .string s] w fun e w' => e = .returned (.tuple #[.agg #[.int .i64 0, .int .i64 0, .int .i64 0], .int .i64 0, .int .i64 70]) ∧ Below w.heap.size w w' := by
  have _hu := And.intro hN1 hN9
  have hbig : (n : Int) ≤ 140737488355328 := by have := HT.out.big; omega
  have hlen := Hid.mk' HT.out.len
  have hpn : (p : Int) ≤ (n : Int) := by omega
  have hp0 : (0 : Int) ≤ (p : Int) := by omega
  have hpl : Hid (p ≤ l.length) := (by rw [HT.out.len]; exact hp)
  have hbp : (bg l p : Int) ≤ (p : Int) := by have := bg_le l p; omega
  have hb0 : (0 : Int) ≤ (bg l p : Int) := by omega
  have hep : (p : Int) ≤ (en l (bg l p) : Int) := by have := place_en hpl.out; omega
  have hen : (en l (bg l p) : Int) ≤ (n : Int) := by have := en_le (t := l) (s := bg l p) (by have := bg_le l p; have := hpl.out; omega); have := hlen.out; omega
  obtain ⟨q1, q2, q3, q4, q5, q6, q7, q8, q9, q10, q11, q12, q13, q14, q15, q16⟩ : (s.toList == [104]) = true ∧ (s.toList == [108]) = false ∧ (s.toList == [32]) = false ∧ (s.toList == [8]) = false ∧ (s.toList == [106]) = false ∧ (s.toList == [107]) = false ∧ (s.toList == [43]) = false ∧ (s.toList == [13]) = false ∧ (s.toList == [45]) = false ∧ (s.toList == [95]) = false ∧ (s.toList == [48]) = false ∧ (s.toList == [94]) = false ∧ (s.toList == [36]) = false ∧ (s.toList == [124]) = false ∧ (s.toList == [71]) = false ∧ (s.toList == [103, 103]) = false := kn_rules s 1 hk
  clear hk
  have hv : max ((p : Int) - (N : Int)) (bg l p : Int) = (p : Int) := by
    have h1 := of_decide_eq_false (opt_none (show opt (decide (p ≠ bg l p)) (max (p - N) (bg l p)) = none from ht))
    have h2 : p = bg l p := by simpa using h1
    omega
  clear ht
  have T1 := Hid.mk' (fun x => Hid.mk' (HT.out.keep (bAlloc (Below.refl _ _) x)))
  have B1 := Hid.mk' (fun x => bAlloc (Below.refl w.heap.size w) x)
  go_enter Try.func27, Try.ntmps27
  go_wp2_with fail
  refine (rstart_is hp (T1.out _)).mono ?_
  rintro e w9 ⟨rfl, hw⟩
  have hqq := hw.symm
  subst hqq
  clear hw
  go_wp2_with fail
  refine (rend_is hp (T1.out _)).mono ?_
  rintro e w9 ⟨rfl, hw⟩
  have hqq := hw.symm
  subst hqq
  clear hw
  go_wp2
  exact bodyPost_ret (v := .tuple #[.agg #[.int .i64 0, .int .i64 0, .int .i64 0], .int .i64 0, .int .i64 70]) (by simp [results, Try.results27, go_sem]) rfl ⟨rfl, bAlloc (Below.refl _ _) _⟩

set_option maxHeartbeats 2000000 in
theorem along_2y (ao : Option Addr) (n c p N : Nat) (l : List UInt8) (s : ByteArray) (w : World) (HT : Hid (Tx w ao n c l)) (hp : p ≤ n) (hN1 : (1 : Int) ≤ (N : Int)) (hN9 : (N : Int) ≤ 9999) (hk : kn s = 2) (q : Nat) (ht : tgt l p 0 N false 2 = some q) :
    Calls Try.prog 27 #[.slice ao n c, .int .i64 p, .int .i64 N, .int .i64 (nl (l.take p)), .string s] w fun e w' => e = .returned (.tuple #[.agg #[.int .i64 p, .int .i64 q, .int .i64 1], .int .i64 ((q - bg l q : Nat) : Int), .int .i64 0]) ∧ Below w.heap.size w w' := by
  have _hu := And.intro hN1 hN9
  have hbig : (n : Int) ≤ 140737488355328 := by have := HT.out.big; omega
  have hlen := Hid.mk' HT.out.len
  have hpn : (p : Int) ≤ (n : Int) := by omega
  have hp0 : (0 : Int) ≤ (p : Int) := by omega
  have hpl : Hid (p ≤ l.length) := (by rw [HT.out.len]; exact hp)
  have hbp : (bg l p : Int) ≤ (p : Int) := by have := bg_le l p; omega
  have hb0 : (0 : Int) ≤ (bg l p : Int) := by omega
  have hep : (p : Int) ≤ (en l (bg l p) : Int) := by have := place_en hpl.out; omega
  have hen : (en l (bg l p) : Int) ≤ (n : Int) := by have := en_le (t := l) (s := bg l p) (by have := bg_le l p; have := hpl.out; omega); have := hlen.out; omega
  obtain ⟨q1, q2, q3, q4, q5, q6, q7, q8, q9, q10, q11, q12, q13, q14, q15, q16⟩ : (s.toList == [104]) = false ∧ (s.toList == [108]) = true ∧ (s.toList == [32]) = false ∧ (s.toList == [8]) = false ∧ (s.toList == [106]) = false ∧ (s.toList == [107]) = false ∧ (s.toList == [43]) = false ∧ (s.toList == [13]) = false ∧ (s.toList == [45]) = false ∧ (s.toList == [95]) = false ∧ (s.toList == [48]) = false ∧ (s.toList == [94]) = false ∧ (s.toList == [36]) = false ∧ (s.toList == [124]) = false ∧ (s.toList == [71]) = false ∧ (s.toList == [103, 103]) = false := kn_rules s 2 hk
  clear hk
  have hq : q ≤ n := by rw [← hlen.out]; exact tgt_le hpl.out (by omega) ht
  have hv : min ((p : Int) + (N : Int)) (en l (bg l p) : Int) = (q : Int) := by
    obtain ⟨h1, h2⟩ := opt_some (show opt (decide (p ≠ en l (bg l p))) (min (p + N) (en l (bg l p))) = some q from ht)
    omega
  have hne : ((q : Int) == (p : Int)) = false := by
    obtain ⟨h1, h2⟩ := opt_some (show opt (decide (p ≠ en l (bg l p))) (min (p + N) (en l (bg l p))) = some q from ht)
    have h3 := of_decide_eq_true h1
    simp
    omega
  clear ht
  have T1 := Hid.mk' (fun x => Hid.mk' (HT.out.keep (bAlloc (Below.refl _ _) x)))
  have B1 := Hid.mk' (fun x => bAlloc (Below.refl w.heap.size w) x)
  go_enter Try.func27, Try.ntmps27
  go_wp2_with fail
  refine (rstart_is hp (T1.out _)).mono ?_
  rintro e w9 ⟨rfl, hw⟩
  have hqq := hw.symm
  subst hqq
  clear hw
  go_wp2_with fail
  refine (rend_is hp (T1.out _)).mono ?_
  rintro e w9 ⟨rfl, hw⟩
  have hqq := hw.symm
  subst hqq
  clear hw
  go_wp2_with fail
  refine (rcolumn_is hq (T1.out _)).mono ?_
  rintro e w9 ⟨rfl, hw⟩
  have hqq := hw.symm
  subst hqq
  clear hw
  go_wp2
  exact bodyPost_ret (v := .tuple #[.agg #[.int .i64 p, .int .i64 q, .int .i64 1], .int .i64 ((q - bg l q : Nat) : Int), .int .i64 0]) (by simp [results, Try.results27, go_sem]) rfl ⟨rfl, bAlloc (Below.refl _ _) _⟩

set_option maxHeartbeats 2000000 in
theorem along_2n (ao : Option Addr) (n c p N : Nat) (l : List UInt8) (s : ByteArray) (w : World) (HT : Hid (Tx w ao n c l)) (hp : p ≤ n) (hN1 : (1 : Int) ≤ (N : Int)) (hN9 : (N : Int) ≤ 9999) (hk : kn s = 2) (ht : tgt l p 0 N false 2 = none) :
    Calls Try.prog 27 #[.slice ao n c, .int .i64 p, .int .i64 N, .int .i64 (nl (l.take p)), .string s] w fun e w' => e = .returned (.tuple #[.agg #[.int .i64 0, .int .i64 0, .int .i64 0], .int .i64 0, .int .i64 70]) ∧ Below w.heap.size w w' := by
  have _hu := And.intro hN1 hN9
  have hbig : (n : Int) ≤ 140737488355328 := by have := HT.out.big; omega
  have hlen := Hid.mk' HT.out.len
  have hpn : (p : Int) ≤ (n : Int) := by omega
  have hp0 : (0 : Int) ≤ (p : Int) := by omega
  have hpl : Hid (p ≤ l.length) := (by rw [HT.out.len]; exact hp)
  have hbp : (bg l p : Int) ≤ (p : Int) := by have := bg_le l p; omega
  have hb0 : (0 : Int) ≤ (bg l p : Int) := by omega
  have hep : (p : Int) ≤ (en l (bg l p) : Int) := by have := place_en hpl.out; omega
  have hen : (en l (bg l p) : Int) ≤ (n : Int) := by have := en_le (t := l) (s := bg l p) (by have := bg_le l p; have := hpl.out; omega); have := hlen.out; omega
  obtain ⟨q1, q2, q3, q4, q5, q6, q7, q8, q9, q10, q11, q12, q13, q14, q15, q16⟩ : (s.toList == [104]) = false ∧ (s.toList == [108]) = true ∧ (s.toList == [32]) = false ∧ (s.toList == [8]) = false ∧ (s.toList == [106]) = false ∧ (s.toList == [107]) = false ∧ (s.toList == [43]) = false ∧ (s.toList == [13]) = false ∧ (s.toList == [45]) = false ∧ (s.toList == [95]) = false ∧ (s.toList == [48]) = false ∧ (s.toList == [94]) = false ∧ (s.toList == [36]) = false ∧ (s.toList == [124]) = false ∧ (s.toList == [71]) = false ∧ (s.toList == [103, 103]) = false := kn_rules s 2 hk
  clear hk
  have hv : min ((p : Int) + (N : Int)) (en l (bg l p) : Int) = (p : Int) := by
    have h1 := of_decide_eq_false (opt_none (show opt (decide (p ≠ en l (bg l p))) (min (p + N) (en l (bg l p))) = none from ht))
    have h2 : p = en l (bg l p) := by simpa using h1
    omega
  clear ht
  have T1 := Hid.mk' (fun x => Hid.mk' (HT.out.keep (bAlloc (Below.refl _ _) x)))
  have B1 := Hid.mk' (fun x => bAlloc (Below.refl w.heap.size w) x)
  go_enter Try.func27, Try.ntmps27
  go_wp2_with fail
  refine (rstart_is hp (T1.out _)).mono ?_
  rintro e w9 ⟨rfl, hw⟩
  have hqq := hw.symm
  subst hqq
  clear hw
  go_wp2_with fail
  refine (rend_is hp (T1.out _)).mono ?_
  rintro e w9 ⟨rfl, hw⟩
  have hqq := hw.symm
  subst hqq
  clear hw
  go_wp2
  exact bodyPost_ret (v := .tuple #[.agg #[.int .i64 0, .int .i64 0, .int .i64 0], .int .i64 0, .int .i64 70]) (by simp [results, Try.results27, go_sem]) rfl ⟨rfl, bAlloc (Below.refl _ _) _⟩

set_option maxHeartbeats 2000000 in
theorem along_3y (ao : Option Addr) (n c p N : Nat) (l : List UInt8) (s : ByteArray) (w : World) (HT : Hid (Tx w ao n c l)) (hp : p ≤ n) (hN1 : (1 : Int) ≤ (N : Int)) (hN9 : (N : Int) ≤ 9999) (hk : kn s = 3) (q : Nat) (ht : tgt l p 0 N false 3 = some q) :
    Calls Try.prog 27 #[.slice ao n c, .int .i64 p, .int .i64 N, .int .i64 (nl (l.take p)), .string s] w fun e w' => e = .returned (.tuple #[.agg #[.int .i64 p, .int .i64 q, .int .i64 1], .int .i64 ((q - bg l q : Nat) : Int), .int .i64 0]) ∧ Below w.heap.size w w' := by
  have _hu := And.intro hN1 hN9
  have hbig : (n : Int) ≤ 140737488355328 := by have := HT.out.big; omega
  have hlen := Hid.mk' HT.out.len
  have hpn : (p : Int) ≤ (n : Int) := by omega
  have hp0 : (0 : Int) ≤ (p : Int) := by omega
  have hpl : Hid (p ≤ l.length) := (by rw [HT.out.len]; exact hp)
  have hbp : (bg l p : Int) ≤ (p : Int) := by have := bg_le l p; omega
  have hb0 : (0 : Int) ≤ (bg l p : Int) := by omega
  have hep : (p : Int) ≤ (en l (bg l p) : Int) := by have := place_en hpl.out; omega
  have hen : (en l (bg l p) : Int) ≤ (n : Int) := by have := en_le (t := l) (s := bg l p) (by have := bg_le l p; have := hpl.out; omega); have := hlen.out; omega
  obtain ⟨q1, q2, q3, q4, q5, q6, q7, q8, q9, q10, q11, q12, q13, q14, q15, q16⟩ : (s.toList == [104]) = false ∧ (s.toList == [108]) = false ∧ (s.toList == [32]) = true ∧ (s.toList == [8]) = false ∧ (s.toList == [106]) = false ∧ (s.toList == [107]) = false ∧ (s.toList == [43]) = false ∧ (s.toList == [13]) = false ∧ (s.toList == [45]) = false ∧ (s.toList == [95]) = false ∧ (s.toList == [48]) = false ∧ (s.toList == [94]) = false ∧ (s.toList == [36]) = false ∧ (s.toList == [124]) = false ∧ (s.toList == [71]) = false ∧ (s.toList == [103, 103]) = false := kn_rules s 3 hk
  clear hk
  have hq : q ≤ n := by rw [← hlen.out]; exact tgt_le hpl.out (by omega) ht
  have hne : ((q : Int) == (p : Int)) = false := by
    obtain ⟨h1, h2⟩ := opt_some (show opt (decide (onwP l p N ≠ p)) (onwP l p N) = some q from ht)
    have h3 := of_decide_eq_true h1
    simp
    omega
  have HV : Hid (onwP l p N = q) := (opt_some (show opt (decide (onwP l p N ≠ p)) (onwP l p N) = some q from ht)).2
  have hqp : Hid (q ≠ p) := by
    have h3 := of_decide_eq_true (opt_some (show opt (decide (onwP l p N ≠ p)) (onwP l p N) = some q from ht)).1
    unfold Hid; rw [← HV.out]; exact h3
  clear ht
  have T1 := Hid.mk' (fun x => Hid.mk' (HT.out.keep (bAlloc (Below.refl _ _) x)))
  have B1 := Hid.mk' (fun x => bAlloc (Below.refl w.heap.size w) x)
  go_enter Try.func27, Try.ntmps27
  go_wp2_with fail
  refine (rstart_is hp (T1.out _)).mono ?_
  rintro e w9 ⟨rfl, hw⟩
  have hqq := hw.symm
  subst hqq
  clear hw
  go_wp2_with fail
  refine (rend_is hp (T1.out _)).mono ?_
  rintro e w9 ⟨rfl, hw⟩
  have hqq := hw.symm
  subst hqq
  clear hw
  go_wp2_with fail
  refine (rright_any ao n c p N l _ hp hN9 (T1.out _)).mono ?_
  rintro e w2 ⟨v, Z, rfl, hO, hZ, hZN, hb2⟩
  obtain ⟨hc2, hf2⟩ := bcell hb2
  have hz : w.heap.size < w2.heap.size := by have := hb2.size; simp at this; omega
  have B2 := Hid.mk' (bT (B1.out _) hb2)
  have T2 := Hid.mk' (HT.out.keep B2.out)
  clear hb2
  obtain ⟨Y, x, rfl⟩ : ∃ Y x, Z = Y ++ [x] := by
    rcases List.eq_nil_or_concat Z with h | ⟨Y, x, h⟩
    · exfalso; rw [h, lst_nil, HV.out] at hZ; exact hqp.out hZ
    · exact ⟨Y, x, by simpa using h⟩
  rw [lst_snoc, HV.out] at hZ
  subst hZ
  obtain ⟨ax, cx, hv⟩ := own_shape hO
  have hl : (Y ++ [q]).length = Y.length + 1 := by simp
  rw [hl] at hv hO hZN
  subst hv
  obtain ⟨g, hg, c1⟩ : ∃ g, ax = some ⟨g, 0, none⟩ ∧ w2.cell? ⟨g, Y.length, none⟩ = some (.int .i64 q) := by
    rcases hO.2 with ⟨h0, h1⟩ | ⟨g, cap, cur, h0, _⟩
    · simp at h1
    · simp only [Value.slice.injEq] at h0
      obtain ⟨h0, -, rfl⟩ := h0
      refine ⟨g, h0, ?_⟩
      subst h0
      have := hO.cellAt Y.length (by simp)
      rw [this, iv_snoc, List.getElem?_append_right (by rw [iv_length]; exact Nat.le_refl _), iv_length]
      simp
  subst hg
  clear hO hl
  have hy0 : (0 : Int) < (Y.length : Int) + 1 := by omega
  have hy1 : (Y.length : Int) + 1 ≤ 10000 := by omega
  go_wp2_with fail
  refine (rcolumn_is hq T2).mono ?_
  rintro e w9 ⟨rfl, hw⟩
  have hqq := hw.symm
  subst hqq
  clear hw
  go_wp2
  exact bodyPost_ret (v := .tuple #[.agg #[.int .i64 p, .int .i64 q, .int .i64 1], .int .i64 ((q - bg l q : Nat) : Int), .int .i64 0]) (by simp [results, Try.results27, go_sem, hc2]) rfl ⟨rfl, bset (bset (bset B2.out _ (Nat.le_refl _)) _ (Nat.le_refl _)) _ (Nat.le_refl _)⟩

set_option maxHeartbeats 2000000 in
theorem along_3n (ao : Option Addr) (n c p N : Nat) (l : List UInt8) (s : ByteArray) (w : World) (HT : Hid (Tx w ao n c l)) (hp : p ≤ n) (hN1 : (1 : Int) ≤ (N : Int)) (hN9 : (N : Int) ≤ 9999) (hk : kn s = 3) (ht : tgt l p 0 N false 3 = none) :
    Calls Try.prog 27 #[.slice ao n c, .int .i64 p, .int .i64 N, .int .i64 (nl (l.take p)), .string s] w fun e w' => e = .returned (.tuple #[.agg #[.int .i64 0, .int .i64 0, .int .i64 0], .int .i64 0, .int .i64 70]) ∧ Below w.heap.size w w' := by
  have _hu := And.intro hN1 hN9
  have hbig : (n : Int) ≤ 140737488355328 := by have := HT.out.big; omega
  have hlen := Hid.mk' HT.out.len
  have hpn : (p : Int) ≤ (n : Int) := by omega
  have hp0 : (0 : Int) ≤ (p : Int) := by omega
  have hpl : Hid (p ≤ l.length) := (by rw [HT.out.len]; exact hp)
  have hbp : (bg l p : Int) ≤ (p : Int) := by have := bg_le l p; omega
  have hb0 : (0 : Int) ≤ (bg l p : Int) := by omega
  have hep : (p : Int) ≤ (en l (bg l p) : Int) := by have := place_en hpl.out; omega
  have hen : (en l (bg l p) : Int) ≤ (n : Int) := by have := en_le (t := l) (s := bg l p) (by have := bg_le l p; have := hpl.out; omega); have := hlen.out; omega
  obtain ⟨q1, q2, q3, q4, q5, q6, q7, q8, q9, q10, q11, q12, q13, q14, q15, q16⟩ : (s.toList == [104]) = false ∧ (s.toList == [108]) = false ∧ (s.toList == [32]) = true ∧ (s.toList == [8]) = false ∧ (s.toList == [106]) = false ∧ (s.toList == [107]) = false ∧ (s.toList == [43]) = false ∧ (s.toList == [13]) = false ∧ (s.toList == [45]) = false ∧ (s.toList == [95]) = false ∧ (s.toList == [48]) = false ∧ (s.toList == [94]) = false ∧ (s.toList == [36]) = false ∧ (s.toList == [124]) = false ∧ (s.toList == [71]) = false ∧ (s.toList == [103, 103]) = false := kn_rules s 3 hk
  clear hk
  have HV : Hid (onwP l p N = p) := by
    have h1 := of_decide_eq_false (opt_none (show opt (decide (onwP l p N ≠ p)) (onwP l p N) = none from ht))
    unfold Hid; simpa using h1
  clear ht
  have T1 := Hid.mk' (fun x => Hid.mk' (HT.out.keep (bAlloc (Below.refl _ _) x)))
  have B1 := Hid.mk' (fun x => bAlloc (Below.refl w.heap.size w) x)
  go_enter Try.func27, Try.ntmps27
  go_wp2_with fail
  refine (rstart_is hp (T1.out _)).mono ?_
  rintro e w9 ⟨rfl, hw⟩
  have hqq := hw.symm
  subst hqq
  clear hw
  go_wp2_with fail
  refine (rend_is hp (T1.out _)).mono ?_
  rintro e w9 ⟨rfl, hw⟩
  have hqq := hw.symm
  subst hqq
  clear hw
  go_wp2_with fail
  refine (rright_any ao n c p N l _ hp hN9 (T1.out _)).mono ?_
  rintro e w2 ⟨v, Z, rfl, hO, hZ, hZN, hb2⟩
  obtain ⟨hc2, hf2⟩ := bcell hb2
  have hz : w.heap.size < w2.heap.size := by have := hb2.size; simp at this; omega
  have B2 := Hid.mk' (bT (B1.out _) hb2)
  have T2 := Hid.mk' (HT.out.keep B2.out)
  clear hb2
  rcases List.eq_nil_or_concat Z with h | ⟨Y, x, h⟩
  · subst h
    obtain ⟨ax, cx, hv⟩ := own_shape hO
    subst hv
    clear hO hZ hZN
    go_wp2
    exact bodyPost_ret (v := .tuple #[.agg #[.int .i64 0, .int .i64 0, .int .i64 0], .int .i64 0, .int .i64 70]) (by simp [results, Try.results27, go_sem, hc2]) rfl ⟨rfl, bset (bset (bset B2.out _ (Nat.le_refl _)) _ (Nat.le_refl _)) _ (Nat.le_refl _)⟩
  obtain rfl : Z = Y ++ [x] := by simpa using h
  clear h
  rw [lst_snoc, HV.out] at hZ
  subst hZ
  obtain ⟨ax, cx, hv⟩ := own_shape hO
  have hl : (Y ++ [p]).length = Y.length + 1 := by simp
  rw [hl] at hv hO hZN
  subst hv
  obtain ⟨g, hg, c1⟩ : ∃ g, ax = some ⟨g, 0, none⟩ ∧ w2.cell? ⟨g, Y.length, none⟩ = some (.int .i64 p) := by
    rcases hO.2 with ⟨h0, h1⟩ | ⟨g, cap, cur, h0, _⟩
    · simp at h1
    · simp only [Value.slice.injEq] at h0
      obtain ⟨h0, -, rfl⟩ := h0
      refine ⟨g, h0, ?_⟩
      subst h0
      have := hO.cellAt Y.length (by simp)
      rw [this, iv_snoc, List.getElem?_append_right (by rw [iv_length]; exact Nat.le_refl _), iv_length]
      simp
  subst hg
  clear hO hl
  have hy0 : (0 : Int) < (Y.length : Int) + 1 := by omega
  have hy1 : (Y.length : Int) + 1 ≤ 10000 := by omega
  go_wp2
  exact bodyPost_ret (v := .tuple #[.agg #[.int .i64 0, .int .i64 0, .int .i64 0], .int .i64 0, .int .i64 70]) (by simp [results, Try.results27, go_sem, hc2]) rfl ⟨rfl, bset (bset (bset B2.out _ (Nat.le_refl _)) _ (Nat.le_refl _)) _ (Nat.le_refl _)⟩

set_option maxHeartbeats 2000000 in
theorem along_4y (ao : Option Addr) (n c p N : Nat) (l : List UInt8) (s : ByteArray) (w : World) (HT : Hid (Tx w ao n c l)) (hp : p ≤ n) (hN1 : (1 : Int) ≤ (N : Int)) (hN9 : (N : Int) ≤ 9999) (hk : kn s = 4) (q : Nat) (ht : tgt l p 0 N false 4 = some q) :
    Calls Try.prog 27 #[.slice ao n c, .int .i64 p, .int .i64 N, .int .i64 (nl (l.take p)), .string s] w fun e w' => e = .returned (.tuple #[.agg #[.int .i64 p, .int .i64 q, .int .i64 1], .int .i64 ((q - bg l q : Nat) : Int), .int .i64 0]) ∧ Below w.heap.size w w' := by
  have _hu := And.intro hN1 hN9
  have hbig : (n : Int) ≤ 140737488355328 := by have := HT.out.big; omega
  have hlen := Hid.mk' HT.out.len
  have hpn : (p : Int) ≤ (n : Int) := by omega
  have hp0 : (0 : Int) ≤ (p : Int) := by omega
  have hpl : Hid (p ≤ l.length) := (by rw [HT.out.len]; exact hp)
  have hbp : (bg l p : Int) ≤ (p : Int) := by have := bg_le l p; omega
  have hb0 : (0 : Int) ≤ (bg l p : Int) := by omega
  have hep : (p : Int) ≤ (en l (bg l p) : Int) := by have := place_en hpl.out; omega
  have hen : (en l (bg l p) : Int) ≤ (n : Int) := by have := en_le (t := l) (s := bg l p) (by have := bg_le l p; have := hpl.out; omega); have := hlen.out; omega
  obtain ⟨q1, q2, q3, q4, q5, q6, q7, q8, q9, q10, q11, q12, q13, q14, q15, q16⟩ : (s.toList == [104]) = false ∧ (s.toList == [108]) = false ∧ (s.toList == [32]) = false ∧ (s.toList == [8]) = true ∧ (s.toList == [106]) = false ∧ (s.toList == [107]) = false ∧ (s.toList == [43]) = false ∧ (s.toList == [13]) = false ∧ (s.toList == [45]) = false ∧ (s.toList == [95]) = false ∧ (s.toList == [48]) = false ∧ (s.toList == [94]) = false ∧ (s.toList == [36]) = false ∧ (s.toList == [124]) = false ∧ (s.toList == [71]) = false ∧ (s.toList == [103, 103]) = false := kn_rules s 4 hk
  clear hk
  have hq : q ≤ n := by rw [← hlen.out]; exact tgt_le hpl.out (by omega) ht
  have hne : ((q : Int) == (p : Int)) = false := by
    obtain ⟨h1, h2⟩ := opt_some (show opt (decide (bkwP l p N ≠ p)) (bkwP l p N) = some q from ht)
    have h3 := of_decide_eq_true h1
    simp
    omega
  have HV : Hid (bkwP l p N = q) := (opt_some (show opt (decide (bkwP l p N ≠ p)) (bkwP l p N) = some q from ht)).2
  have hqp : Hid (q ≠ p) := by
    have h3 := of_decide_eq_true (opt_some (show opt (decide (bkwP l p N ≠ p)) (bkwP l p N) = some q from ht)).1
    unfold Hid; rw [← HV.out]; exact h3
  clear ht
  have T1 := Hid.mk' (fun x => Hid.mk' (HT.out.keep (bAlloc (Below.refl _ _) x)))
  have B1 := Hid.mk' (fun x => bAlloc (Below.refl w.heap.size w) x)
  go_enter Try.func27, Try.ntmps27
  go_wp2_with fail
  refine (rstart_is hp (T1.out _)).mono ?_
  rintro e w9 ⟨rfl, hw⟩
  have hqq := hw.symm
  subst hqq
  clear hw
  go_wp2_with fail
  refine (rend_is hp (T1.out _)).mono ?_
  rintro e w9 ⟨rfl, hw⟩
  have hqq := hw.symm
  subst hqq
  clear hw
  go_wp2_with fail
  refine (rleft_any ao n c p N l _ hp hN9 (T1.out _)).mono ?_
  rintro e w2 ⟨v, Z, rfl, hO, hZ, hZN, hb2⟩
  obtain ⟨hc2, hf2⟩ := bcell hb2
  have hz : w.heap.size < w2.heap.size := by have := hb2.size; simp at this; omega
  have B2 := Hid.mk' (bT (B1.out _) hb2)
  have T2 := Hid.mk' (HT.out.keep B2.out)
  clear hb2
  obtain ⟨Y, x, rfl⟩ : ∃ Y x, Z = Y ++ [x] := by
    rcases List.eq_nil_or_concat Z with h | ⟨Y, x, h⟩
    · exfalso; rw [h, lst_nil, HV.out] at hZ; exact hqp.out hZ
    · exact ⟨Y, x, by simpa using h⟩
  rw [lst_snoc, HV.out] at hZ
  subst hZ
  obtain ⟨ax, cx, hv⟩ := own_shape hO
  have hl : (Y ++ [q]).length = Y.length + 1 := by simp
  rw [hl] at hv hO hZN
  subst hv
  obtain ⟨g, hg, c1⟩ : ∃ g, ax = some ⟨g, 0, none⟩ ∧ w2.cell? ⟨g, Y.length, none⟩ = some (.int .i64 q) := by
    rcases hO.2 with ⟨h0, h1⟩ | ⟨g, cap, cur, h0, _⟩
    · simp at h1
    · simp only [Value.slice.injEq] at h0
      obtain ⟨h0, -, rfl⟩ := h0
      refine ⟨g, h0, ?_⟩
      subst h0
      have := hO.cellAt Y.length (by simp)
      rw [this, iv_snoc, List.getElem?_append_right (by rw [iv_length]; exact Nat.le_refl _), iv_length]
      simp
  subst hg
  clear hO hl
  have hy0 : (0 : Int) < (Y.length : Int) + 1 := by omega
  have hy1 : (Y.length : Int) + 1 ≤ 10000 := by omega
  go_wp2_with fail
  refine (rcolumn_is hq T2).mono ?_
  rintro e w9 ⟨rfl, hw⟩
  have hqq := hw.symm
  subst hqq
  clear hw
  go_wp2
  exact bodyPost_ret (v := .tuple #[.agg #[.int .i64 p, .int .i64 q, .int .i64 1], .int .i64 ((q - bg l q : Nat) : Int), .int .i64 0]) (by simp [results, Try.results27, go_sem, hc2]) rfl ⟨rfl, bset (bset (bset B2.out _ (Nat.le_refl _)) _ (Nat.le_refl _)) _ (Nat.le_refl _)⟩

set_option maxHeartbeats 2000000 in
theorem along_4n (ao : Option Addr) (n c p N : Nat) (l : List UInt8) (s : ByteArray) (w : World) (HT : Hid (Tx w ao n c l)) (hp : p ≤ n) (hN1 : (1 : Int) ≤ (N : Int)) (hN9 : (N : Int) ≤ 9999) (hk : kn s = 4) (ht : tgt l p 0 N false 4 = none) :
    Calls Try.prog 27 #[.slice ao n c, .int .i64 p, .int .i64 N, .int .i64 (nl (l.take p)), .string s] w fun e w' => e = .returned (.tuple #[.agg #[.int .i64 0, .int .i64 0, .int .i64 0], .int .i64 0, .int .i64 70]) ∧ Below w.heap.size w w' := by
  have _hu := And.intro hN1 hN9
  have hbig : (n : Int) ≤ 140737488355328 := by have := HT.out.big; omega
  have hlen := Hid.mk' HT.out.len
  have hpn : (p : Int) ≤ (n : Int) := by omega
  have hp0 : (0 : Int) ≤ (p : Int) := by omega
  have hpl : Hid (p ≤ l.length) := (by rw [HT.out.len]; exact hp)
  have hbp : (bg l p : Int) ≤ (p : Int) := by have := bg_le l p; omega
  have hb0 : (0 : Int) ≤ (bg l p : Int) := by omega
  have hep : (p : Int) ≤ (en l (bg l p) : Int) := by have := place_en hpl.out; omega
  have hen : (en l (bg l p) : Int) ≤ (n : Int) := by have := en_le (t := l) (s := bg l p) (by have := bg_le l p; have := hpl.out; omega); have := hlen.out; omega
  obtain ⟨q1, q2, q3, q4, q5, q6, q7, q8, q9, q10, q11, q12, q13, q14, q15, q16⟩ : (s.toList == [104]) = false ∧ (s.toList == [108]) = false ∧ (s.toList == [32]) = false ∧ (s.toList == [8]) = true ∧ (s.toList == [106]) = false ∧ (s.toList == [107]) = false ∧ (s.toList == [43]) = false ∧ (s.toList == [13]) = false ∧ (s.toList == [45]) = false ∧ (s.toList == [95]) = false ∧ (s.toList == [48]) = false ∧ (s.toList == [94]) = false ∧ (s.toList == [36]) = false ∧ (s.toList == [124]) = false ∧ (s.toList == [71]) = false ∧ (s.toList == [103, 103]) = false := kn_rules s 4 hk
  clear hk
  have HV : Hid (bkwP l p N = p) := by
    have h1 := of_decide_eq_false (opt_none (show opt (decide (bkwP l p N ≠ p)) (bkwP l p N) = none from ht))
    unfold Hid; simpa using h1
  clear ht
  have T1 := Hid.mk' (fun x => Hid.mk' (HT.out.keep (bAlloc (Below.refl _ _) x)))
  have B1 := Hid.mk' (fun x => bAlloc (Below.refl w.heap.size w) x)
  go_enter Try.func27, Try.ntmps27
  go_wp2_with fail
  refine (rstart_is hp (T1.out _)).mono ?_
  rintro e w9 ⟨rfl, hw⟩
  have hqq := hw.symm
  subst hqq
  clear hw
  go_wp2_with fail
  refine (rend_is hp (T1.out _)).mono ?_
  rintro e w9 ⟨rfl, hw⟩
  have hqq := hw.symm
  subst hqq
  clear hw
  go_wp2_with fail
  refine (rleft_any ao n c p N l _ hp hN9 (T1.out _)).mono ?_
  rintro e w2 ⟨v, Z, rfl, hO, hZ, hZN, hb2⟩
  obtain ⟨hc2, hf2⟩ := bcell hb2
  have hz : w.heap.size < w2.heap.size := by have := hb2.size; simp at this; omega
  have B2 := Hid.mk' (bT (B1.out _) hb2)
  have T2 := Hid.mk' (HT.out.keep B2.out)
  clear hb2
  rcases List.eq_nil_or_concat Z with h | ⟨Y, x, h⟩
  · subst h
    obtain ⟨ax, cx, hv⟩ := own_shape hO
    subst hv
    clear hO hZ hZN
    go_wp2
    exact bodyPost_ret (v := .tuple #[.agg #[.int .i64 0, .int .i64 0, .int .i64 0], .int .i64 0, .int .i64 70]) (by simp [results, Try.results27, go_sem, hc2]) rfl ⟨rfl, bset (bset (bset B2.out _ (Nat.le_refl _)) _ (Nat.le_refl _)) _ (Nat.le_refl _)⟩
  obtain rfl : Z = Y ++ [x] := by simpa using h
  clear h
  rw [lst_snoc, HV.out] at hZ
  subst hZ
  obtain ⟨ax, cx, hv⟩ := own_shape hO
  have hl : (Y ++ [p]).length = Y.length + 1 := by simp
  rw [hl] at hv hO hZN
  subst hv
  obtain ⟨g, hg, c1⟩ : ∃ g, ax = some ⟨g, 0, none⟩ ∧ w2.cell? ⟨g, Y.length, none⟩ = some (.int .i64 p) := by
    rcases hO.2 with ⟨h0, h1⟩ | ⟨g, cap, cur, h0, _⟩
    · simp at h1
    · simp only [Value.slice.injEq] at h0
      obtain ⟨h0, -, rfl⟩ := h0
      refine ⟨g, h0, ?_⟩
      subst h0
      have := hO.cellAt Y.length (by simp)
      rw [this, iv_snoc, List.getElem?_append_right (by rw [iv_length]; exact Nat.le_refl _), iv_length]
      simp
  subst hg
  clear hO hl
  have hy0 : (0 : Int) < (Y.length : Int) + 1 := by omega
  have hy1 : (Y.length : Int) + 1 ≤ 10000 := by omega
  go_wp2
  exact bodyPost_ret (v := .tuple #[.agg #[.int .i64 0, .int .i64 0, .int .i64 0], .int .i64 0, .int .i64 70]) (by simp [results, Try.results27, go_sem, hc2]) rfl ⟨rfl, bset (bset (bset B2.out _ (Nat.le_refl _)) _ (Nat.le_refl _)) _ (Nat.le_refl _)⟩

set_option maxHeartbeats 2000000 in
theorem along_11y (ao : Option Addr) (n c p N : Nat) (l : List UInt8) (s : ByteArray) (w : World) (HT : Hid (Tx w ao n c l)) (hp : p ≤ n) (hN1 : (1 : Int) ≤ (N : Int)) (hN9 : (N : Int) ≤ 9999) (hk : kn s = 11)  :
    Calls Try.prog 27 #[.slice ao n c, .int .i64 p, .int .i64 N, .int .i64 (nl (l.take p)), .string s] w fun e w' => e = .returned (.tuple #[.agg #[.int .i64 p, .int .i64 (bg l p : Int), .int .i64 1], .int .i64 0, .int .i64 0]) ∧ Below w.heap.size w w' := by
  have _hu := And.intro hN1 hN9
  have hbig : (n : Int) ≤ 140737488355328 := by have := HT.out.big; omega
  have hlen := Hid.mk' HT.out.len
  have hpn : (p : Int) ≤ (n : Int) := by omega
  have hp0 : (0 : Int) ≤ (p : Int) := by omega
  have hpl : Hid (p ≤ l.length) := (by rw [HT.out.len]; exact hp)
  have hbp : (bg l p : Int) ≤ (p : Int) := by have := bg_le l p; omega
  have hb0 : (0 : Int) ≤ (bg l p : Int) := by omega
  have hep : (p : Int) ≤ (en l (bg l p) : Int) := by have := place_en hpl.out; omega
  have hen : (en l (bg l p) : Int) ≤ (n : Int) := by have := en_le (t := l) (s := bg l p) (by have := bg_le l p; have := hpl.out; omega); have := hlen.out; omega
  obtain ⟨q1, q2, q3, q4, q5, q6, q7, q8, q9, q10, q11, q12, q13, q14, q15, q16⟩ : (s.toList == [104]) = false ∧ (s.toList == [108]) = false ∧ (s.toList == [32]) = false ∧ (s.toList == [8]) = false ∧ (s.toList == [106]) = false ∧ (s.toList == [107]) = false ∧ (s.toList == [43]) = false ∧ (s.toList == [13]) = false ∧ (s.toList == [45]) = false ∧ (s.toList == [95]) = false ∧ (s.toList == [48]) = true ∧ (s.toList == [94]) = false ∧ (s.toList == [36]) = false ∧ (s.toList == [124]) = false ∧ (s.toList == [71]) = false ∧ (s.toList == [103, 103]) = false := kn_rules s 11 hk
  clear hk
  have T1 := Hid.mk' (fun x => Hid.mk' (HT.out.keep (bAlloc (Below.refl _ _) x)))
  have B1 := Hid.mk' (fun x => bAlloc (Below.refl w.heap.size w) x)
  go_enter Try.func27, Try.ntmps27
  go_wp2_with fail
  refine (rstart_is hp (T1.out _)).mono ?_
  rintro e w9 ⟨rfl, hw⟩
  have hqq := hw.symm
  subst hqq
  clear hw
  go_wp2_with fail
  refine (rend_is hp (T1.out _)).mono ?_
  rintro e w9 ⟨rfl, hw⟩
  have hqq := hw.symm
  subst hqq
  clear hw
  go_wp2
  exact bodyPost_ret (v := .tuple #[.agg #[.int .i64 p, .int .i64 (bg l p : Int), .int .i64 1], .int .i64 0, .int .i64 0]) (by simp [results, Try.results27, go_sem]) rfl ⟨rfl, bAlloc (Below.refl _ _) _⟩

set_option maxHeartbeats 2000000 in
theorem along_12y (ao : Option Addr) (n c p N : Nat) (l : List UInt8) (s : ByteArray) (w : World) (HT : Hid (Tx w ao n c l)) (hp : p ≤ n) (hN1 : (1 : Int) ≤ (N : Int)) (hN9 : (N : Int) ≤ 9999) (hk : kn s = 12) (q : Nat) (ht : tgt l p 0 N false 12 = some q) :
    Calls Try.prog 27 #[.slice ao n c, .int .i64 p, .int .i64 N, .int .i64 (nl (l.take p)), .string s] w fun e w' => e = .returned (.tuple #[.agg #[.int .i64 p, .int .i64 q, .int .i64 1], .int .i64 ((q - bg l q : Nat) : Int), .int .i64 0]) ∧ Below w.heap.size w w' := by
  have _hu := And.intro hN1 hN9
  have hbig : (n : Int) ≤ 140737488355328 := by have := HT.out.big; omega
  have hlen := Hid.mk' HT.out.len
  have hpn : (p : Int) ≤ (n : Int) := by omega
  have hp0 : (0 : Int) ≤ (p : Int) := by omega
  have hpl : Hid (p ≤ l.length) := (by rw [HT.out.len]; exact hp)
  have hbp : (bg l p : Int) ≤ (p : Int) := by have := bg_le l p; omega
  have hb0 : (0 : Int) ≤ (bg l p : Int) := by omega
  have hep : (p : Int) ≤ (en l (bg l p) : Int) := by have := place_en hpl.out; omega
  have hen : (en l (bg l p) : Int) ≤ (n : Int) := by have := en_le (t := l) (s := bg l p) (by have := bg_le l p; have := hpl.out; omega); have := hlen.out; omega
  obtain ⟨q1, q2, q3, q4, q5, q6, q7, q8, q9, q10, q11, q12, q13, q14, q15, q16⟩ : (s.toList == [104]) = false ∧ (s.toList == [108]) = false ∧ (s.toList == [32]) = false ∧ (s.toList == [8]) = false ∧ (s.toList == [106]) = false ∧ (s.toList == [107]) = false ∧ (s.toList == [43]) = false ∧ (s.toList == [13]) = false ∧ (s.toList == [45]) = false ∧ (s.toList == [95]) = false ∧ (s.toList == [48]) = false ∧ (s.toList == [94]) = true ∧ (s.toList == [36]) = false ∧ (s.toList == [124]) = false ∧ (s.toList == [71]) = false ∧ (s.toList == [103, 103]) = false := kn_rules s 12 hk
  clear hk
  have hq : q ≤ n := by rw [← hlen.out]; exact tgt_le hpl.out (by omega) ht
  have E := Hid.mk' (show pr (aFirst l (nl (l.take p) : Nat)) = .returned (.tuple #[.int .i64 q, .int .i64 0]) by rw [pr_first, show lnFirst l (nl (l.take p) : Nat) = some q from ht]; rfl)
  clear ht
  have hnl : (nl (l.take p) : Int) ≤ (n : Int) := by have := nl_take_le l p; have := nl_le l; have := hlen.out; omega
  have T1 := Hid.mk' (fun x => Hid.mk' (HT.out.keep (bAlloc (Below.refl _ _) x)))
  have B1 := Hid.mk' (fun x => bAlloc (Below.refl w.heap.size w) x)
  go_enter Try.func27, Try.ntmps27
  go_wp2_with fail
  refine (rstart_is hp (T1.out _)).mono ?_
  rintro e w9 ⟨rfl, hw⟩
  have hqq := hw.symm
  subst hqq
  clear hw
  go_wp2_with fail
  refine (rend_is hp (T1.out _)).mono ?_
  rintro e w9 ⟨rfl, hw⟩
  have hqq := hw.symm
  subst hqq
  clear hw
  go_wp2_with fail
  refine (refFirst_any ao n c _ l _ (by omega) (T1.out _)).mono ?_
  rintro e w9 ⟨rfl, hw⟩
  have hqq := hw.symm
  subst hqq
  clear hw
  rw [E.out]
  go_wp2_with fail
  refine (rcolumn_is hq (T1.out _)).mono ?_
  rintro e w9 ⟨rfl, hw⟩
  have hqq := hw.symm
  subst hqq
  clear hw
  go_wp2
  exact bodyPost_ret (v := .tuple #[.agg #[.int .i64 p, .int .i64 q, .int .i64 1], .int .i64 ((q - bg l q : Nat) : Int), .int .i64 0]) (by simp [results, Try.results27, go_sem]) rfl ⟨rfl, bAlloc (Below.refl _ _) _⟩
end Go.Proofs.Ytbkhbnmihnomaaa
