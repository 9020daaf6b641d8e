/- The reference's Move, key by key. -/
import Derived.Test.YtbkhbnmihnomaaaRm0
namespace Go.Proofs.Ytbkhbnmihnomaaa
open Go.RowKit

set_option maxRecDepth 10000 in
set_option maxHeartbeats 2000000 in
theorem rmove_1y (ao : Option Addr) (n c p N : Nat) (want cnt : Int) (l : List UInt8) (s : ByteArray) (w : World) (hw2 : want ≤ 9223372036854775807) (HT : Hid (Tx w ao n c l)) (hp : p ≤ n) (hw1 : -1 ≤ want) (hc0 : 0 ≤ cnt) (hc9 : cnt ≤ 9999) (hN : max cnt 1 = (N : Int)) (hk : kn s = 1) (q : Nat) (ht : tgt l p want N (decide (cnt = 0)) 1 = some q) :
    Calls Try.prog 9 #[.slice ao n c, .int .i64 p, .int .i64 want, .int .i64 cnt, .string s] w fun e w' => e = .returned (.tuple #[.agg #[.int .i64 p, .int .i64 q, .int .i64 1], .int .i64 ((q - bg l q : Nat) : Int), .int .i64 0]) ∧ Below w.heap.size w w' := by
  have _hu := And.intro hw2 hw1
  have hbig : (n : Int) ≤ 140737488355328 := by have := HT.out.big; omega
  have hlen := Hid.mk' HT.out.len
  have hpn : (p : Int) ≤ (n : Int) := by omega
  have hp0 : (0 : Int) ≤ (p : Int) := by omega
  have hpl : Hid (p ≤ l.length) := (by rw [HT.out.len]; exact hp)
  have hnl : (nl l : Int) ≤ (n : Int) := by have := nl_le l; have := HT.out.len; omega
  have hnl0 : (0 : Int) ≤ (nl l : Int) := by omega
  have hL1 : (nl (l.take p) : Int) ≤ (nl l : Int) := by have := nl_take_le l p; omega
  have hL0 : (0 : Int) ≤ (nl (l.take p) : Int) := by omega
  have hN1 : (1 : Int) ≤ (N : Int) := by omega
  have hN9 : (N : Int) ≤ 9999 := by omega
  have K := Hid.mk' (fun w => known_1 s w hk)
  have HTG : Hid (tgt l p 0 N false 1 = some q) := (by unfold Hid; rw [← ht]; exact tgt_want (by omega) (fun h => by omega))
  clear ht
  have HK := Hid.mk' hk
  obtain ⟨q1, q2, q3, q4, q5, q6, q7, q8, q9, q10, q11, q12, q13, q14, q15, q16⟩ : (s.toList == [104]) = true ∧ (s.toList == [108]) = false ∧ (s.toList == [32]) = false ∧ (s.toList == [8]) = false ∧ (s.toList == [106]) = false ∧ (s.toList == [107]) = false ∧ (s.toList == [43]) = false ∧ (s.toList == [13]) = false ∧ (s.toList == [45]) = false ∧ (s.toList == [95]) = false ∧ (s.toList == [48]) = false ∧ (s.toList == [94]) = false ∧ (s.toList == [36]) = false ∧ (s.toList == [124]) = false ∧ (s.toList == [71]) = false ∧ (s.toList == [103, 103]) = false := kn_rules s 1 hk
  clear hk
  have T1 := Hid.mk' (fun x => Hid.mk' (HT.out.keep (bAlloc (Below.refl _ _) x)))
  have B1 := Hid.mk' (fun x => bAlloc (Below.refl w.heap.size w) x)
  go_enter Try.func9, Try.ntmps9
  go_wp2_with fail
  refine (K.out _).mono ?_
  rintro e w9 ⟨rfl, hw⟩
  have hqq := hw.symm
  subst hqq
  clear hw
  go_wp2_with fail
  refine (rof_is hp (T1.out _)).mono ?_
  rintro e w9 ⟨rfl, hw⟩
  have hqq := hw.symm
  subst hqq
  clear hw
  go_wp2_with fail
  refine (refCount_any ao n c l _ (T1.out _)).mono ?_
  rintro e w9 ⟨rfl, hw⟩
  have hqq := hw.symm
  subst hqq
  clear hw
  go_wp2_with fail
  refine (along_1y ao n c p N l s _ (T1.out _) hp hN1 hN9 HK.out q HTG.out).mono ?_
  rintro e w2 ⟨rfl, hb2⟩
  obtain ⟨hc2, hf2⟩ := bcell hb2
  have hz2 : w.heap.size < w2.heap.size := by have := hb2.size; simp at this; omega
  have B2 := Hid.mk' (bT (B1.out _) hb2)
  clear hb2
  go_wp2
  exact bodyPost_ret (v := .tuple #[.agg #[.int .i64 p, .int .i64 q, .int .i64 1], .int .i64 ((q - bg l q : Nat) : Int), .int .i64 0]) (by simp [results, Try.results9, go_sem, hc2]) rfl ⟨rfl, bset (bset (bset B2.out _ (Nat.le_refl _)) _ (Nat.le_refl _)) _ (Nat.le_refl _)⟩

set_option maxRecDepth 10000 in
set_option maxHeartbeats 2000000 in
theorem rmove_1n (ao : Option Addr) (n c p N : Nat) (want cnt : Int) (l : List UInt8) (s : ByteArray) (w : World) (hw2 : want ≤ 9223372036854775807) (HT : Hid (Tx w ao n c l)) (hp : p ≤ n) (hw1 : -1 ≤ want) (hc0 : 0 ≤ cnt) (hc9 : cnt ≤ 9999) (hN : max cnt 1 = (N : Int)) (hk : kn s = 1) (ht : tgt l p want N (decide (cnt = 0)) 1 = none) :
    Calls Try.prog 9 #[.slice ao n c, .int .i64 p, .int .i64 want, .int .i64 cnt, .string s] w fun e w' => e = .returned (.tuple #[.agg #[.int .i64 0, .int .i64 0, .int .i64 0], .int .i64 0, .int .i64 70]) ∧ Below w.heap.size w w' := by
  have _hu := And.intro hw2 hw1
  have hbig : (n : Int) ≤ 140737488355328 := by have := HT.out.big; omega
  have hlen := Hid.mk' HT.out.len
  have hpn : (p : Int) ≤ (n : Int) := by omega
  have hp0 : (0 : Int) ≤ (p : Int) := by omega
  have hpl : Hid (p ≤ l.length) := (by rw [HT.out.len]; exact hp)
  have hnl : (nl l : Int) ≤ (n : Int) := by have := nl_le l; have := HT.out.len; omega
  have hnl0 : (0 : Int) ≤ (nl l : Int) := by omega
  have hL1 : (nl (l.take p) : Int) ≤ (nl l : Int) := by have := nl_take_le l p; omega
  have hL0 : (0 : Int) ≤ (nl (l.take p) : Int) := by omega
  have hN1 : (1 : Int) ≤ (N : Int) := by omega
  have hN9 : (N : Int) ≤ 9999 := by omega
  have K := Hid.mk' (fun w => known_1 s w hk)
  have HTG : Hid (tgt l p 0 N false 1 = none) := (by unfold Hid; rw [← ht]; exact tgt_want (by omega) (fun h => by omega))
  clear ht
  have HK := Hid.mk' hk
  obtain ⟨q1, q2, q3, q4, q5, q6, q7, q8, q9, q10, q11, q12, q13, q14, q15, q16⟩ : (s.toList == [104]) = true ∧ (s.toList == [108]) = false ∧ (s.toList == [32]) = false ∧ (s.toList == [8]) = false ∧ (s.toList == [106]) = false ∧ (s.toList == [107]) = false ∧ (s.toList == [43]) = false ∧ (s.toList == [13]) = false ∧ (s.toList == [45]) = false ∧ (s.toList == [95]) = false ∧ (s.toList == [48]) = false ∧ (s.toList == [94]) = false ∧ (s.toList == [36]) = false ∧ (s.toList == [124]) = false ∧ (s.toList == [71]) = false ∧ (s.toList == [103, 103]) = false := kn_rules s 1 hk
  clear hk
  have T1 := Hid.mk' (fun x => Hid.mk' (HT.out.keep (bAlloc (Below.refl _ _) x)))
  have B1 := Hid.mk' (fun x => bAlloc (Below.refl w.heap.size w) x)
  go_enter Try.func9, Try.ntmps9
  go_wp2_with fail
  refine (K.out _).mono ?_
  rintro e w9 ⟨rfl, hw⟩
  have hqq := hw.symm
  subst hqq
  clear hw
  go_wp2_with fail
  refine (rof_is hp (T1.out _)).mono ?_
  rintro e w9 ⟨rfl, hw⟩
  have hqq := hw.symm
  subst hqq
  clear hw
  go_wp2_with fail
  refine (refCount_any ao n c l _ (T1.out _)).mono ?_
  rintro e w9 ⟨rfl, hw⟩
  have hqq := hw.symm
  subst hqq
  clear hw
  go_wp2_with fail
  refine (along_1n ao n c p N l s _ (T1.out _) hp hN1 hN9 HK.out HTG.out).mono ?_
  rintro e w2 ⟨rfl, hb2⟩
  obtain ⟨hc2, hf2⟩ := bcell hb2
  have hz2 : w.heap.size < w2.heap.size := by have := hb2.size; simp at this; omega
  have B2 := Hid.mk' (bT (B1.out _) hb2)
  clear hb2
  go_wp2
  exact bodyPost_ret (v := .tuple #[.agg #[.int .i64 0, .int .i64 0, .int .i64 0], .int .i64 0, .int .i64 70]) (by simp [results, Try.results9, go_sem, hc2]) rfl ⟨rfl, bset (bset (bset B2.out _ (Nat.le_refl _)) _ (Nat.le_refl _)) _ (Nat.le_refl _)⟩

set_option maxRecDepth 10000 in
set_option maxHeartbeats 2000000 in
theorem rmove_2y (ao : Option Addr) (n c p N : Nat) (want cnt : Int) (l : List UInt8) (s : ByteArray) (w : World) (hw2 : want ≤ 9223372036854775807) (HT : Hid (Tx w ao n c l)) (hp : p ≤ n) (hw1 : -1 ≤ want) (hc0 : 0 ≤ cnt) (hc9 : cnt ≤ 9999) (hN : max cnt 1 = (N : Int)) (hk : kn s = 2) (q : Nat) (ht : tgt l p want N (decide (cnt = 0)) 2 = some q) :
    Calls Try.prog 9 #[.slice ao n c, .int .i64 p, .int .i64 want, .int .i64 cnt, .string s] w fun e w' => e = .returned (.tuple #[.agg #[.int .i64 p, .int .i64 q, .int .i64 1], .int .i64 ((q - bg l q : Nat) : Int), .int .i64 0]) ∧ Below w.heap.size w w' := by
  have _hu := And.intro hw2 hw1
  have hbig : (n : Int) ≤ 140737488355328 := by have := HT.out.big; omega
  have hlen := Hid.mk' HT.out.len
  have hpn : (p : Int) ≤ (n : Int) := by omega
  have hp0 : (0 : Int) ≤ (p : Int) := by omega
  have hpl : Hid (p ≤ l.length) := (by rw [HT.out.len]; exact hp)
  have hnl : (nl l : Int) ≤ (n : Int) := by have := nl_le l; have := HT.out.len; omega
  have hnl0 : (0 : Int) ≤ (nl l : Int) := by omega
  have hL1 : (nl (l.take p) : Int) ≤ (nl l : Int) := by have := nl_take_le l p; omega
  have hL0 : (0 : Int) ≤ (nl (l.take p) : Int) := by omega
  have hN1 : (1 : Int) ≤ (N : Int) := by omega
  have hN9 : (N : Int) ≤ 9999 := by omega
  have K := Hid.mk' (fun w => known_2 s w hk)
  have HTG : Hid (tgt l p 0 N false 2 = some q) := (by unfold Hid; rw [← ht]; exact tgt_want (by omega) (fun h => by omega))
  clear ht
  have HK := Hid.mk' hk
  obtain ⟨q1, q2, q3, q4, q5, q6, q7, q8, q9, q10, q11, q12, q13, q14, q15, q16⟩ : (s.toList == [104]) = false ∧ (s.toList == [108]) = true ∧ (s.toList == [32]) = false ∧ (s.toList == [8]) = false ∧ (s.toList == [106]) = false ∧ (s.toList == [107]) = false ∧ (s.toList == [43]) = false ∧ (s.toList == [13]) = false ∧ (s.toList == [45]) = false ∧ (s.toList == [95]) = false ∧ (s.toList == [48]) = false ∧ (s.toList == [94]) = false ∧ (s.toList == [36]) = false ∧ (s.toList == [124]) = false ∧ (s.toList == [71]) = false ∧ (s.toList == [103, 103]) = false := kn_rules s 2 hk
  clear hk
  have T1 := Hid.mk' (fun x => Hid.mk' (HT.out.keep (bAlloc (Below.refl _ _) x)))
  have B1 := Hid.mk' (fun x => bAlloc (Below.refl w.heap.size w) x)
  go_enter Try.func9, Try.ntmps9
  go_wp2_with fail
  refine (K.out _).mono ?_
  rintro e w9 ⟨rfl, hw⟩
  have hqq := hw.symm
  subst hqq
  clear hw
  go_wp2_with fail
  refine (rof_is hp (T1.out _)).mono ?_
  rintro e w9 ⟨rfl, hw⟩
  have hqq := hw.symm
  subst hqq
  clear hw
  go_wp2_with fail
  refine (refCount_any ao n c l _ (T1.out _)).mono ?_
  rintro e w9 ⟨rfl, hw⟩
  have hqq := hw.symm
  subst hqq
  clear hw
  go_wp2_with fail
  refine (along_2y ao n c p N l s _ (T1.out _) hp hN1 hN9 HK.out q HTG.out).mono ?_
  rintro e w2 ⟨rfl, hb2⟩
  obtain ⟨hc2, hf2⟩ := bcell hb2
  have hz2 : w.heap.size < w2.heap.size := by have := hb2.size; simp at this; omega
  have B2 := Hid.mk' (bT (B1.out _) hb2)
  clear hb2
  go_wp2
  exact bodyPost_ret (v := .tuple #[.agg #[.int .i64 p, .int .i64 q, .int .i64 1], .int .i64 ((q - bg l q : Nat) : Int), .int .i64 0]) (by simp [results, Try.results9, go_sem, hc2]) rfl ⟨rfl, bset (bset (bset B2.out _ (Nat.le_refl _)) _ (Nat.le_refl _)) _ (Nat.le_refl _)⟩

set_option maxRecDepth 10000 in
set_option maxHeartbeats 2000000 in
theorem rmove_2n (ao : Option Addr) (n c p N : Nat) (want cnt : Int) (l : List UInt8) (s : ByteArray) (w : World) (hw2 : want ≤ 9223372036854775807) (HT : Hid (Tx w ao n c l)) (hp : p ≤ n) (hw1 : -1 ≤ want) (hc0 : 0 ≤ cnt) (hc9 : cnt ≤ 9999) (hN : max cnt 1 = (N : Int)) (hk : kn s = 2) (ht : tgt l p want N (decide (cnt = 0)) 2 = none) :
    Calls Try.prog 9 #[.slice ao n c, .int .i64 p, .int .i64 want, .int .i64 cnt, .string s] w fun e w' => e = .returned (.tuple #[.agg #[.int .i64 0, .int .i64 0, .int .i64 0], .int .i64 0, .int .i64 70]) ∧ Below w.heap.size w w' := by
  have _hu := And.intro hw2 hw1
  have hbig : (n : Int) ≤ 140737488355328 := by have := HT.out.big; omega
  have hlen := Hid.mk' HT.out.len
  have hpn : (p : Int) ≤ (n : Int) := by omega
  have hp0 : (0 : Int) ≤ (p : Int) := by omega
  have hpl : Hid (p ≤ l.length) := (by rw [HT.out.len]; exact hp)
  have hnl : (nl l : Int) ≤ (n : Int) := by have := nl_le l; have := HT.out.len; omega
  have hnl0 : (0 : Int) ≤ (nl l : Int) := by omega
  have hL1 : (nl (l.take p) : Int) ≤ (nl l : Int) := by have := nl_take_le l p; omega
  have hL0 : (0 : Int) ≤ (nl (l.take p) : Int) := by omega
  have hN1 : (1 : Int) ≤ (N : Int) := by omega
  have hN9 : (N : Int) ≤ 9999 := by omega
  have K := Hid.mk' (fun w => known_2 s w hk)
  have HTG : Hid (tgt l p 0 N false 2 = none) := (by unfold Hid; rw [← ht]; exact tgt_want (by omega) (fun h => by omega))
  clear ht
  have HK := Hid.mk' hk
  obtain ⟨q1, q2, q3, q4, q5, q6, q7, q8, q9, q10, q11, q12, q13, q14, q15, q16⟩ : (s.toList == [104]) = false ∧ (s.toList == [108]) = true ∧ (s.toList == [32]) = false ∧ (s.toList == [8]) = false ∧ (s.toList == [106]) = false ∧ (s.toList == [107]) = false ∧ (s.toList == [43]) = false ∧ (s.toList == [13]) = false ∧ (s.toList == [45]) = false ∧ (s.toList == [95]) = false ∧ (s.toList == [48]) = false ∧ (s.toList == [94]) = false ∧ (s.toList == [36]) = false ∧ (s.toList == [124]) = false ∧ (s.toList == [71]) = false ∧ (s.toList == [103, 103]) = false := kn_rules s 2 hk
  clear hk
  have T1 := Hid.mk' (fun x => Hid.mk' (HT.out.keep (bAlloc (Below.refl _ _) x)))
  have B1 := Hid.mk' (fun x => bAlloc (Below.refl w.heap.size w) x)
  go_enter Try.func9, Try.ntmps9
  go_wp2_with fail
  refine (K.out _).mono ?_
  rintro e w9 ⟨rfl, hw⟩
  have hqq := hw.symm
  subst hqq
  clear hw
  go_wp2_with fail
  refine (rof_is hp (T1.out _)).mono ?_
  rintro e w9 ⟨rfl, hw⟩
  have hqq := hw.symm
  subst hqq
  clear hw
  go_wp2_with fail
  refine (refCount_any ao n c l _ (T1.out _)).mono ?_
  rintro e w9 ⟨rfl, hw⟩
  have hqq := hw.symm
  subst hqq
  clear hw
  go_wp2_with fail
  refine (along_2n ao n c p N l s _ (T1.out _) hp hN1 hN9 HK.out HTG.out).mono ?_
  rintro e w2 ⟨rfl, hb2⟩
  obtain ⟨hc2, hf2⟩ := bcell hb2
  have hz2 : w.heap.size < w2.heap.size := by have := hb2.size; simp at this; omega
  have B2 := Hid.mk' (bT (B1.out _) hb2)
  clear hb2
  go_wp2
  exact bodyPost_ret (v := .tuple #[.agg #[.int .i64 0, .int .i64 0, .int .i64 0], .int .i64 0, .int .i64 70]) (by simp [results, Try.results9, go_sem, hc2]) rfl ⟨rfl, bset (bset (bset B2.out _ (Nat.le_refl _)) _ (Nat.le_refl _)) _ (Nat.le_refl _)⟩

set_option maxRecDepth 10000 in
set_option maxHeartbeats 2000000 in
theorem rmove_3y (ao : Option Addr) (n c p N : Nat) (want cnt : Int) (l : List UInt8) (s : ByteArray) (w : World) (hw2 : want ≤ 9223372036854775807) (HT : Hid (Tx w ao n c l)) (hp : p ≤ n) (hw1 : -1 ≤ want) (hc0 : 0 ≤ cnt) (hc9 : cnt ≤ 9999) (hN : max cnt 1 = (N : Int)) (hk : kn s = 3) (q : Nat) (ht : tgt l p want N (decide (cnt = 0)) 3 = some q) :
    Calls Try.prog 9 #[.slice ao n c, .int .i64 p, .int .i64 want, .int .i64 cnt, .string s] w fun e w' => e = .returned (.tuple #[.agg #[.int .i64 p, .int .i64 q, .int .i64 1], .int .i64 ((q - bg l q : Nat) : Int), .int .i64 0]) ∧ Below w.heap.size w w' := by
  have _hu := And.intro hw2 hw1
  have hbig : (n : Int) ≤ 140737488355328 := by have := HT.out.big; omega
  have hlen := Hid.mk' HT.out.len
  have hpn : (p : Int) ≤ (n : Int) := by omega
  have hp0 : (0 : Int) ≤ (p : Int) := by omega
  have hpl : Hid (p ≤ l.length) := (by rw [HT.out.len]; exact hp)
  have hnl : (nl l : Int) ≤ (n : Int) := by have := nl_le l; have := HT.out.len; omega
  have hnl0 : (0 : Int) ≤ (nl l : Int) := by omega
  have hL1 : (nl (l.take p) : Int) ≤ (nl l : Int) := by have := nl_take_le l p; omega
  have hL0 : (0 : Int) ≤ (nl (l.take p) : Int) := by omega
  have hN1 : (1 : Int) ≤ (N : Int) := by omega
  have hN9 : (N : Int) ≤ 9999 := by omega
  have K := Hid.mk' (fun w => known_3 s w hk)
  have HTG : Hid (tgt l p 0 N false 3 = some q) := (by unfold Hid; rw [← ht]; exact tgt_want (by omega) (fun h => by omega))
  clear ht
  have HK := Hid.mk' hk
  obtain ⟨q1, q2, q3, q4, q5, q6, q7, q8, q9, q10, q11, q12, q13, q14, q15, q16⟩ : (s.toList == [104]) = false ∧ (s.toList == [108]) = false ∧ (s.toList == [32]) = true ∧ (s.toList == [8]) = false ∧ (s.toList == [106]) = false ∧ (s.toList == [107]) = false ∧ (s.toList == [43]) = false ∧ (s.toList == [13]) = false ∧ (s.toList == [45]) = false ∧ (s.toList == [95]) = false ∧ (s.toList == [48]) = false ∧ (s.toList == [94]) = false ∧ (s.toList == [36]) = false ∧ (s.toList == [124]) = false ∧ (s.toList == [71]) = false ∧ (s.toList == [103, 103]) = false := kn_rules s 3 hk
  clear hk
  have T1 := Hid.mk' (fun x => Hid.mk' (HT.out.keep (bAlloc (Below.refl _ _) x)))
  have B1 := Hid.mk' (fun x => bAlloc (Below.refl w.heap.size w) x)
  go_enter Try.func9, Try.ntmps9
  go_wp2_with fail
  refine (K.out _).mono ?_
  rintro e w9 ⟨rfl, hw⟩
  have hqq := hw.symm
  subst hqq
  clear hw
  go_wp2_with fail
  refine (rof_is hp (T1.out _)).mono ?_
  rintro e w9 ⟨rfl, hw⟩
  have hqq := hw.symm
  subst hqq
  clear hw
  go_wp2_with fail
  refine (refCount_any ao n c l _ (T1.out _)).mono ?_
  rintro e w9 ⟨rfl, hw⟩
  have hqq := hw.symm
  subst hqq
  clear hw
  go_wp2_with fail
  refine (along_3y ao n c p N l s _ (T1.out _) hp hN1 hN9 HK.out q HTG.out).mono ?_
  rintro e w2 ⟨rfl, hb2⟩
  obtain ⟨hc2, hf2⟩ := bcell hb2
  have hz2 : w.heap.size < w2.heap.size := by have := hb2.size; simp at this; omega
  have B2 := Hid.mk' (bT (B1.out _) hb2)
  clear hb2
  go_wp2
  exact bodyPost_ret (v := .tuple #[.agg #[.int .i64 p, .int .i64 q, .int .i64 1], .int .i64 ((q - bg l q : Nat) : Int), .int .i64 0]) (by simp [results, Try.results9, go_sem, hc2]) rfl ⟨rfl, bset (bset (bset B2.out _ (Nat.le_refl _)) _ (Nat.le_refl _)) _ (Nat.le_refl _)⟩

set_option maxRecDepth 10000 in
set_option maxHeartbeats 2000000 in
theorem rmove_3n (ao : Option Addr) (n c p N : Nat) (want cnt : Int) (l : List UInt8) (s : ByteArray) (w : World) (hw2 : want ≤ 9223372036854775807) (HT : Hid (Tx w ao n c l)) (hp : p ≤ n) (hw1 : -1 ≤ want) (hc0 : 0 ≤ cnt) (hc9 : cnt ≤ 9999) (hN : max cnt 1 = (N : Int)) (hk : kn s = 3) (ht : tgt l p want N (decide (cnt = 0)) 3 = none) :
    Calls Try.prog 9 #[.slice ao n c, .int .i64 p, .int .i64 want, .int .i64 cnt, .string s] w fun e w' => e = .returned (.tuple #[.agg #[.int .i64 0, .int .i64 0, .int .i64 0], .int .i64 0, .int .i64 70]) ∧ Below w.heap.size w w' := by
  have _hu := And.intro hw2 hw1
  have hbig : (n : Int) ≤ 140737488355328 := by have := HT.out.big; omega
  have hlen := Hid.mk' HT.out.len
  have hpn : (p : Int) ≤ (n : Int) := by omega
  have hp0 : (0 : Int) ≤ (p : Int) := by omega
  have hpl : Hid (p ≤ l.length) := (by rw [HT.out.len]; exact hp)
  have hnl : (nl l : Int) ≤ (n : Int) := by have := nl_le l; have := HT.out.len; omega
  have hnl0 : (0 : Int) ≤ (nl l : Int) := by omega
  have hL1 : (nl (l.take p) : Int) ≤ (nl l : Int) := by have := nl_take_le l p; omega
  have hL0 : (0 : Int) ≤ (nl (l.take p) : Int) := by omega
  have hN1 : (1 : Int) ≤ (N : Int) := by omega
  have hN9 : (N : Int) ≤ 9999 := by omega
  have K := Hid.mk' (fun w => known_3 s w hk)
  have HTG : Hid (tgt l p 0 N false 3 = none) := (by unfold Hid; rw [← ht]; exact tgt_want (by omega) (fun h => by omega))
  clear ht
  have HK := Hid.mk' hk
  obtain ⟨q1, q2, q3, q4, q5, q6, q7, q8, q9, q10, q11, q12, q13, q14, q15, q16⟩ : (s.toList == [104]) = false ∧ (s.toList == [108]) = false ∧ (s.toList == [32]) = true ∧ (s.toList == [8]) = false ∧ (s.toList == [106]) = false ∧ (s.toList == [107]) = false ∧ (s.toList == [43]) = false ∧ (s.toList == [13]) = false ∧ (s.toList == [45]) = false ∧ (s.toList == [95]) = false ∧ (s.toList == [48]) = false ∧ (s.toList == [94]) = false ∧ (s.toList == [36]) = false ∧ (s.toList == [124]) = false ∧ (s.toList == [71]) = false ∧ (s.toList == [103, 103]) = false := kn_rules s 3 hk
  clear hk
  have T1 := Hid.mk' (fun x => Hid.mk' (HT.out.keep (bAlloc (Below.refl _ _) x)))
  have B1 := Hid.mk' (fun x => bAlloc (Below.refl w.heap.size w) x)
  go_enter Try.func9, Try.ntmps9
  go_wp2_with fail
  refine (K.out _).mono ?_
  rintro e w9 ⟨rfl, hw⟩
  have hqq := hw.symm
  subst hqq
  clear hw
  go_wp2_with fail
  refine (rof_is hp (T1.out _)).mono ?_
  rintro e w9 ⟨rfl, hw⟩
  have hqq := hw.symm
  subst hqq
  clear hw
  go_wp2_with fail
  refine (refCount_any ao n c l _ (T1.out _)).mono ?_
  rintro e w9 ⟨rfl, hw⟩
  have hqq := hw.symm
  subst hqq
  clear hw
  go_wp2_with fail
  refine (along_3n ao n c p N l s _ (T1.out _) hp hN1 hN9 HK.out HTG.out).mono ?_
  rintro e w2 ⟨rfl, hb2⟩
  obtain ⟨hc2, hf2⟩ := bcell hb2
  have hz2 : w.heap.size < w2.heap.size := by have := hb2.size; simp at this; omega
  have B2 := Hid.mk' (bT (B1.out _) hb2)
  clear hb2
  go_wp2
  exact bodyPost_ret (v := .tuple #[.agg #[.int .i64 0, .int .i64 0, .int .i64 0], .int .i64 0, .int .i64 70]) (by simp [results, Try.results9, go_sem, hc2]) rfl ⟨rfl, bset (bset (bset B2.out _ (Nat.le_refl _)) _ (Nat.le_refl _)) _ (Nat.le_refl _)⟩

set_option maxRecDepth 10000 in
set_option maxHeartbeats 2000000 in
theorem rmove_4y (ao : Option Addr) (n c p N : Nat) (want cnt : Int) (l : List UInt8) (s : ByteArray) (w : World) (hw2 : want ≤ 9223372036854775807) (HT : Hid (Tx w ao n c l)) (hp : p ≤ n) (hw1 : -1 ≤ want) (hc0 : 0 ≤ cnt) (hc9 : cnt ≤ 9999) (hN : max cnt 1 = (N : Int)) (hk : kn s = 4) (q : Nat) (ht : tgt l p want N (decide (cnt = 0)) 4 = some q) :
    Calls Try.prog 9 #[.slice ao n c, .int .i64 p, .int .i64 want, .int .i64 cnt, .string s] w fun e w' => e = .returned (.tuple #[.agg #[.int .i64 p, .int .i64 q, .int .i64 1], .int .i64 ((q - bg l q : Nat) : Int), .int .i64 0]) ∧ Below w.heap.size w w' := by
  have _hu := And.intro hw2 hw1
  have hbig : (n : Int) ≤ 140737488355328 := by have := HT.out.big; omega
  have hlen := Hid.mk' HT.out.len
  have hpn : (p : Int) ≤ (n : Int) := by omega
  have hp0 : (0 : Int) ≤ (p : Int) := by omega
  have hpl : Hid (p ≤ l.length) := (by rw [HT.out.len]; exact hp)
  have hnl : (nl l : Int) ≤ (n : Int) := by have := nl_le l; have := HT.out.len; omega
  have hnl0 : (0 : Int) ≤ (nl l : Int) := by omega
  have hL1 : (nl (l.take p) : Int) ≤ (nl l : Int) := by have := nl_take_le l p; omega
  have hL0 : (0 : Int) ≤ (nl (l.take p) : Int) := by omega
  have hN1 : (1 : Int) ≤ (N : Int) := by omega
  have hN9 : (N : Int) ≤ 9999 := by omega
  have K := Hid.mk' (fun w => known_4 s w hk)
  have HTG : Hid (tgt l p 0 N false 4 = some q) := (by unfold Hid; rw [← ht]; exact tgt_want (by omega) (fun h => by omega))
  clear ht
  have HK := Hid.mk' hk
  obtain ⟨q1, q2, q3, q4, q5, q6, q7, q8, q9, q10, q11, q12, q13, q14, q15, q16⟩ : (s.toList == [104]) = false ∧ (s.toList == [108]) = false ∧ (s.toList == [32]) = false ∧ (s.toList == [8]) = true ∧ (s.toList == [106]) = false ∧ (s.toList == [107]) = false ∧ (s.toList == [43]) = false ∧ (s.toList == [13]) = false ∧ (s.toList == [45]) = false ∧ (s.toList == [95]) = false ∧ (s.toList == [48]) = false ∧ (s.toList == [94]) = false ∧ (s.toList == [36]) = false ∧ (s.toList == [124]) = false ∧ (s.toList == [71]) = false ∧ (s.toList == [103, 103]) = false := kn_rules s 4 hk
  clear hk
  have T1 := Hid.mk' (fun x => Hid.mk' (HT.out.keep (bAlloc (Below.refl _ _) x)))
  have B1 := Hid.mk' (fun x => bAlloc (Below.refl w.heap.size w) x)
  go_enter Try.func9, Try.ntmps9
  go_wp2_with fail
  refine (K.out _).mono ?_
  rintro e w9 ⟨rfl, hw⟩
  have hqq := hw.symm
  subst hqq
  clear hw
  go_wp2_with fail
  refine (rof_is hp (T1.out _)).mono ?_
  rintro e w9 ⟨rfl, hw⟩
  have hqq := hw.symm
  subst hqq
  clear hw
  go_wp2_with fail
  refine (refCount_any ao n c l _ (T1.out _)).mono ?_
  rintro e w9 ⟨rfl, hw⟩
  have hqq := hw.symm
  subst hqq
  clear hw
  go_wp2_with fail
  refine (along_4y ao n c p N l s _ (T1.out _) hp hN1 hN9 HK.out q HTG.out).mono ?_
  rintro e w2 ⟨rfl, hb2⟩
  obtain ⟨hc2, hf2⟩ := bcell hb2
  have hz2 : w.heap.size < w2.heap.size := by have := hb2.size; simp at this; omega
  have B2 := Hid.mk' (bT (B1.out _) hb2)
  clear hb2
  go_wp2
  exact bodyPost_ret (v := .tuple #[.agg #[.int .i64 p, .int .i64 q, .int .i64 1], .int .i64 ((q - bg l q : Nat) : Int), .int .i64 0]) (by simp [results, Try.results9, go_sem, hc2]) rfl ⟨rfl, bset (bset (bset B2.out _ (Nat.le_refl _)) _ (Nat.le_refl _)) _ (Nat.le_refl _)⟩

set_option maxRecDepth 10000 in
set_option maxHeartbeats 2000000 in
theorem rmove_4n (ao : Option Addr) (n c p N : Nat) (want cnt : Int) (l : List UInt8) (s : ByteArray) (w : World) (hw2 : want ≤ 9223372036854775807) (HT : Hid (Tx w ao n c l)) (hp : p ≤ n) (hw1 : -1 ≤ want) (hc0 : 0 ≤ cnt) (hc9 : cnt ≤ 9999) (hN : max cnt 1 = (N : Int)) (hk : kn s = 4) (ht : tgt l p want N (decide (cnt = 0)) 4 = none) :
    Calls Try.prog 9 #[.slice ao n c, .int .i64 p, .int .i64 want, .int .i64 cnt, .string s] w fun e w' => e = .returned (.tuple #[.agg #[.int .i64 0, .int .i64 0, .int .i64 0], .int .i64 0, .int .i64 70]) ∧ Below w.heap.size w w' := by
  have _hu := And.intro hw2 hw1
  have hbig : (n : Int) ≤ 140737488355328 := by have := HT.out.big; omega
  have hlen := Hid.mk' HT.out.len
  have hpn : (p : Int) ≤ (n : Int) := by omega
  have hp0 : (0 : Int) ≤ (p : Int) := by omega
  have hpl : Hid (p ≤ l.length) := (by rw [HT.out.len]; exact hp)
  have hnl : (nl l : Int) ≤ (n : Int) := by have := nl_le l; have := HT.out.len; omega
  have hnl0 : (0 : Int) ≤ (nl l : Int) := by omega
  have hL1 : (nl (l.take p) : Int) ≤ (nl l : Int) := by have := nl_take_le l p; omega
  have hL0 : (0 : Int) ≤ (nl (l.take p) : Int) := by omega
  have hN1 : (1 : Int) ≤ (N : Int) := by omega
  have hN9 : (N : Int) ≤ 9999 := by omega
  have K := Hid.mk' (fun w => known_4 s w hk)
  have HTG : Hid (tgt l p 0 N false 4 = none) := (by unfold Hid; rw [← ht]; exact tgt_want (by omega) (fun h => by omega))
  clear ht
  have HK := Hid.mk' hk
  obtain ⟨q1, q2, q3, q4, q5, q6, q7, q8, q9, q10, q11, q12, q13, q14, q15, q16⟩ : (s.toList == [104]) = false ∧ (s.toList == [108]) = false ∧ (s.toList == [32]) = false ∧ (s.toList == [8]) = true ∧ (s.toList == [106]) = false ∧ (s.toList == [107]) = false ∧ (s.toList == [43]) = false ∧ (s.toList == [13]) = false ∧ (s.toList == [45]) = false ∧ (s.toList == [95]) = false ∧ (s.toList == [48]) = false ∧ (s.toList == [94]) = false ∧ (s.toList == [36]) = false ∧ (s.toList == [124]) = false ∧ (s.toList == [71]) = false ∧ (s.toList == [103, 103]) = false := kn_rules s 4 hk
  clear hk
  have T1 := Hid.mk' (fun x => Hid.mk' (HT.out.keep (bAlloc (Below.refl _ _) x)))
  have B1 := Hid.mk' (fun x => bAlloc (Below.refl w.heap.size w) x)
  go_enter Try.func9, Try.ntmps9
  go_wp2_with fail
  refine (K.out _).mono ?_
  rintro e w9 ⟨rfl, hw⟩
  have hqq := hw.symm
  subst hqq
  clear hw
  go_wp2_with fail
  refine (rof_is hp (T1.out _)).mono ?_
  rintro e w9 ⟨rfl, hw⟩
  have hqq := hw.symm
  subst hqq
  clear hw
  go_wp2_with fail
  refine (refCount_any ao n c l _ (T1.out _)).mono ?_
  rintro e w9 ⟨rfl, hw⟩
  have hqq := hw.symm
  subst hqq
  clear hw
  go_wp2_with fail
  refine (along_4n ao n c p N l s _ (T1.out _) hp hN1 hN9 HK.out HTG.out).mono ?_
  rintro e w2 ⟨rfl, hb2⟩
  obtain ⟨hc2, hf2⟩ := bcell hb2
  have hz2 : w.heap.size < w2.heap.size := by have := hb2.size; simp at this; omega
  have B2 := Hid.mk' (bT (B1.out _) hb2)
  clear hb2
  go_wp2
  exact bodyPost_ret (v := .tuple #[.agg #[.int .i64 0, .int .i64 0, .int .i64 0], .int .i64 0, .int .i64 70]) (by simp [results, Try.results9, go_sem, hc2]) rfl ⟨rfl, bset (bset (bset B2.out _ (Nat.le_refl _)) _ (Nat.le_refl _)) _ (Nat.le_refl _)⟩
end Go.Proofs.Ytbkhbnmihnomaaa
