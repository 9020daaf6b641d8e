/- The contract of the reference's Move. -/
import Derived.Test.YtbkhbnmihnomaaaAlong
namespace Go.Proofs.Ytbkhbnmihnomaaa
open Go.RowKit

theorem rof_is {ao : Option Addr} {n c k : Nat} {l : List UInt8} {w : World} (hk : k ≤ n) (HT : Hid (Tx w ao n c l)) :
    Calls Try.prog 21 #[.slice ao n c, .int .i64 k] w fun e w' => e = .returned (.tuple #[.int .i64 (nl (l.take k)), .int .i64 0]) ∧ w' = w := by
  have := refOf_any ao n c k l w HT
  have e : pr (aOf l (k : Int)) = .returned (.tuple #[.int .i64 (nl (l.take k)), .int .i64 0]) := by
    unfold pr aOf ans plB; rw [decide_eq_true (by have := HT.out.len; omega)]; rfl
  rwa [e] at this
set_option maxRecDepth 10000 in
set_option maxHeartbeats 1000000 in
theorem rmove_bad0 (ao : Option Addr) (n c : Nat) (i want cnt : Int) (l : List UInt8) (s : ByteArray) (w : World) (HT : Hid (Tx w ao n c l)) (h1 : i < 0) :
    Calls Try.prog 9 #[.slice ao n c, .int .i64 i, .int .i64 want, .int .i64 cnt, .string s] w fun e w' => e = .returned (.tuple #[.agg #[.int .i64 0, .int .i64 0, .int .i64 0], .int .i64 0, .int .i64 2]) ∧ Below w.heap.size w w' := by
  have _hu := HT
  clear _hu
  go_enter Try.func9, Try.ntmps9
  go_wp2
  exact bodyPost_ret (v := .tuple #[.agg #[.int .i64 0, .int .i64 0, .int .i64 0], .int .i64 0, .int .i64 2]) (by simp [results, Try.results9, go_sem]) rfl ⟨rfl, bAlloc (Below.refl _ _) _⟩
set_option maxRecDepth 10000 in
set_option maxHeartbeats 1000000 in
theorem rmove_bad1 (ao : Option Addr) (n c : Nat) (i want cnt : Int) (l : List UInt8) (s : ByteArray) (w : World) (HT : Hid (Tx w ao n c l)) (h1 : 0 ≤ i) (h2 : (n : Int) < i) :
    Calls Try.prog 9 #[.slice ao n c, .int .i64 i, .int .i64 want, .int .i64 cnt, .string s] w fun e w' => e = .returned (.tuple #[.agg #[.int .i64 0, .int .i64 0, .int .i64 0], .int .i64 0, .int .i64 2]) ∧ Below w.heap.size w w' := by
  have _hu := HT
  clear _hu
  go_enter Try.func9, Try.ntmps9
  go_wp2
  exact bodyPost_ret (v := .tuple #[.agg #[.int .i64 0, .int .i64 0, .int .i64 0], .int .i64 0, .int .i64 2]) (by simp [results, Try.results9, go_sem]) rfl ⟨rfl, bAlloc (Below.refl _ _) _⟩
set_option maxRecDepth 10000 in
set_option maxHeartbeats 1000000 in
theorem rmove_bad2 (ao : Option Addr) (n c : Nat) (i want cnt : Int) (l : List UInt8) (s : ByteArray) (w : World) (HT : Hid (Tx w ao n c l)) (h1 : 0 ≤ i) (h2 : i ≤ (n : Int)) (h3 : want < -1) :
    Calls Try.prog 9 #[.slice ao n c, .int .i64 i, .int .i64 want, .int .i64 cnt, .string s] w fun e w' => e = .returned (.tuple #[.agg #[.int .i64 0, .int .i64 0, .int .i64 0], .int .i64 0, .int .i64 2]) ∧ Below w.heap.size w w' := by
  have _hu := HT
  clear _hu
  go_enter Try.func9, Try.ntmps9
  go_wp2
  exact bodyPost_ret (v := .tuple #[.agg #[.int .i64 0, .int .i64 0, .int .i64 0], .int .i64 0, .int .i64 2]) (by simp [results, Try.results9, go_sem]) rfl ⟨rfl, bAlloc (Below.refl _ _) _⟩
set_option maxRecDepth 10000 in
set_option maxHeartbeats 1000000 in
theorem rmove_bad3 (ao : Option Addr) (n c : Nat) (i want cnt : Int) (l : List UInt8) (s : ByteArray) (w : World) (HT : Hid (Tx w ao n c l)) (h1 : 0 ≤ i) (h2 : i ≤ (n : Int)) (h3 : -1 ≤ want) (h4 : cnt < 0) :
    Calls Try.prog 9 #[.slice ao n c, .int .i64 i, .int .i64 want, .int .i64 cnt, .string s] w fun e w' => e = .returned (.tuple #[.agg #[.int .i64 0, .int .i64 0, .int .i64 0], .int .i64 0, .int .i64 2]) ∧ Below w.heap.size w w' := by
  have _hu := HT
  clear _hu
  go_enter Try.func9, Try.ntmps9
  go_wp2
  exact bodyPost_ret (v := .tuple #[.agg #[.int .i64 0, .int .i64 0, .int .i64 0], .int .i64 0, .int .i64 2]) (by simp [results, Try.results9, go_sem]) rfl ⟨rfl, bAlloc (Below.refl _ _) _⟩
set_option maxRecDepth 10000 in
set_option maxHeartbeats 1000000 in
theorem rmove_bad4 (ao : Option Addr) (n c : Nat) (i want cnt : Int) (l : List UInt8) (s : ByteArray) (w : World) (HT : Hid (Tx w ao n c l)) (h1 : 0 ≤ i) (h2 : i ≤ (n : Int)) (h3 : -1 ≤ want) (h4 : 0 ≤ cnt) (h5 : 9999 < cnt) :
    Calls Try.prog 9 #[.slice ao n c, .int .i64 i, .int .i64 want, .int .i64 cnt, .string s] w fun e w' => e = .returned (.tuple #[.agg #[.int .i64 0, .int .i64 0, .int .i64 0], .int .i64 0, .int .i64 2]) ∧ Below w.heap.size w w' := by
  have _hu := HT
  clear _hu
  go_enter Try.func9, Try.ntmps9
  go_wp2
  exact bodyPost_ret (v := .tuple #[.agg #[.int .i64 0, .int .i64 0, .int .i64 0], .int .i64 0, .int .i64 2]) (by simp [results, Try.results9, go_sem]) rfl ⟨rfl, bAlloc (Below.refl _ _) _⟩
set_option maxRecDepth 10000 in
set_option maxHeartbeats 1000000 in
theorem rmove_0 (ao : Option Addr) (n c p N : Nat) (want cnt : Int) (l : List UInt8) (s : ByteArray) (w : World) (hw2 : want ≤ 9223372036854775807) (HT : Hid (Tx w ao n c l)) (hp : p ≤ n) (hw1 : -1 ≤ want) (hc0 : 0 ≤ cnt) (hc9 : cnt ≤ 9999) (hN : max cnt 1 = (N : Int)) (hk : kn s = 0) :
    Calls Try.prog 9 #[.slice ao n c, .int .i64 p, .int .i64 want, .int .i64 cnt, .string s] w fun e w' => e = .returned (.tuple #[.agg #[.int .i64 0, .int .i64 0, .int .i64 0], .int .i64 0, .int .i64 2]) ∧ Below w.heap.size w w' := by
  have _hu := And.intro hw2 (And.intro HT hN)
  have hp0 : (0 : Int) ≤ (p : Int) := by omega
  have hpn : (p : Int) ≤ (n : Int) := by omega
  have K := Hid.mk' (fun w => known_0 s w hk)
  clear hk _hu
  go_enter Try.func9, Try.ntmps9
  go_wp2_with fail
  refine (K.out _).mono ?_
  rintro e w9 ⟨rfl, hw⟩
  have hqq := hw.symm
  subst hqq
  clear hw
  go_wp2
  exact bodyPost_ret (v := .tuple #[.agg #[.int .i64 0, .int .i64 0, .int .i64 0], .int .i64 0, .int .i64 2]) (by simp [results, Try.results9, go_sem]) rfl ⟨rfl, bAlloc (Below.refl _ _) _⟩
end Go.Proofs.Ytbkhbnmihnomaaa
