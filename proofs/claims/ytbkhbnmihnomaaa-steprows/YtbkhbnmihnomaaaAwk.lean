/- The contracts of quoinlaw07's awake, place and column; what Move answers, told apart. -/
import Derived.Test.YtbkhbnmihnomaaaMove
import Derived.Lib.SlBytesConst
import Derived.Deep.QuietTactic
import Derived.BigQuiet
namespace Go.Proofs.Ytbkhbnmihnomaaa
open Go.RowKit

theorem mvE_some {l : List UInt8} {p N q : Nat} {want cnt : Int} {s : ByteArray} (hp : p ≤ l.length) (hw : -1 ≤ want) (hc0 : 0 ≤ cnt) (hc : cnt ≤ 9999) (hk : kn s ≠ 0) (hN : max cnt 1 = (N : Int)) (ht : tgt l p want N (decide (cnt = 0)) (kn s) = some q) :
    mvE (mv l p want cnt s) = .returned (.tuple #[.agg #[.int .i64 p, .int .i64 q, .int .i64 (kd (kn s))], .int .i64 (wn l want N (kn s) q), .int .i64 0]) := by
  have h : okB l p want cnt s = true := by unfold okB plB; simp; omega
  have e : (max cnt 1).toNat = N := by omega
  unfold mv
  rw [h, if_pos rfl, e, Int.toNat_natCast, ht]
  rfl
theorem mvE_none {l : List UInt8} {p N : Nat} {want cnt : Int} {s : ByteArray} (hp : p ≤ l.length) (hw : -1 ≤ want) (hc0 : 0 ≤ cnt) (hc : cnt ≤ 9999) (hk : kn s ≠ 0) (hN : max cnt 1 = (N : Int)) (ht : tgt l p want N (decide (cnt = 0)) (kn s) = none) :
    mvE (mv l p want cnt s) = .returned (.tuple #[.agg #[.int .i64 0, .int .i64 0, .int .i64 0], .int .i64 0, .int .i64 70]) := by
  have h : okB l p want cnt s = true := by unfold okB plB; simp; omega
  have e : (max cnt 1).toNat = N := by omega
  unfold mv
  rw [h, if_pos rfl, e, Int.toNat_natCast, ht]
  rfl
theorem mvE_bad {l : List UInt8} {i want cnt : Int} {s : ByteArray} (h : okB l i want cnt s = false) :
    mvE (mv l i want cnt s) = .returned (.tuple #[.agg #[.int .i64 0, .int .i64 0, .int .i64 0], .int .i64 0, .int .i64 2]) := by
  unfold mv; rw [h]; rfl
theorem mv_err (l : List UInt8) (i want cnt : Int) (s : ByteArray) : (mv l i want cnt s).err = 0 ∨ (mv l i want cnt s).err = 2 ∨ (mv l i want cnt s).err = 70 := by
  unfold mv
  split
  · split
    · exact .inl rfl
    · exact .inr (.inr rfl)
  · exact .inr (.inl rfl)
theorem mvE_def (a : Ansr) : mvE a = .returned (.tuple #[.agg #[.int .i64 a.fr, .int .i64 a.to, .int .i64 a.kind], .int .i64 a.want, .int .i64 a.err]) := rfl

/-- the text of the document's examples -/
def T7 : List UInt8 := [97, 98, 10, 10, 99, 100, 101]
theorem t7_tx (w : World) (m : Nat × Nat) : Tx (w.alloc (.cells #[.int .u8 97, .int .u8 98, .int .u8 10, .int .u8 10, .int .u8 99, .int .u8 100, .int .u8 101] 5 m)) (some ⟨w.heap.size, 0, none⟩) 7 7 T7 := by
  refine ⟨rfl, Nat.le_refl _, by omega, (fun h => by cases h), fun a ha j hj => ?_⟩
  obtain rfl : (⟨w.heap.size, 0, none⟩ : Addr) = a := by simpa using ha
  rw [add_none, Nat.zero_add, World.cell?_alloc_mark]
  have : j = 0 ∨ j = 1 ∨ j = 2 ∨ j = 3 ∨ j = 4 ∨ j = 5 ∨ j = 6 := by omega
  rcases this with rfl | rfl | rfl | rfl | rfl | rfl | rfl <;> rfl
theorem t7a : mvE (mv T7 3 1 0 { data := #[106] }) = .returned (.tuple #[.agg #[.int .i64 3, .int .i64 5, .int .i64 3], .int .i64 1, .int .i64 0]) := by
  have h : kn { data := #[106] } = 5 := by decide +kernel
  have e := mvE_some (l := T7) (p := 3) (N := 1) (q := 5) (want := 1) (cnt := 0) (s := { data := #[106] }) (by decide) (by decide) (by decide) (by decide) (by rw [h]; decide) (by decide) (by rw [h]; decide +kernel)
  rw [h] at e
  exact e

set_option maxHeartbeats 1000000 in
theorem awake_any (w : World) : Calls Try.prog 7 #[] w fun e w' => e = .returned (.bool true) ∧ Below w.heap.size w w' := by
  have HT := Hid.mk' (t7_tx w (7, 8))
  have kc := fun (w : World) (C : Array Value) (n c : Nat) => Lib.run_convert_bytes_const (P := Try.prog) w 22 5 C n c Try.underlying22 Try.underlying5
  have A1 := Hid.mk' t7a
  go_enter Try.func7, Try.ntmps7
  go_wp2_with fail
  refine (move_any _ _ _ 3 1 0 T7 _ _ (by omega) HT).mono ?_
  rintro e w1 ⟨rfl, hb1⟩
  rw [A1.out]
  have B1 := Hid.mk' (bT (bAlloc (Below.refl _ _) _) hb1)
  clear hb1
  go_wp2
  go_ret
  exact ⟨rfl, bAlloc B1.out _⟩

/-- a number from 0 to n - 1 -/
def plc (i n : Int) : Int := (if i < 0 then -(i + 1) else i) % n
theorem plc_lo {i n : Int} (hn : 0 < n) : 0 ≤ plc i n := Int.emod_nonneg _ (by omega)
theorem plc_hi {i n : Int} (hn : 0 < n) : plc i n < n := Int.emod_lt_of_pos _ hn
set_option maxHeartbeats 1000000 in
theorem place_any (i n : Int) (w : World) (h1 : -9223372036854775808 ≤ i) (h2 : i ≤ 9223372036854775807) (hn : 0 < n) (hn2 : n ≤ 4611686018427387904) :
    Calls Try.prog 13 #[.int .i64 i, .int .i64 n] w fun e w' => e = .returned (.int .i64 (plc i n)) ∧ w' = w := by
  by_cases hi : i < 0
  · have HP : Hid (plc i n = -((i + 1).tmod n)) := by
      unfold Hid plc
      rw [if_pos hi, ← Int.neg_tmod, Int.tmod_eq_emod_of_nonneg (by omega)]
    have hj : (0 : Int) ≤ -(i + 1) := by omega
    go_enter Try.func13, Try.ntmps13
    go_wp2
    go_ret
    exact ⟨by rw [HP.out]; rfl, rfl⟩
  · have HP : Hid (plc i n = i % n) := by unfold Hid plc; rw [if_neg hi]
    have hj : (0 : Int) ≤ i := by omega
    clear hi
    go_enter Try.func13, Try.ntmps13
    go_wp2
    go_ret
    exact ⟨by rw [HP.out]; rfl, rfl⟩
set_option maxHeartbeats 1000000 in
theorem lcol_any {ao : Option Addr} {n c k : Nat} {l : List UInt8} {w : World} (hk : k ≤ n) (HT : Hid (Tx w ao n c l)) :
    Calls Try.prog 16 #[.slice ao n c, .int .i64 k] w fun e w' => e = .returned (.int .i64 ((k - bg l k : Nat) : Int)) ∧ w' = w := by
  go_enter Try.func16, Try.ntmps16
  go_wp2_with (go_at_call 33; refine (col_is hk HT).mono ?_; rintro e w' ⟨rfl, hw⟩; subst hw)
  go_ret
  exact ⟨rfl, rfl⟩
/-- Rest at a place -/
theorem rest_at8 {ao : Option Addr} {n c k : Nat} {l : List UInt8} {w : World} (hk : k ≤ n) (HT : Hid (Tx w ao n c l)) :
    Calls Try.prog 12 #[.slice ao n c, .int .i64 k] w fun e w' => e = .returned (.int .i64 (rs l k)) ∧ w' = w := by
  have hb := HT.out.big
  have := rest_any ao n c (k : Int) l w (by omega) (by omega) HT
  rwa [cl_nat (by rw [HT.out.len]; exact hk)] at this
end Go.Proofs.Ytbkhbnmihnomaaa
