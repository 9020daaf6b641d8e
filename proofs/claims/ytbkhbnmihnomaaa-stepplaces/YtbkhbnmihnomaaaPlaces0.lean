/- quoinlaw07.StepPlaces where what is asked is wrong. -/
import Derived.Test.YtbkhbnmihnomaaaRowsW
namespace Go.Proofs.Ytbkhbnmihnomaaa
open Go.RowKit

set_option maxRecDepth 4000 in
set_option maxHeartbeats 2000000 in
theorem places_bad0 (ao : Option Addr) (n c : Nat) (i want cnt : Int) (l : List UInt8) (s : ByteArray) (w : World) (hw2 : want ≤ 9223372036854775807) (HT : Hid (Tx w ao n c l)) (h1 : i < 0) :
    Calls Try.prog 5 #[.slice ao n c, .agg #[.int .i64 i, .int .i64 want, .int .i64 cnt, .string s]] w fun e w' => e = .returned (.bool true) ∧ Below w.heap.size w w' := by
  have HB : Hid (okB l i want cnt s = false) := by
    unfold Hid
    cases h : okB l i want cnt s with
    | false => rfl
    | true =>
      exfalso
      have hl := HT.out.len
      unfold okB plB at h
      simp only [Bool.and_eq_true, decide_eq_true_eq] at h
      omega
  have hbig : (n : Int) ≤ 140737488355328 := by have := HT.out.big; omega
  have hn0 : (0 : Int) ≤ (n : Int) := by omega
  go_enter Try.func5, Try.ntmps5
  go_wp2_with fail
  refine (awake_any _).mono ?_
  rintro e w1 ⟨rfl, hb1⟩
  have m0 : w1.cell? ⟨w.heap.size, 0, none⟩ = some (.int .i64 i) := by rw [(bcell hb1).1 _ _ (by simp)]; simp [go_sem]
  have m1 : w1.cell? ⟨w.heap.size, 1, none⟩ = some (.int .i64 want) := by rw [(bcell hb1).1 _ _ (by simp)]; simp [go_sem]
  have m2 : w1.cell? ⟨w.heap.size, 2, none⟩ = some (.int .i64 cnt) := by rw [(bcell hb1).1 _ _ (by simp)]; simp [go_sem]
  have m3 : w1.cell? ⟨w.heap.size, 3, none⟩ = some (.string s) := by rw [(bcell hb1).1 _ _ (by simp)]; simp [go_sem]
  have hz1 : w.heap.size < w1.heap.size := by have := hb1.size; simp at this; omega
  have B1 := Hid.mk' (bT (bAlloc (Below.refl _ _) _) hb1)
  clear hb1
  go_wp2_with fail
  refine (move_any ao n c i want cnt l s _ hw2 (Hid.mk' (HT.out.keep B1.out))).mono ?_
  rintro e w2 ⟨rfl, hb2⟩
  rw [mvE_bad HB.out]
  have r0 : ∀ o, w2.cell? ⟨w.heap.size, o, none⟩ = w1.cell? ⟨w.heap.size, o, none⟩ := fun o => (bcell hb2).1 _ _ hz1
  have hz2 : w.heap.size < w2.heap.size := by have := hb2.size; omega
  have B2 := Hid.mk' (bT B1.out hb2)
  clear hb2
  go_wp2
  go_ret
  exact ⟨rfl, bAlloc B2.out _⟩

set_option maxRecDepth 4000 in
set_option maxHeartbeats 2000000 in
theorem places_bad1 (ao : Option Addr) (n c : Nat) (i want cnt : Int) (l : List UInt8) (s : ByteArray) (w : World) (hw2 : want ≤ 9223372036854775807) (HT : Hid (Tx w ao n c l)) (h1 : 0 ≤ i) (h2 : (n : Int) < i) :
    Calls Try.prog 5 #[.slice ao n c, .agg #[.int .i64 i, .int .i64 want, .int .i64 cnt, .string s]] w fun e w' => e = .returned (.bool true) ∧ Below w.heap.size w w' := by
  have HB : Hid (okB l i want cnt s = false) := by
    unfold Hid
    cases h : okB l i want cnt s with
    | false => rfl
    | true =>
      exfalso
      have hl := HT.out.len
      unfold okB plB at h
      simp only [Bool.and_eq_true, decide_eq_true_eq] at h
      omega
  have hbig : (n : Int) ≤ 140737488355328 := by have := HT.out.big; omega
  have hn0 : (0 : Int) ≤ (n : Int) := by omega
  go_enter Try.func5, Try.ntmps5
  go_wp2_with fail
  refine (awake_any _).mono ?_
  rintro e w1 ⟨rfl, hb1⟩
  have m0 : w1.cell? ⟨w.heap.size, 0, none⟩ = some (.int .i64 i) := by rw [(bcell hb1).1 _ _ (by simp)]; simp [go_sem]
  have m1 : w1.cell? ⟨w.heap.size, 1, none⟩ = some (.int .i64 want) := by rw [(bcell hb1).1 _ _ (by simp)]; simp [go_sem]
  have m2 : w1.cell? ⟨w.heap.size, 2, none⟩ = some (.int .i64 cnt) := by rw [(bcell hb1).1 _ _ (by simp)]; simp [go_sem]
  have m3 : w1.cell? ⟨w.heap.size, 3, none⟩ = some (.string s) := by rw [(bcell hb1).1 _ _ (by simp)]; simp [go_sem]
  have hz1 : w.heap.size < w1.heap.size := by have := hb1.size; simp at this; omega
  have B1 := Hid.mk' (bT (bAlloc (Below.refl _ _) _) hb1)
  clear hb1
  go_wp2_with fail
  refine (move_any ao n c i want cnt l s _ hw2 (Hid.mk' (HT.out.keep B1.out))).mono ?_
  rintro e w2 ⟨rfl, hb2⟩
  rw [mvE_bad HB.out]
  have r0 : ∀ o, w2.cell? ⟨w.heap.size, o, none⟩ = w1.cell? ⟨w.heap.size, o, none⟩ := fun o => (bcell hb2).1 _ _ hz1
  have hz2 : w.heap.size < w2.heap.size := by have := hb2.size; omega
  have B2 := Hid.mk' (bT B1.out hb2)
  clear hb2
  go_wp2
  go_ret
  exact ⟨rfl, bAlloc B2.out _⟩

set_option maxRecDepth 4000 in
set_option maxHeartbeats 2000000 in
theorem places_bad2 (ao : Option Addr) (n c : Nat) (i want cnt : Int) (l : List UInt8) (s : ByteArray) (w : World) (hw2 : want ≤ 9223372036854775807) (HT : Hid (Tx w ao n c l)) (h1 : 0 ≤ i) (h2 : i ≤ (n : Int)) (h3 : want < -1) :
    Calls Try.prog 5 #[.slice ao n c, .agg #[.int .i64 i, .int .i64 want, .int .i64 cnt, .string s]] w fun e w' => e = .returned (.bool true) ∧ Below w.heap.size w w' := by
  have HB : Hid (okB l i want cnt s = false) := by
    unfold Hid
    cases h : okB l i want cnt s with
    | false => rfl
    | true =>
      exfalso
      have hl := HT.out.len
      unfold okB plB at h
      simp only [Bool.and_eq_true, decide_eq_true_eq] at h
      omega
  have hbig : (n : Int) ≤ 140737488355328 := by have := HT.out.big; omega
  have hn0 : (0 : Int) ≤ (n : Int) := by omega
  go_enter Try.func5, Try.ntmps5
  go_wp2_with fail
  refine (awake_any _).mono ?_
  rintro e w1 ⟨rfl, hb1⟩
  have m0 : w1.cell? ⟨w.heap.size, 0, none⟩ = some (.int .i64 i) := by rw [(bcell hb1).1 _ _ (by simp)]; simp [go_sem]
  have m1 : w1.cell? ⟨w.heap.size, 1, none⟩ = some (.int .i64 want) := by rw [(bcell hb1).1 _ _ (by simp)]; simp [go_sem]
  have m2 : w1.cell? ⟨w.heap.size, 2, none⟩ = some (.int .i64 cnt) := by rw [(bcell hb1).1 _ _ (by simp)]; simp [go_sem]
  have m3 : w1.cell? ⟨w.heap.size, 3, none⟩ = some (.string s) := by rw [(bcell hb1).1 _ _ (by simp)]; simp [go_sem]
  have hz1 : w.heap.size < w1.heap.size := by have := hb1.size; simp at this; omega
  have B1 := Hid.mk' (bT (bAlloc (Below.refl _ _) _) hb1)
  clear hb1
  go_wp2_with fail
  refine (move_any ao n c i want cnt l s _ hw2 (Hid.mk' (HT.out.keep B1.out))).mono ?_
  rintro e w2 ⟨rfl, hb2⟩
  rw [mvE_bad HB.out]
  have r0 : ∀ o, w2.cell? ⟨w.heap.size, o, none⟩ = w1.cell? ⟨w.heap.size, o, none⟩ := fun o => (bcell hb2).1 _ _ hz1
  have hz2 : w.heap.size < w2.heap.size := by have := hb2.size; omega
  have B2 := Hid.mk' (bT B1.out hb2)
  clear hb2
  go_wp2
  go_ret
  exact ⟨rfl, bAlloc B2.out _⟩

set_option maxRecDepth 4000 in
set_option maxHeartbeats 2000000 in
theorem places_bad3 (ao : Option Addr) (n c : Nat) (i want cnt : Int) (l : List UInt8) (s : ByteArray) (w : World) (hw2 : want ≤ 9223372036854775807) (HT : Hid (Tx w ao n c l)) (h1 : 0 ≤ i) (h2 : i ≤ (n : Int)) (h3 : -1 ≤ want) (h4 : cnt < 0) :
    Calls Try.prog 5 #[.slice ao n c, .agg #[.int .i64 i, .int .i64 want, .int .i64 cnt, .string s]] w fun e w' => e = .returned (.bool true) ∧ Below w.heap.size w w' := by
  have HB : Hid (okB l i want cnt s = false) := by
    unfold Hid
    cases h : okB l i want cnt s with
    | false => rfl
    | true =>
      exfalso
      have hl := HT.out.len
      unfold okB plB at h
      simp only [Bool.and_eq_true, decide_eq_true_eq] at h
      omega
  have hbig : (n : Int) ≤ 140737488355328 := by have := HT.out.big; omega
  have hn0 : (0 : Int) ≤ (n : Int) := by omega
  go_enter Try.func5, Try.ntmps5
  go_wp2_with fail
  refine (awake_any _).mono ?_
  rintro e w1 ⟨rfl, hb1⟩
  have m0 : w1.cell? ⟨w.heap.size, 0, none⟩ = some (.int .i64 i) := by rw [(bcell hb1).1 _ _ (by simp)]; simp [go_sem]
  have m1 : w1.cell? ⟨w.heap.size, 1, none⟩ = some (.int .i64 want) := by rw [(bcell hb1).1 _ _ (by simp)]; simp [go_sem]
  have m2 : w1.cell? ⟨w.heap.size, 2, none⟩ = some (.int .i64 cnt) := by rw [(bcell hb1).1 _ _ (by simp)]; simp [go_sem]
  have m3 : w1.cell? ⟨w.heap.size, 3, none⟩ = some (.string s) := by rw [(bcell hb1).1 _ _ (by simp)]; simp [go_sem]
  have hz1 : w.heap.size < w1.heap.size := by have := hb1.size; simp at this; omega
  have B1 := Hid.mk' (bT (bAlloc (Below.refl _ _) _) hb1)
  clear hb1
  go_wp2_with fail
  refine (move_any ao n c i want cnt l s _ hw2 (Hid.mk' (HT.out.keep B1.out))).mono ?_
  rintro e w2 ⟨rfl, hb2⟩
  rw [mvE_bad HB.out]
  have r0 : ∀ o, w2.cell? ⟨w.heap.size, o, none⟩ = w1.cell? ⟨w.heap.size, o, none⟩ := fun o => (bcell hb2).1 _ _ hz1
  have hz2 : w.heap.size < w2.heap.size := by have := hb2.size; omega
  have B2 := Hid.mk' (bT B1.out hb2)
  clear hb2
  go_wp2
  go_ret
  exact ⟨rfl, bAlloc B2.out _⟩

set_option maxRecDepth 4000 in
set_option maxHeartbeats 2000000 in
theorem places_bad4 (ao : Option Addr) (n c : Nat) (i want cnt : Int) (l : List UInt8) (s : ByteArray) (w : World) (hw2 : want ≤ 9223372036854775807) (HT : Hid (Tx w ao n c l)) (h1 : 0 ≤ i) (h2 : i ≤ (n : Int)) (h3 : -1 ≤ want) (h4 : 0 ≤ cnt) (h5 : 9999 < cnt) :
    Calls Try.prog 5 #[.slice ao n c, .agg #[.int .i64 i, .int .i64 want, .int .i64 cnt, .string s]] w fun e w' => e = .returned (.bool true) ∧ Below w.heap.size w w' := by
  have HB : Hid (okB l i want cnt s = false) := by
    unfold Hid
    cases h : okB l i want cnt s with
    | false => rfl
    | true =>
      exfalso
      have hl := HT.out.len
      unfold okB plB at h
      simp only [Bool.and_eq_true, decide_eq_true_eq] at h
      omega
  have hbig : (n : Int) ≤ 140737488355328 := by have := HT.out.big; omega
  have hn0 : (0 : Int) ≤ (n : Int) := by omega
  go_enter Try.func5, Try.ntmps5
  go_wp2_with fail
  refine (awake_any _).mono ?_
  rintro e w1 ⟨rfl, hb1⟩
  have m0 : w1.cell? ⟨w.heap.size, 0, none⟩ = some (.int .i64 i) := by rw [(bcell hb1).1 _ _ (by simp)]; simp [go_sem]
  have m1 : w1.cell? ⟨w.heap.size, 1, none⟩ = some (.int .i64 want) := by rw [(bcell hb1).1 _ _ (by simp)]; simp [go_sem]
  have m2 : w1.cell? ⟨w.heap.size, 2, none⟩ = some (.int .i64 cnt) := by rw [(bcell hb1).1 _ _ (by simp)]; simp [go_sem]
  have m3 : w1.cell? ⟨w.heap.size, 3, none⟩ = some (.string s) := by rw [(bcell hb1).1 _ _ (by simp)]; simp [go_sem]
  have hz1 : w.heap.size < w1.heap.size := by have := hb1.size; simp at this; omega
  have B1 := Hid.mk' (bT (bAlloc (Below.refl _ _) _) hb1)
  clear hb1
  go_wp2_with fail
  refine (move_any ao n c i want cnt l s _ hw2 (Hid.mk' (HT.out.keep B1.out))).mono ?_
  rintro e w2 ⟨rfl, hb2⟩
  rw [mvE_bad HB.out]
  have r0 : ∀ o, w2.cell? ⟨w.heap.size, o, none⟩ = w1.cell? ⟨w.heap.size, o, none⟩ := fun o => (bcell hb2).1 _ _ hz1
  have hz2 : w.heap.size < w2.heap.size := by have := hb2.size; omega
  have B2 := Hid.mk' (bT B1.out hb2)
  clear hb2
  go_wp2
  go_ret
  exact ⟨rfl, bAlloc B2.out _⟩
end Go.Proofs.Ytbkhbnmihnomaaa
