/- The contracts of the reference's Move and Again. -/
import Derived.Test.YtinlkeionoghdaaHitd
namespace Go.Proofs.Ytinlkeionoghdaa
open Go.RowKit

theorem rmove_key (ao : Option Addr) (n c p m sk : Nat) (cnt key b : Int) (l : List UInt8) (w : World) (hn : n ≤ 1048576) (hp : p ≤ n) (hsk : sk ≤ 1) (hc : cnt = (m : Int) ∧ 1 ≤ m ∨ cnt = 0 ∧ m = 1) (hN : m ≤ 9999) (hk : kq key ≠ 0) (HT : Hid (Tx w ao n c l)) :
    Calls Try.prog 17 #[.slice ao n c, .int .i64 p, .int .i64 cnt, .int .u8 key, .int .u8 b, .int .i64 sk] w fun e w' => e = mvE (res p (kq key) (hit l b p m sk (kq key))) ∧ Below w.heap.size w w' := by
  rcases kq_cases key with ⟨rfl, h⟩ | ⟨rfl, h⟩ | ⟨rfl, h⟩ | ⟨rfl, h⟩ | ⟨g1, g2, g3, g4, h⟩
  · exact rmove_1 ao n c p m sk cnt b l w hn hp hsk hc hN HT
  · exact rmove_2 ao n c p m sk cnt b l w hn hp hsk hc hN HT
  · exact rmove_3 ao n c p m sk cnt b l w hn hp hsk hc hN HT
  · exact rmove_4 ao n c p m sk cnt b l w hn hp hsk hc hN HT
  · exact absurd h hk
set_option maxHeartbeats 1000000 in
theorem r10_no (ao : Option Addr) (n c : Nat) (i cnt key b : Int) (l : List UInt8) (w : World) (hl : l.length = n) (h : okB l i cnt = false) :
    Calls Try.prog 10 #[.slice ao n c, .int .i64 i, .int .i64 cnt, .agg #[.int .u8 key, .int .u8 b]] w fun e w' => e = .returned (.tuple #[.agg #[.int .i64 0, .int .i64 0, .int .i64 0], .int .i64 2]) ∧ Below w.heap.size w w' := by
  have I := Hid.mk' (fun w => bad_any ao n c i cnt l w hl)
  rw [h] at I
  clear h
  go_enter Try.func10, Try.ntmps10
  go_wp2_with fail
  refine (I.out _).mono ?_
  rintro e w2 ⟨rfl, hw⟩
  have hq := hw.symm; subst hq; clear hw
  go_wp2
  exact bodyPost_ret (v := .tuple #[.agg #[.int .i64 0, .int .i64 0, .int .i64 0], .int .i64 2]) (by simp [results, Try.results10, go_sem]) rfl ⟨rfl, by repeat (first | exact bAlloc (bAlloc (Below.refl _ _) _) _ | refine bset ?_ _ (by simp))⟩
set_option maxHeartbeats 1000000 in
theorem r10_none (ao : Option Addr) (n c : Nat) (i cnt key b : Int) (l : List UInt8) (w : World) (hl : l.length = n) (h : okB l i cnt = true) (hk : kq key = 0) :
    Calls Try.prog 10 #[.slice ao n c, .int .i64 i, .int .i64 cnt, .agg #[.int .u8 key, .int .u8 b]] w fun e w' => e = .returned (.tuple #[.agg #[.int .i64 0, .int .i64 0, .int .i64 0], .int .i64 2]) ∧ Below w.heap.size w w' := by
  have I := Hid.mk' (fun w => bad_any ao n c i cnt l w hl)
  rw [h] at I
  have K := Hid.mk' (isKey_any key)
  rw [show decide (kq key ≠ 0) = false from by rw [hk]; rfl] at K
  clear h hk
  go_enter Try.func10, Try.ntmps10
  go_wp2_with fail
  refine (I.out _).mono ?_
  rintro e w2 ⟨rfl, hw⟩
  have hq := hw.symm; subst hq; clear hw
  go_wp2_with fail
  refine (K.out _).mono ?_
  rintro e w2 ⟨rfl, hw⟩
  have hq := hw.symm; subst hq; clear hw
  go_wp2
  exact bodyPost_ret (v := .tuple #[.agg #[.int .i64 0, .int .i64 0, .int .i64 0], .int .i64 2]) (by simp [results, Try.results10, go_sem]) rfl ⟨rfl, by repeat (first | exact bAlloc (bAlloc (Below.refl _ _) _) _ | refine bset ?_ _ (by simp))⟩
set_option maxHeartbeats 1000000 in
theorem r10_yes (ao : Option Addr) (n c p m : Nat) (cnt key b : Int) (l : List UInt8) (w : World) (hn : n ≤ 1048576) (HT : Hid (Tx w ao n c l)) (h : okB l (p : Int) cnt = true) (hp : p ≤ n) (hc : cnt = (m : Int) ∧ 1 ≤ m ∨ cnt = 0 ∧ m = 1) (hN : m ≤ 9999) (hk : kq key ≠ 0) :
    Calls Try.prog 10 #[.slice ao n c, .int .i64 p, .int .i64 cnt, .agg #[.int .u8 key, .int .u8 b]] w fun e w' => e = mvE (res p (kq key) (hit l b p m 0 (kq key))) ∧ Below w.heap.size w w' := by
  have I := Hid.mk' (fun w => bad_any ao n c p cnt l w HT.out.len)
  rw [h] at I
  have K := Hid.mk' (isKey_any key)
  rw [show decide (kq key ≠ 0) = true from decide_eq_true hk] at K
  have R := Hid.mk' (fun w HT => rmove_key ao n c p m 0 cnt key b l w hn hp (by omega) hc hN hk HT)
  clear h hk hc
  generalize res p (kq key) (hit l b p m 0 (kq key)) = R' at *
  obtain ⟨x0, x1, x2, x3⟩ := R'
  have T2 := Hid.mk' (fun x y : Obj => Hid.mk' (HT.out.keep (bAlloc (bAlloc (Below.refl _ _) x) y)))
  go_enter Try.func10, Try.ntmps10
  go_wp2_with fail
  refine (I.out _).mono ?_
  rintro e w2 ⟨rfl, hw⟩
  have hq := hw.symm; subst hq; clear hw
  go_wp2_with fail
  refine (K.out _).mono ?_
  rintro e w2 ⟨rfl, hw⟩
  have hq := hw.symm; subst hq; clear hw
  go_wp2_with fail
  refine (R.out _ (T2.out _ _)).mono ?_
  rintro e w2 ⟨rfl, hb2⟩
  rw [mvE_def]
  dsimp only
  have C2 := fun b o h => (bcell hb2).1 b o h
  have F2 := fun b o h => (bcell hb2).2 b o h
  have hz3 : w.heap.size + 1 < w2.heap.size := by have := hb2.size; simp at this; omega
  have B3 := Hid.mk' (bT (bAlloc (bAlloc (Below.refl _ _) _) _) hb2)
  have r0 : ∀ o, w2.cell? ⟨w.heap.size + 1, o, none⟩ = ((w.alloc (.cells #[.int .u8 key, .int .u8 b] 24)).alloc (.cells #[.int .i64 0, .int .i64 0, .int .i64 0] 29)).cell? ⟨w.heap.size + 1, o, none⟩ := fun o => by
    rw [C2 _ o (by simp)]
  have g0 : ∀ o, w2.frozen? ⟨w.heap.size + 1, o, none⟩ = ((w.alloc (.cells #[.int .u8 key, .int .u8 b] 24)).alloc (.cells #[.int .i64 0, .int .i64 0, .int .i64 0] 29)).frozen? ⟨w.heap.size + 1, o, none⟩ := fun o => by
    rw [F2 _ o (by simp)]
  clear C2 F2 hb2
  go_wp2
  exact bodyPost_ret (v := .tuple #[.agg #[.int .i64 x0, .int .i64 x1, .int .i64 x2], .int .i64 x3]) (by simp [results, Try.results10, go_sem, r0]) rfl ⟨rfl, bset (bset (bset B3.out _ (by simp)) _ (by simp)) _ (by simp)⟩
theorem r10_any (ao : Option Addr) (n c : Nat) (i cnt key b : Int) (l : List UInt8) (w : World) (hn : n ≤ 1048576) (HT : Hid (Tx w ao n c l)) :
    Calls Try.prog 10 #[.slice ao n c, .int .i64 i, .int .i64 cnt, .agg #[.int .u8 key, .int .u8 b]] w fun e w' => e = mvE (mv l i cnt key b) ∧ Below w.heap.size w w' := by
  have hl := HT.out.len
  cases h : okB l i cnt with
  | false => unfold mv; rw [h]; exact r10_no ao n c i cnt key b l w hl h
  | true =>
    obtain ⟨p, rfl, hp, h0, h1⟩ := ok_yes h
    by_cases hk : kq key = 0
    · unfold mv; rw [h, hk]; exact r10_none ao n c p cnt key b l w hl h hk
    · unfold mv; rw [h, if_pos rfl, if_neg hk, Int.toNat_natCast]
      exact r10_yes ao n c p (max cnt 1).toNat cnt key b l w hn HT h (by omega) (by omega) (by omega) hk

set_option maxHeartbeats 1000000 in
theorem r13_no (ao : Option Addr) (n c : Nat) (i cnt key b : Int) (t : Bool) (l : List UInt8) (w : World) (hl : l.length = n) (h : okB l i cnt = false) :
    Calls Try.prog 13 #[.slice ao n c, .int .i64 i, .int .i64 cnt, .agg #[.int .u8 key, .int .u8 b], .bool t] w fun e w' => e = .returned (.tuple #[.agg #[.int .i64 0, .int .i64 0, .int .i64 0], .int .i64 2]) ∧ Below w.heap.size w w' := by
  have I := Hid.mk' (fun w => bad_any ao n c i cnt l w hl)
  rw [h] at I
  clear h
  go_enter Try.func13, Try.ntmps13
  go_wp2_with fail
  refine (I.out _).mono ?_
  rintro e w2 ⟨rfl, hw⟩
  have hq := hw.symm; subst hq; clear hw
  go_wp2
  exact bodyPost_ret (v := .tuple #[.agg #[.int .i64 0, .int .i64 0, .int .i64 0], .int .i64 2]) (by simp [results, Try.results13, go_sem]) rfl ⟨rfl, by repeat (first | exact bAlloc (bAlloc (Below.refl _ _) _) _ | refine bset ?_ _ (by simp))⟩
set_option maxHeartbeats 1000000 in
theorem r13_zero (ao : Option Addr) (n c : Nat) (i cnt b : Int) (t : Bool) (l : List UInt8) (w : World) (hl : l.length = n) (h : okB l i cnt = true) :
    Calls Try.prog 13 #[.slice ao n c, .int .i64 i, .int .i64 cnt, .agg #[.int .u8 0, .int .u8 b], .bool t] w fun e w' => e = .returned (.tuple #[.agg #[.int .i64 0, .int .i64 0, .int .i64 0], .int .i64 70]) ∧ Below w.heap.size w w' := by
  have I := Hid.mk' (fun w => bad_any ao n c i cnt l w hl)
  rw [h] at I
  clear h
  go_enter Try.func13, Try.ntmps13
  go_wp2_with fail
  refine (I.out _).mono ?_
  rintro e w2 ⟨rfl, hw⟩
  have hq := hw.symm; subst hq; clear hw
  go_wp2
  exact bodyPost_ret (v := .tuple #[.agg #[.int .i64 0, .int .i64 0, .int .i64 0], .int .i64 70]) (by simp [results, Try.results13, go_sem]) rfl ⟨rfl, by repeat (first | exact bAlloc (bAlloc (Below.refl _ _) _) _ | refine bset ?_ _ (by simp))⟩
set_option maxHeartbeats 1000000 in
theorem r13_none (ao : Option Addr) (n c : Nat) (i cnt key b : Int) (t : Bool) (l : List UInt8) (w : World) (hl : l.length = n) (h : okB l i cnt = true) (h0 : key ≠ 0) (hk : kq key = 0) :
    Calls Try.prog 13 #[.slice ao n c, .int .i64 i, .int .i64 cnt, .agg #[.int .u8 key, .int .u8 b], .bool t] w fun e w' => e = .returned (.tuple #[.agg #[.int .i64 0, .int .i64 0, .int .i64 0], .int .i64 2]) ∧ Below w.heap.size w w' := by
  have I := Hid.mk' (fun w => bad_any ao n c i cnt l w hl)
  rw [h] at I
  have K := Hid.mk' (isKey_any key)
  rw [show decide (kq key ≠ 0) = false from by rw [hk]; rfl] at K
  have hk0 : (key == 0) = false := beq_false_of_ne h0
  clear h hk h0
  go_enter Try.func13, Try.ntmps13
  go_wp2_with fail
  refine (I.out _).mono ?_
  rintro e w2 ⟨rfl, hw⟩
  have hq := hw.symm; subst hq; clear hw
  go_wp2_with fail
  refine (K.out _).mono ?_
  rintro e w2 ⟨rfl, hw⟩
  have hq := hw.symm; subst hq; clear hw
  go_wp2
  exact bodyPost_ret (v := .tuple #[.agg #[.int .i64 0, .int .i64 0, .int .i64 0], .int .i64 2]) (by simp [results, Try.results13, go_sem]) rfl ⟨rfl, by repeat (first | exact bAlloc (bAlloc (Below.refl _ _) _) _ | refine bset ?_ _ (by simp))⟩
set_option maxHeartbeats 1000000 in
theorem r13_1false (ao : Option Addr) (n c p m : Nat) (cnt b : Int) (l : List UInt8) (w : World) (hn : n ≤ 1048576) (HT : Hid (Tx w ao n c l)) (h : okB l (p : Int) cnt = true) (hp : p ≤ n) (hc : cnt = (m : Int) ∧ 1 ≤ m ∨ cnt = 0 ∧ m = 1) (hN : m ≤ 9999) :
    Calls Try.prog 13 #[.slice ao n c, .int .i64 p, .int .i64 cnt, .agg #[.int .u8 102, .int .u8 b], .bool false] w fun e w' => e = mvE (res p 1 (hit l b p m 0 1)) ∧ Below w.heap.size w w' := by
  have I := Hid.mk' (fun w => bad_any ao n c p cnt l w HT.out.len)
  rw [h] at I
  have K := Hid.mk' (isKey_any 102)
  rw [show decide (kq 102 ≠ 0) = true from rfl] at K
  have R := Hid.mk' (fun w HT => rmove_1 ao n c p m 0 cnt b l w hn hp (by omega) hc hN HT)
  have hx : bits BinOp.xor IntKind.u8 102 32 = 70 := by decide +kernel
  clear h hc
  generalize res p 1 (hit l b p m 0 1) = R' at *
  obtain ⟨x0, x1, x2, x3⟩ := R'
  have T2 := Hid.mk' (fun x y : Obj => Hid.mk' (HT.out.keep (bAlloc (bAlloc (Below.refl _ _) x) y)))
  go_enter Try.func13, Try.ntmps13
  go_wp2_with fail
  refine (I.out _).mono ?_
  rintro e w2 ⟨rfl, hw⟩
  have hq := hw.symm; subst hq; clear hw
  go_wp2_with fail
  refine (K.out _).mono ?_
  rintro e w2 ⟨rfl, hw⟩
  have hq := hw.symm; subst hq; clear hw
  go_wp2_with fail
  refine (R.out _ (T2.out _ _)).mono ?_
  rintro e w2 ⟨rfl, hb2⟩
  rw [mvE_def]
  dsimp only
  have C2 := fun b o h => (bcell hb2).1 b o h
  have F2 := fun b o h => (bcell hb2).2 b o h
  have hz3 : w.heap.size + 1 < w2.heap.size := by have := hb2.size; simp at this; omega
  have B3 := Hid.mk' (bT (bAlloc (bAlloc (Below.refl _ _) _) _) hb2)
  have r0 : ∀ o, w2.cell? ⟨w.heap.size + 1, o, none⟩ = ((w.alloc (.cells #[.int .u8 102, .int .u8 b] 24)).alloc (.cells #[.int .i64 0, .int .i64 0, .int .i64 0] 29)).cell? ⟨w.heap.size + 1, o, none⟩ := fun o => by
    rw [C2 _ o (by simp)]
  have g0 : ∀ o, w2.frozen? ⟨w.heap.size + 1, o, none⟩ = ((w.alloc (.cells #[.int .u8 102, .int .u8 b] 24)).alloc (.cells #[.int .i64 0, .int .i64 0, .int .i64 0] 29)).frozen? ⟨w.heap.size + 1, o, none⟩ := fun o => by
    rw [F2 _ o (by simp)]
  clear C2 F2 hb2
  go_wp2
  exact bodyPost_ret (v := .tuple #[.agg #[.int .i64 x0, .int .i64 x1, .int .i64 x2], .int .i64 x3]) (by simp [results, Try.results13, go_sem, r0]) rfl ⟨rfl, bset (bset (bset B3.out _ (by simp)) _ (by simp)) _ (by simp)⟩
set_option maxHeartbeats 1000000 in
theorem r13_1true (ao : Option Addr) (n c p m : Nat) (cnt b : Int) (l : List UInt8) (w : World) (hn : n ≤ 1048576) (HT : Hid (Tx w ao n c l)) (h : okB l (p : Int) cnt = true) (hp : p ≤ n) (hc : cnt = (m : Int) ∧ 1 ≤ m ∨ cnt = 0 ∧ m = 1) (hN : m ≤ 9999) :
    Calls Try.prog 13 #[.slice ao n c, .int .i64 p, .int .i64 cnt, .agg #[.int .u8 102, .int .u8 b], .bool true] w fun e w' => e = mvE (res p 3 (hit l b p m 0 3)) ∧ Below w.heap.size w w' := by
  have I := Hid.mk' (fun w => bad_any ao n c p cnt l w HT.out.len)
  rw [h] at I
  have K := Hid.mk' (isKey_any 102)
  rw [show decide (kq 102 ≠ 0) = true from rfl] at K
  have R := Hid.mk' (fun w HT => rmove_3 ao n c p m 0 cnt b l w hn hp (by omega) hc hN HT)
  have hx : bits BinOp.xor IntKind.u8 102 32 = 70 := by decide +kernel
  clear h hc
  generalize res p 3 (hit l b p m 0 3) = R' at *
  obtain ⟨x0, x1, x2, x3⟩ := R'
  have T2 := Hid.mk' (fun x y : Obj => Hid.mk' (HT.out.keep (bAlloc (bAlloc (Below.refl _ _) x) y)))
  go_enter Try.func13, Try.ntmps13
  go_wp2_with fail
  refine (I.out _).mono ?_
  rintro e w2 ⟨rfl, hw⟩
  have hq := hw.symm; subst hq; clear hw
  go_wp2_with fail
  refine (K.out _).mono ?_
  rintro e w2 ⟨rfl, hw⟩
  have hq := hw.symm; subst hq; clear hw
  go_wp2_with fail
  refine (R.out _ (T2.out _ _)).mono ?_
  rintro e w2 ⟨rfl, hb2⟩
  rw [mvE_def]
  dsimp only
  have C2 := fun b o h => (bcell hb2).1 b o h
  have F2 := fun b o h => (bcell hb2).2 b o h
  have hz3 : w.heap.size + 1 < w2.heap.size := by have := hb2.size; simp at this; omega
  have B3 := Hid.mk' (bT (bAlloc (bAlloc (Below.refl _ _) _) _) hb2)
  have r0 : ∀ o, w2.cell? ⟨w.heap.size + 1, o, none⟩ = ((w.alloc (.cells #[.int .u8 102, .int .u8 b] 24)).alloc (.cells #[.int .i64 0, .int .i64 0, .int .i64 0] 29)).cell? ⟨w.heap.size + 1, o, none⟩ := fun o => by
    rw [C2 _ o (by simp)]
  have g0 : ∀ o, w2.frozen? ⟨w.heap.size + 1, o, none⟩ = ((w.alloc (.cells #[.int .u8 102, .int .u8 b] 24)).alloc (.cells #[.int .i64 0, .int .i64 0, .int .i64 0] 29)).frozen? ⟨w.heap.size + 1, o, none⟩ := fun o => by
    rw [F2 _ o (by simp)]
  clear C2 F2 hb2
  go_wp2
  exact bodyPost_ret (v := .tuple #[.agg #[.int .i64 x0, .int .i64 x1, .int .i64 x2], .int .i64 x3]) (by simp [results, Try.results13, go_sem, r0]) rfl ⟨rfl, bset (bset (bset B3.out _ (by simp)) _ (by simp)) _ (by simp)⟩
set_option maxHeartbeats 1000000 in
theorem r13_2false (ao : Option Addr) (n c p m : Nat) (cnt b : Int) (l : List UInt8) (w : World) (hn : n ≤ 1048576) (HT : Hid (Tx w ao n c l)) (h : okB l (p : Int) cnt = true) (hp : p ≤ n) (hc : cnt = (m : Int) ∧ 1 ≤ m ∨ cnt = 0 ∧ m = 1) (hN : m ≤ 9999) :
    Calls Try.prog 13 #[.slice ao n c, .int .i64 p, .int .i64 cnt, .agg #[.int .u8 116, .int .u8 b], .bool false] w fun e w' => e = mvE (res p 2 (hit l b p m 1 2)) ∧ Below w.heap.size w w' := by
  have I := Hid.mk' (fun w => bad_any ao n c p cnt l w HT.out.len)
  rw [h] at I
  have K := Hid.mk' (isKey_any 116)
  rw [show decide (kq 116 ≠ 0) = true from rfl] at K
  have R := Hid.mk' (fun w HT => rmove_2 ao n c p m 1 cnt b l w hn hp (by omega) hc hN HT)
  have hx : bits BinOp.xor IntKind.u8 116 32 = 84 := by decide +kernel
  clear h hc
  generalize res p 2 (hit l b p m 1 2) = R' at *
  obtain ⟨x0, x1, x2, x3⟩ := R'
  have T2 := Hid.mk' (fun x y : Obj => Hid.mk' (HT.out.keep (bAlloc (bAlloc (Below.refl _ _) x) y)))
  go_enter Try.func13, Try.ntmps13
  go_wp2_with fail
  refine (I.out _).mono ?_
  rintro e w2 ⟨rfl, hw⟩
  have hq := hw.symm; subst hq; clear hw
  go_wp2_with fail
  refine (K.out _).mono ?_
  rintro e w2 ⟨rfl, hw⟩
  have hq := hw.symm; subst hq; clear hw
  go_wp2_with fail
  refine (R.out _ (T2.out _ _)).mono ?_
  rintro e w2 ⟨rfl, hb2⟩
  rw [mvE_def]
  dsimp only
  have C2 := fun b o h => (bcell hb2).1 b o h
  have F2 := fun b o h => (bcell hb2).2 b o h
  have hz3 : w.heap.size + 1 < w2.heap.size := by have := hb2.size; simp at this; omega
  have B3 := Hid.mk' (bT (bAlloc (bAlloc (Below.refl _ _) _) _) hb2)
  have r0 : ∀ o, w2.cell? ⟨w.heap.size + 1, o, none⟩ = ((w.alloc (.cells #[.int .u8 116, .int .u8 b] 24)).alloc (.cells #[.int .i64 0, .int .i64 0, .int .i64 0] 29)).cell? ⟨w.heap.size + 1, o, none⟩ := fun o => by
    rw [C2 _ o (by simp)]
  have g0 : ∀ o, w2.frozen? ⟨w.heap.size + 1, o, none⟩ = ((w.alloc (.cells #[.int .u8 116, .int .u8 b] 24)).alloc (.cells #[.int .i64 0, .int .i64 0, .int .i64 0] 29)).frozen? ⟨w.heap.size + 1, o, none⟩ := fun o => by
    rw [F2 _ o (by simp)]
  clear C2 F2 hb2
  go_wp2
  exact bodyPost_ret (v := .tuple #[.agg #[.int .i64 x0, .int .i64 x1, .int .i64 x2], .int .i64 x3]) (by simp [results, Try.results13, go_sem, r0]) rfl ⟨rfl, bset (bset (bset B3.out _ (by simp)) _ (by simp)) _ (by simp)⟩
set_option maxHeartbeats 1000000 in
theorem r13_2true (ao : Option Addr) (n c p m : Nat) (cnt b : Int) (l : List UInt8) (w : World) (hn : n ≤ 1048576) (HT : Hid (Tx w ao n c l)) (h : okB l (p : Int) cnt = true) (hp : p ≤ n) (hc : cnt = (m : Int) ∧ 1 ≤ m ∨ cnt = 0 ∧ m = 1) (hN : m ≤ 9999) :
    Calls Try.prog 13 #[.slice ao n c, .int .i64 p, .int .i64 cnt, .agg #[.int .u8 116, .int .u8 b], .bool true] w fun e w' => e = mvE (res p 4 (hit l b p m 1 4)) ∧ Below w.heap.size w w' := by
  have I := Hid.mk' (fun w => bad_any ao n c p cnt l w HT.out.len)
  rw [h] at I
  have K := Hid.mk' (isKey_any 116)
  rw [show decide (kq 116 ≠ 0) = true from rfl] at K
  have R := Hid.mk' (fun w HT => rmove_4 ao n c p m 1 cnt b l w hn hp (by omega) hc hN HT)
  have hx : bits BinOp.xor IntKind.u8 116 32 = 84 := by decide +kernel
  clear h hc
  generalize res p 4 (hit l b p m 1 4) = R' at *
  obtain ⟨x0, x1, x2, x3⟩ := R'
  have T2 := Hid.mk' (fun x y : Obj => Hid.mk' (HT.out.keep (bAlloc (bAlloc (Below.refl _ _) x) y)))
  go_enter Try.func13, Try.ntmps13
  go_wp2_with fail
  refine (I.out _).mono ?_
  rintro e w2 ⟨rfl, hw⟩
  have hq := hw.symm; subst hq; clear hw
  go_wp2_with fail
  refine (K.out _).mono ?_
  rintro e w2 ⟨rfl, hw⟩
  have hq := hw.symm; subst hq; clear hw
  go_wp2_with fail
  refine (R.out _ (T2.out _ _)).mono ?_
  rintro e w2 ⟨rfl, hb2⟩
  rw [mvE_def]
  dsimp only
  have C2 := fun b o h => (bcell hb2).1 b o h
  have F2 := fun b o h => (bcell hb2).2 b o h
  have hz3 : w.heap.size + 1 < w2.heap.size := by have := hb2.size; simp at this; omega
  have B3 := Hid.mk' (bT (bAlloc (bAlloc (Below.refl _ _) _) _) hb2)
  have r0 : ∀ o, w2.cell? ⟨w.heap.size + 1, o, none⟩ = ((w.alloc (.cells #[.int .u8 116, .int .u8 b] 24)).alloc (.cells #[.int .i64 0, .int .i64 0, .int .i64 0] 29)).cell? ⟨w.heap.size + 1, o, none⟩ := fun o => by
    rw [C2 _ o (by simp)]
  have g0 : ∀ o, w2.frozen? ⟨w.heap.size + 1, o, none⟩ = ((w.alloc (.cells #[.int .u8 116, .int .u8 b] 24)).alloc (.cells #[.int .i64 0, .int .i64 0, .int .i64 0] 29)).frozen? ⟨w.heap.size + 1, o, none⟩ := fun o => by
    rw [F2 _ o (by simp)]
  clear C2 F2 hb2
  go_wp2
  exact bodyPost_ret (v := .tuple #[.agg #[.int .i64 x0, .int .i64 x1, .int .i64 x2], .int .i64 x3]) (by simp [results, Try.results13, go_sem, r0]) rfl ⟨rfl, bset (bset (bset B3.out _ (by simp)) _ (by simp)) _ (by simp)⟩
set_option maxHeartbeats 1000000 in
theorem r13_3false (ao : Option Addr) (n c p m : Nat) (cnt b : Int) (l : List UInt8) (w : World) (hn : n ≤ 1048576) (HT : Hid (Tx w ao n c l)) (h : okB l (p : Int) cnt = true) (hp : p ≤ n) (hc : cnt = (m : Int) ∧ 1 ≤ m ∨ cnt = 0 ∧ m = 1) (hN : m ≤ 9999) :
    Calls Try.prog 13 #[.slice ao n c, .int .i64 p, .int .i64 cnt, .agg #[.int .u8 70, .int .u8 b], .bool false] w fun e w' => e = mvE (res p 3 (hit l b p m 0 3)) ∧ Below w.heap.size w w' := by
  have I := Hid.mk' (fun w => bad_any ao n c p cnt l w HT.out.len)
  rw [h] at I
  have K := Hid.mk' (isKey_any 70)
  rw [show decide (kq 70 ≠ 0) = true from rfl] at K
  have R := Hid.mk' (fun w HT => rmove_3 ao n c p m 0 cnt b l w hn hp (by omega) hc hN HT)
  have hx : bits BinOp.xor IntKind.u8 70 32 = 102 := by decide +kernel
  clear h hc
  generalize res p 3 (hit l b p m 0 3) = R' at *
  obtain ⟨x0, x1, x2, x3⟩ := R'
  have T2 := Hid.mk' (fun x y : Obj => Hid.mk' (HT.out.keep (bAlloc (bAlloc (Below.refl _ _) x) y)))
  go_enter Try.func13, Try.ntmps13
  go_wp2_with fail
  refine (I.out _).mono ?_
  rintro e w2 ⟨rfl, hw⟩
  have hq := hw.symm; subst hq; clear hw
  go_wp2_with fail
  refine (K.out _).mono ?_
  rintro e w2 ⟨rfl, hw⟩
  have hq := hw.symm; subst hq; clear hw
  go_wp2_with fail
  refine (R.out _ (T2.out _ _)).mono ?_
  rintro e w2 ⟨rfl, hb2⟩
  rw [mvE_def]
  dsimp only
  have C2 := fun b o h => (bcell hb2).1 b o h
  have F2 := fun b o h => (bcell hb2).2 b o h
  have hz3 : w.heap.size + 1 < w2.heap.size := by have := hb2.size; simp at this; omega
  have B3 := Hid.mk' (bT (bAlloc (bAlloc (Below.refl _ _) _) _) hb2)
  have r0 : ∀ o, w2.cell? ⟨w.heap.size + 1, o, none⟩ = ((w.alloc (.cells #[.int .u8 70, .int .u8 b] 24)).alloc (.cells #[.int .i64 0, .int .i64 0, .int .i64 0] 29)).cell? ⟨w.heap.size + 1, o, none⟩ := fun o => by
    rw [C2 _ o (by simp)]
  have g0 : ∀ o, w2.frozen? ⟨w.heap.size + 1, o, none⟩ = ((w.alloc (.cells #[.int .u8 70, .int .u8 b] 24)).alloc (.cells #[.int .i64 0, .int .i64 0, .int .i64 0] 29)).frozen? ⟨w.heap.size + 1, o, none⟩ := fun o => by
    rw [F2 _ o (by simp)]
  clear C2 F2 hb2
  go_wp2
  exact bodyPost_ret (v := .tuple #[.agg #[.int .i64 x0, .int .i64 x1, .int .i64 x2], .int .i64 x3]) (by simp [results, Try.results13, go_sem, r0]) rfl ⟨rfl, bset (bset (bset B3.out _ (by simp)) _ (by simp)) _ (by simp)⟩
set_option maxHeartbeats 1000000 in
theorem r13_3true (ao : Option Addr) (n c p m : Nat) (cnt b : Int) (l : List UInt8) (w : World) (hn : n ≤ 1048576) (HT : Hid (Tx w ao n c l)) (h : okB l (p : Int) cnt = true) (hp : p ≤ n) (hc : cnt = (m : Int) ∧ 1 ≤ m ∨ cnt = 0 ∧ m = 1) (hN : m ≤ 9999) :
    Calls Try.prog 13 #[.slice ao n c, .int .i64 p, .int .i64 cnt, .agg #[.int .u8 70, .int .u8 b], .bool true] w fun e w' => e = mvE (res p 1 (hit l b p m 0 1)) ∧ Below w.heap.size w w' := by
  have I := Hid.mk' (fun w => bad_any ao n c p cnt l w HT.out.len)
  rw [h] at I
  have K := Hid.mk' (isKey_any 70)
  rw [show decide (kq 70 ≠ 0) = true from rfl] at K
  have R := Hid.mk' (fun w HT => rmove_1 ao n c p m 0 cnt b l w hn hp (by omega) hc hN HT)
  have hx : bits BinOp.xor IntKind.u8 70 32 = 102 := by decide +kernel
  clear h hc
  generalize res p 1 (hit l b p m 0 1) = R' at *
  obtain ⟨x0, x1, x2, x3⟩ := R'
  have T2 := Hid.mk' (fun x y : Obj => Hid.mk' (HT.out.keep (bAlloc (bAlloc (Below.refl _ _) x) y)))
  go_enter Try.func13, Try.ntmps13
  go_wp2_with fail
  refine (I.out _).mono ?_
  rintro e w2 ⟨rfl, hw⟩
  have hq := hw.symm; subst hq; clear hw
  go_wp2_with fail
  refine (K.out _).mono ?_
  rintro e w2 ⟨rfl, hw⟩
  have hq := hw.symm; subst hq; clear hw
  go_wp2_with fail
  refine (R.out _ (T2.out _ _)).mono ?_
  rintro e w2 ⟨rfl, hb2⟩
  rw [mvE_def]
  dsimp only
  have C2 := fun b o h => (bcell hb2).1 b o h
  have F2 := fun b o h => (bcell hb2).2 b o h
  have hz3 : w.heap.size + 1 < w2.heap.size := by have := hb2.size; simp at this; omega
  have B3 := Hid.mk' (bT (bAlloc (bAlloc (Below.refl _ _) _) _) hb2)
  have r0 : ∀ o, w2.cell? ⟨w.heap.size + 1, o, none⟩ = ((w.alloc (.cells #[.int .u8 70, .int .u8 b] 24)).alloc (.cells #[.int .i64 0, .int .i64 0, .int .i64 0] 29)).cell? ⟨w.heap.size + 1, o, none⟩ := fun o => by
    rw [C2 _ o (by simp)]
  have g0 : ∀ o, w2.frozen? ⟨w.heap.size + 1, o, none⟩ = ((w.alloc (.cells #[.int .u8 70, .int .u8 b] 24)).alloc (.cells #[.int .i64 0, .int .i64 0, .int .i64 0] 29)).frozen? ⟨w.heap.size + 1, o, none⟩ := fun o => by
    rw [F2 _ o (by simp)]
  clear C2 F2 hb2
  go_wp2
  exact bodyPost_ret (v := .tuple #[.agg #[.int .i64 x0, .int .i64 x1, .int .i64 x2], .int .i64 x3]) (by simp [results, Try.results13, go_sem, r0]) rfl ⟨rfl, bset (bset (bset B3.out _ (by simp)) _ (by simp)) _ (by simp)⟩
set_option maxHeartbeats 1000000 in
theorem r13_4false (ao : Option Addr) (n c p m : Nat) (cnt b : Int) (l : List UInt8) (w : World) (hn : n ≤ 1048576) (HT : Hid (Tx w ao n c l)) (h : okB l (p : Int) cnt = true) (hp : p ≤ n) (hc : cnt = (m : Int) ∧ 1 ≤ m ∨ cnt = 0 ∧ m = 1) (hN : m ≤ 9999) :
    Calls Try.prog 13 #[.slice ao n c, .int .i64 p, .int .i64 cnt, .agg #[.int .u8 84, .int .u8 b], .bool false] w fun e w' => e = mvE (res p 4 (hit l b p m 1 4)) ∧ Below w.heap.size w w' := by
  have I := Hid.mk' (fun w => bad_any ao n c p cnt l w HT.out.len)
  rw [h] at I
  have K := Hid.mk' (isKey_any 84)
  rw [show decide (kq 84 ≠ 0) = true from rfl] at K
  have R := Hid.mk' (fun w HT => rmove_4 ao n c p m 1 cnt b l w hn hp (by omega) hc hN HT)
  have hx : bits BinOp.xor IntKind.u8 84 32 = 116 := by decide +kernel
  clear h hc
  generalize res p 4 (hit l b p m 1 4) = R' at *
  obtain ⟨x0, x1, x2, x3⟩ := R'
  have T2 := Hid.mk' (fun x y : Obj => Hid.mk' (HT.out.keep (bAlloc (bAlloc (Below.refl _ _) x) y)))
  go_enter Try.func13, Try.ntmps13
  go_wp2_with fail
  refine (I.out _).mono ?_
  rintro e w2 ⟨rfl, hw⟩
  have hq := hw.symm; subst hq; clear hw
  go_wp2_with fail
  refine (K.out _).mono ?_
  rintro e w2 ⟨rfl, hw⟩
  have hq := hw.symm; subst hq; clear hw
  go_wp2_with fail
  refine (R.out _ (T2.out _ _)).mono ?_
  rintro e w2 ⟨rfl, hb2⟩
  rw [mvE_def]
  dsimp only
  have C2 := fun b o h => (bcell hb2).1 b o h
  have F2 := fun b o h => (bcell hb2).2 b o h
  have hz3 : w.heap.size + 1 < w2.heap.size := by have := hb2.size; simp at this; omega
  have B3 := Hid.mk' (bT (bAlloc (bAlloc (Below.refl _ _) _) _) hb2)
  have r0 : ∀ o, w2.cell? ⟨w.heap.size + 1, o, none⟩ = ((w.alloc (.cells #[.int .u8 84, .int .u8 b] 24)).alloc (.cells #[.int .i64 0, .int .i64 0, .int .i64 0] 29)).cell? ⟨w.heap.size + 1, o, none⟩ := fun o => by
    rw [C2 _ o (by simp)]
  have g0 : ∀ o, w2.frozen? ⟨w.heap.size + 1, o, none⟩ = ((w.alloc (.cells #[.int .u8 84, .int .u8 b] 24)).alloc (.cells #[.int .i64 0, .int .i64 0, .int .i64 0] 29)).frozen? ⟨w.heap.size + 1, o, none⟩ := fun o => by
    rw [F2 _ o (by simp)]
  clear C2 F2 hb2
  go_wp2
  exact bodyPost_ret (v := .tuple #[.agg #[.int .i64 x0, .int .i64 x1, .int .i64 x2], .int .i64 x3]) (by simp [results, Try.results13, go_sem, r0]) rfl ⟨rfl, bset (bset (bset B3.out _ (by simp)) _ (by simp)) _ (by simp)⟩
set_option maxHeartbeats 1000000 in
theorem r13_4true (ao : Option Addr) (n c p m : Nat) (cnt b : Int) (l : List UInt8) (w : World) (hn : n ≤ 1048576) (HT : Hid (Tx w ao n c l)) (h : okB l (p : Int) cnt = true) (hp : p ≤ n) (hc : cnt = (m : Int) ∧ 1 ≤ m ∨ cnt = 0 ∧ m = 1) (hN : m ≤ 9999) :
    Calls Try.prog 13 #[.slice ao n c, .int .i64 p, .int .i64 cnt, .agg #[.int .u8 84, .int .u8 b], .bool true] w fun e w' => e = mvE (res p 2 (hit l b p m 1 2)) ∧ Below w.heap.size w w' := by
  have I := Hid.mk' (fun w => bad_any ao n c p cnt l w HT.out.len)
  rw [h] at I
  have K := Hid.mk' (isKey_any 84)
  rw [show decide (kq 84 ≠ 0) = true from rfl] at K
  have R := Hid.mk' (fun w HT => rmove_2 ao n c p m 1 cnt b l w hn hp (by omega) hc hN HT)
  have hx : bits BinOp.xor IntKind.u8 84 32 = 116 := by decide +kernel
  clear h hc
  generalize res p 2 (hit l b p m 1 2) = R' at *
  obtain ⟨x0, x1, x2, x3⟩ := R'
  have T2 := Hid.mk' (fun x y : Obj => Hid.mk' (HT.out.keep (bAlloc (bAlloc (Below.refl _ _) x) y)))
  go_enter Try.func13, Try.ntmps13
  go_wp2_with fail
  refine (I.out _).mono ?_
  rintro e w2 ⟨rfl, hw⟩
  have hq := hw.symm; subst hq; clear hw
  go_wp2_with fail
  refine (K.out _).mono ?_
  rintro e w2 ⟨rfl, hw⟩
  have hq := hw.symm; subst hq; clear hw
  go_wp2_with fail
  refine (R.out _ (T2.out _ _)).mono ?_
  rintro e w2 ⟨rfl, hb2⟩
  rw [mvE_def]
  dsimp only
  have C2 := fun b o h => (bcell hb2).1 b o h
  have F2 := fun b o h => (bcell hb2).2 b o h
  have hz3 : w.heap.size + 1 < w2.heap.size := by have := hb2.size; simp at this; omega
  have B3 := Hid.mk' (bT (bAlloc (bAlloc (Below.refl _ _) _) _) hb2)
  have r0 : ∀ o, w2.cell? ⟨w.heap.size + 1, o, none⟩ = ((w.alloc (.cells #[.int .u8 84, .int .u8 b] 24)).alloc (.cells #[.int .i64 0, .int .i64 0, .int .i64 0] 29)).cell? ⟨w.heap.size + 1, o, none⟩ := fun o => by
    rw [C2 _ o (by simp)]
  have g0 : ∀ o, w2.frozen? ⟨w.heap.size + 1, o, none⟩ = ((w.alloc (.cells #[.int .u8 84, .int .u8 b] 24)).alloc (.cells #[.int .i64 0, .int .i64 0, .int .i64 0] 29)).frozen? ⟨w.heap.size + 1, o, none⟩ := fun o => by
    rw [F2 _ o (by simp)]
  clear C2 F2 hb2
  go_wp2
  exact bodyPost_ret (v := .tuple #[.agg #[.int .i64 x0, .int .i64 x1, .int .i64 x2], .int .i64 x3]) (by simp [results, Try.results13, go_sem, r0]) rfl ⟨rfl, bset (bset (bset B3.out _ (by simp)) _ (by simp)) _ (by simp)⟩
theorem r13_any (ao : Option Addr) (n c : Nat) (i cnt key b : Int) (t : Bool) (l : List UInt8) (w : World) (hn : n ≤ 1048576) (HT : Hid (Tx w ao n c l)) :
    Calls Try.prog 13 #[.slice ao n c, .int .i64 i, .int .i64 cnt, .agg #[.int .u8 key, .int .u8 b], .bool t] w fun e w' => e = mvE (ag l i cnt key b t) ∧ Below w.heap.size w w' := by
  have hl := HT.out.len
  cases h : okB l i cnt with
  | false => unfold ag; rw [h]; exact r13_no ao n c i cnt key b t l w hl h
  | true =>
    obtain ⟨p, rfl, hp, h0, h1⟩ := ok_yes h
    by_cases hz : key = 0
    · unfold ag; rw [h, if_pos rfl, if_pos hz]; subst hz; exact r13_zero ao n c p cnt b t l w hl h
    have hc : cnt = (((max cnt 1).toNat : Nat) : Int) ∧ 1 ≤ (max cnt 1).toNat ∨ cnt = 0 ∧ (max cnt 1).toNat = 1 := by omega
    rcases kq_cases key with ⟨rfl, hk⟩ | ⟨rfl, hk⟩ | ⟨rfl, hk⟩ | ⟨rfl, hk⟩ | ⟨g1, g2, g3, g4, hk⟩
    · unfold ag; rw [h, if_pos rfl, if_neg hz, hk, if_neg (by decide), Int.toNat_natCast]
      cases t
      · exact r13_1false ao n c p (max cnt 1).toNat cnt b l w hn HT h (by omega) hc (by omega)
      · exact r13_1true ao n c p (max cnt 1).toNat cnt b l w hn HT h (by omega) hc (by omega)
    · unfold ag; rw [h, if_pos rfl, if_neg hz, hk, if_neg (by decide), Int.toNat_natCast]
      cases t
      · exact r13_2false ao n c p (max cnt 1).toNat cnt b l w hn HT h (by omega) hc (by omega)
      · exact r13_2true ao n c p (max cnt 1).toNat cnt b l w hn HT h (by omega) hc (by omega)
    · unfold ag; rw [h, if_pos rfl, if_neg hz, hk, if_neg (by decide), Int.toNat_natCast]
      cases t
      · exact r13_3false ao n c p (max cnt 1).toNat cnt b l w hn HT h (by omega) hc (by omega)
      · exact r13_3true ao n c p (max cnt 1).toNat cnt b l w hn HT h (by omega) hc (by omega)
    · unfold ag; rw [h, if_pos rfl, if_neg hz, hk, if_neg (by decide), Int.toNat_natCast]
      cases t
      · exact r13_4false ao n c p (max cnt 1).toNat cnt b l w hn HT h (by omega) hc (by omega)
      · exact r13_4true ao n c p (max cnt 1).toNat cnt b l w hn HT h (by omega) hc (by omega)
    · unfold ag; rw [h, if_pos rfl, if_neg hz, hk]; exact r13_none ao n c p cnt key b t l w hl h hz hk
end Go.Proofs.Ytinlkeionoghdaa
