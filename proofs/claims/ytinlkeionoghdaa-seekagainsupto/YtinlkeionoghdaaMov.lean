/- The contracts of seek's Move and Again. -/
import Derived.Test.YtinlkeionoghdaaLf
import Derived.Test.YtinlkeionoghdaaLt
import Derived.Test.YtinlkeionoghdaaLff
import Derived.Test.YtinlkeionoghdaaLtt
namespace Go.Proofs.Ytinlkeionoghdaa
open Go.RowKit

theorem kq_le (k : Int) : kq k = 0 ∨ kq k = 1 ∨ kq k = 2 ∨ kq k = 3 ∨ kq k = 4 := by
  rcases kq_cases k with ⟨rfl, h⟩ | ⟨rfl, h⟩ | ⟨rfl, h⟩ | ⟨rfl, h⟩ | ⟨g1, g2, g3, g4, h⟩ <;> simp [h]
theorem leads_any (ao : Option Addr) (n c p m sk k : Nat) (cnt b F : Int) (l : List UInt8) (w : World) (hk : k = 1 ∨ k = 2 ∨ k = 3 ∨ k = 4) (hF : F = (p : Int) + wy k * (1 + (sk : Nat))) (hp : p ≤ n) (hsk : sk ≤ 1) (hm : max cnt 1 = (m : Int)) (hN : m ≤ 9999) (HT : Hid (Tx w ao n c l)) :
    Calls Try.prog 20 #[lkv k, .slice ao n c, .int .i64 p, .int .i64 F, .int .i64 cnt, .int .u8 b] w fun e w' => e = mvE (res p k (hit l b p m sk k)) ∧ Below w.heap.size w w' := by
  rcases hk with rfl | rfl | rfl | rfl
  · obtain rfl : F = ((p + 1 + sk : Nat) : Int) := by rw [hF]; simp only [wy]; omega
    exact leads_1 ao n c p m sk cnt b l w hp hsk hm hN HT
  · obtain rfl : F = ((p + 1 + sk : Nat) : Int) := by rw [hF]; simp only [wy]; omega
    exact leads_2 ao n c p m sk cnt b l w hp hsk hm hN HT
  · obtain rfl : F = (p : Int) - 1 - (sk : Nat) := by rw [hF]; simp only [wy]; omega
    exact leads_3 ao n c p m sk cnt b l w hp hsk hm hN HT
  · obtain rfl : F = (p : Int) - 1 - (sk : Nat) := by rw [hF]; simp only [wy]; omega
    exact leads_4 ao n c p m sk cnt b l w hp hsk hm hN HT

set_option maxHeartbeats 1000000 in
theorem move_no (ao : Option Addr) (n c : Nat) (i cnt key b : Int) (l : List UInt8) (w : World) (hl : l.length = n) (h : okB l i cnt = false) :
    Calls Try.prog 11 #[.slice ao n c, .int .i64 i, .int .i64 cnt, .agg #[.int .u8 key, .int .u8 b]] w fun e w' => e = .returned (.tuple #[.agg #[.int .i64 0, .int .i64 0, .int .i64 0], .int .i64 2]) ∧ Below w.heap.size w w' := by
  have K := Hid.mk' (lookOf_any key)
  have I := Hid.mk' (fun w => isWrong_any ao n c i cnt l w hl)
  rw [h] at I
  generalize decide (kq key ≠ 0) = a5 at *
  unfold lkv at K
  generalize wy (kq key) = a0 at *
  generalize ((sh (kq key) : Nat) : Int) = a1 at *
  generalize kd (kq key) = a2 at *
  clear h
  go_enter Try.func11, Try.ntmps11
  go_wp2_with fail
  refine (K.out _).mono ?_
  rintro e w1 ⟨rfl, hb1⟩
  obtain ⟨hc1, hf1⟩ := bcell hb1
  have B1 := Hid.mk' (bT (bAlloc (bAlloc (Below.refl _ _) _) _) hb1)
  have hz : w.heap.size + 1 < w1.heap.size := by have := hb1.size; simp at this; omega
  clear hb1
  go_wp2_with fail
  refine (I.out _).mono ?_
  rintro e w2 ⟨rfl, hw⟩
  have hq := hw.symm; subst hq; clear hw
  go_wp2
  exact bodyPost_ret (v := .tuple #[.agg #[.int .i64 0, .int .i64 0, .int .i64 0], .int .i64 2]) (by simp [results, Try.results11, go_sem, hc1, hz]) rfl ⟨rfl, bAlloc (bset (bset (bset B1.out _ (by simp)) _ (by simp)) _ (by simp)) _⟩
set_option maxHeartbeats 1000000 in
theorem move_none (ao : Option Addr) (n c : Nat) (i cnt key b : Int) (l : List UInt8) (w : World) (hl : l.length = n) (h : okB l i cnt = true) (hk : kq key = 0) :
    Calls Try.prog 11 #[.slice ao n c, .int .i64 i, .int .i64 cnt, .agg #[.int .u8 key, .int .u8 b]] w fun e w' => e = .returned (.tuple #[.agg #[.int .i64 0, .int .i64 0, .int .i64 0], .int .i64 2]) ∧ Below w.heap.size w w' := by
  have K := Hid.mk' (lookOf_any key)
  have I := Hid.mk' (fun w => isWrong_any ao n c i cnt l w hl)
  rw [h] at I
  have hk' : decide (kq key ≠ 0) = false := by rw [hk]; rfl
  rw [hk'] at K
  clear hk hk'
  unfold lkv at K
  generalize wy (kq key) = a0 at *
  generalize ((sh (kq key) : Nat) : Int) = a1 at *
  generalize kd (kq key) = a2 at *
  clear h
  go_enter Try.func11, Try.ntmps11
  go_wp2_with fail
  refine (K.out _).mono ?_
  rintro e w1 ⟨rfl, hb1⟩
  obtain ⟨hc1, hf1⟩ := bcell hb1
  have B1 := Hid.mk' (bT (bAlloc (bAlloc (Below.refl _ _) _) _) hb1)
  have hz : w.heap.size + 1 < w1.heap.size := by have := hb1.size; simp at this; omega
  clear hb1
  go_wp2_with fail
  refine (I.out _).mono ?_
  rintro e w2 ⟨rfl, hw⟩
  have hq := hw.symm; subst hq; clear hw
  go_wp2
  exact bodyPost_ret (v := .tuple #[.agg #[.int .i64 0, .int .i64 0, .int .i64 0], .int .i64 2]) (by simp [results, Try.results11, go_sem, hc1, hz]) rfl ⟨rfl, bAlloc (bset (bset (bset B1.out _ (by simp)) _ (by simp)) _ (by simp)) _⟩
set_option maxHeartbeats 1000000 in
theorem move_yes (ao : Option Addr) (n c p m : Nat) (cnt key b : Int) (l : List UInt8) (w : World) (HT : Hid (Tx w ao n c l)) (h : okB l (p : Int) cnt = true) (hp : p ≤ n) (hm : max cnt 1 = (m : Int)) (hN : m ≤ 9999) (hk : kq key ≠ 0) :
    Calls Try.prog 11 #[.slice ao n c, .int .i64 p, .int .i64 cnt, .agg #[.int .u8 key, .int .u8 b]] w fun e w' => e = mvE (res p (kq key) (hit l b p m 0 (kq key))) ∧ Below w.heap.size w w' := by
  have K := Hid.mk' (lookOf_any key)
  have I := Hid.mk' (fun w => isWrong_any ao n c p cnt l w HT.out.len)
  rw [h] at I
  have hk' : decide (kq key ≠ 0) = true := decide_eq_true hk
  rw [hk'] at K
  have hbig : (n : Int) ≤ 140737488355328 := by have := HT.out.big; omega
  have hkk : kq key = 1 ∨ kq key = 2 ∨ kq key = 3 ∨ kq key = 4 := by rcases kq_le key with h | h | h | h | h <;> simp_all
  have L := Hid.mk' (fun w F hF HT => leads_any ao n c p m 0 (kq key) cnt b F l w hkk hF hp (by omega) hm hN HT)
  obtain ⟨F, hF⟩ : ∃ F : Int, F = (p : Int) + wy (kq key) * (1 + ((0 : Nat) : Int)) := ⟨_, rfl⟩
  have hF1 : (p : Int) + wy (kq key) = F := by rw [hF]; simp
  have hF2 : -1 ≤ F ∧ F ≤ 140737488355329 := by rcases hkk with h | h | h | h <;> (rw [h] at hF; simp only [wy] at hF; omega)
  have hF3 := hF2.1
  have hF4 := hF2.2
  have HL := Hid.mk' (fun w HT => L.out w F hF HT)
  clear hF hF2 hkk hk hk' L
  unfold lkv at K HL
  generalize res p (kq key) (hit l b p m 0 (kq key)) = R at *
  generalize wy (kq key) = a0 at *
  generalize ((sh (kq key) : Nat) : Int) = a1 at *
  generalize kd (kq key) = a2 at *
  clear h
  obtain ⟨x0, x1, x2, x3⟩ := R
  go_enter Try.func11, Try.ntmps11
  go_wp2_with fail
  refine (K.out _).mono ?_
  rintro e w1 ⟨rfl, hb1⟩
  obtain ⟨hc1, hf1⟩ := bcell hb1
  have B1 := Hid.mk' (bT (bAlloc (bAlloc (Below.refl _ _) _) _) hb1)
  have hz : w.heap.size + 1 < w1.heap.size := by have := hb1.size; simp at this; omega
  have hz' : w.heap.size < w1.heap.size := by omega
  have k1 : w1.cell? ⟨w.heap.size, 1, none⟩ = some (.int .u8 b) := by rw [hc1 _ _ (by simp; omega)]; simp [go_sem]
  clear hb1
  go_wp2_with fail
  refine (I.out _).mono ?_
  rintro e w2 ⟨rfl, hw⟩
  have hq := hw.symm; subst hq; clear hw
  go_wp2_with fail
  refine (HL.out _ (Hid.mk' (HT.out.keep (bAlloc B1.out _)))).mono ?_
  rintro e w2 ⟨rfl, hb2⟩
  rw [mvE_def]
  dsimp only
  have C2 := fun b o h => (bcell hb2).1 b o h
  have F2 := fun b o h => (bcell hb2).2 b o h
  have hz3 : w.heap.size + 1 < w2.heap.size := by have := hb2.size; simp at this; omega
  have B3 := Hid.mk' (bT (bAlloc B1.out _) hb2)
  clear hb2
  have r0 : ∀ o, w2.cell? ⟨w.heap.size + 1, o, none⟩ = w1.cell? ⟨w.heap.size + 1, o, none⟩ := fun o => by
    rw [C2 _ o (by simp; omega)]; simp [go_sem, hz]
  have g0 : ∀ o, w2.frozen? ⟨w.heap.size + 1, o, none⟩ = w1.frozen? ⟨w.heap.size + 1, o, none⟩ := fun o => by
    rw [F2 _ o (by simp; omega)]; simp [go_sem, hz]
  clear C2 F2
  go_wp2
  exact bodyPost_ret (v := .tuple #[.agg #[.int .i64 x0, .int .i64 x1, .int .i64 x2], .int .i64 x3]) (by simp [results, Try.results11, go_sem, r0, hc1]) rfl ⟨rfl, bset (bset (bset B3.out _ (by simp)) _ (by simp)) _ (by simp)⟩
theorem move_any (ao : Option Addr) (n c : Nat) (i cnt key b : Int) (l : List UInt8) (w : World) (HT : Hid (Tx w ao n c l)) :
    Calls Try.prog 11 #[.slice ao n c, .int .i64 i, .int .i64 cnt, .agg #[.int .u8 key, .int .u8 b]] w fun e w' => e = mvE (mv l i cnt key b) ∧ Below w.heap.size w w' := by
  have hl := HT.out.len
  cases h : okB l i cnt with
  | false => unfold mv; rw [h]; exact move_no ao n c i cnt key b l w hl h
  | true =>
    obtain ⟨p, rfl, hp, h0, h1⟩ := ok_yes h
    by_cases hk : kq key = 0
    · unfold mv; rw [h, hk]; exact move_none ao n c p cnt key b l w hl h hk
    · unfold mv; rw [h, if_pos rfl, if_neg hk, Int.toNat_natCast]
      exact move_yes ao n c p (max cnt 1).toNat cnt key b l w HT h (by omega) (by omega) (by omega) hk

set_option maxHeartbeats 1000000 in
theorem again_no (ao : Option Addr) (n c : Nat) (i cnt key b : Int) (t : Bool) (l : List UInt8) (w : World) (hl : l.length = n) (h : okB l i cnt = false) :
    Calls Try.prog 12 #[.slice ao n c, .int .i64 i, .int .i64 cnt, .agg #[.int .u8 key, .int .u8 b], .bool t] w fun e w' => e = .returned (.tuple #[.agg #[.int .i64 0, .int .i64 0, .int .i64 0], .int .i64 2]) ∧ Below w.heap.size w w' := by
  have I := Hid.mk' (fun w => isWrong_any ao n c i cnt l w hl)
  rw [h] at I
  clear h
  go_enter Try.func12, Try.ntmps12
  go_wp2_with fail
  refine (I.out _).mono ?_
  rintro e w2 ⟨rfl, hw⟩
  have hq := hw.symm; subst hq; clear hw
  go_wp2
  exact bodyPost_ret (v := .tuple #[.agg #[.int .i64 0, .int .i64 0, .int .i64 0], .int .i64 2]) (by simp [results, Try.results12, go_sem]) rfl ⟨rfl, by repeat (first | exact bAlloc (bAlloc (Below.refl _ _) _) _ | refine bset ?_ _ (by simp))⟩
set_option maxHeartbeats 1000000 in
theorem again_zero (ao : Option Addr) (n c : Nat) (i cnt key b : Int) (t : Bool) (l : List UInt8) (w : World) (hl : l.length = n) (h : okB l i cnt = true) (hk : key = 0) :
    Calls Try.prog 12 #[.slice ao n c, .int .i64 i, .int .i64 cnt, .agg #[.int .u8 key, .int .u8 b], .bool t] w fun e w' => e = .returned (.tuple #[.agg #[.int .i64 0, .int .i64 0, .int .i64 0], .int .i64 70]) ∧ Below w.heap.size w w' := by
  have I := Hid.mk' (fun w => isWrong_any ao n c i cnt l w hl)
  rw [h] at I
  subst hk
  clear h
  go_enter Try.func12, Try.ntmps12
  go_wp2_with fail
  refine (I.out _).mono ?_
  rintro e w2 ⟨rfl, hw⟩
  have hq := hw.symm; subst hq; clear hw
  go_wp2
  exact bodyPost_ret (v := .tuple #[.agg #[.int .i64 0, .int .i64 0, .int .i64 0], .int .i64 70]) (by simp [results, Try.results12, go_sem]) rfl ⟨rfl, by repeat (first | exact bAlloc (bAlloc (Below.refl _ _) _) _ | refine bset ?_ _ (by simp))⟩
set_option maxHeartbeats 1000000 in
theorem again_none (ao : Option Addr) (n c : Nat) (i cnt key b : Int) (t : Bool) (l : List UInt8) (w : World) (hl : l.length = n) (h : okB l i cnt = true) (h0 : key ≠ 0) (hk : kq key = 0) :
    Calls Try.prog 12 #[.slice ao n c, .int .i64 i, .int .i64 cnt, .agg #[.int .u8 key, .int .u8 b], .bool t] w fun e w' => e = .returned (.tuple #[.agg #[.int .i64 0, .int .i64 0, .int .i64 0], .int .i64 2]) ∧ Below w.heap.size w w' := by
  have I := Hid.mk' (fun w => isWrong_any ao n c i cnt l w hl)
  rw [h] at I
  have hk0 : (key == 0) = false := beq_false_of_ne h0
  have O := Hid.mk' (otherWay_any key)
  have K := Hid.mk' (lookOf_any (bif t then ow key else key))
  have hkq : kq (bif t then ow key else key) = ky t (kq key) := by unfold ky; cases t; rfl; exact kq_ow key
  rw [hkq] at K
  clear hkq
  have hk1 : ky t (kq key) = 0 := by rw [hk]; cases t <;> rfl
  have hk' : decide (ky t (kq key) ≠ 0) = false := by rw [hk1]; rfl
  rw [hk'] at K
  clear hk hk1 hk' h h0
  unfold lkv at K
  generalize wy (ky t (kq key)) = a0 at *
  generalize ((sh (ky t (kq key)) : Nat) : Int) = a1 at *
  generalize kd (ky t (kq key)) = a2 at *
  generalize how : ow key = ok at *
  clear how
  cases t with
  | false =>
    have K' := K
    simp only [cond_false] at K'
    clear K
    go_enter Try.func12, Try.ntmps12
    go_wp2_with fail
    refine (I.out _).mono ?_
    rintro e w2 ⟨rfl, hw⟩
    have hq := hw.symm; subst hq; clear hw
    go_wp2_with fail
    refine (K'.out _).mono ?_
    rintro e w1 ⟨rfl, hb1⟩
    obtain ⟨hc1, hf1⟩ := bcell hb1
    have B1 := Hid.mk' (bT (bAlloc (bAlloc (Below.refl _ _) _) _) hb1)
    have hz : w.heap.size + 1 < w1.heap.size := by have := hb1.size; simp at this; omega
    have hz' : w.heap.size < w1.heap.size := by omega
    clear hb1
    go_wp2
    exact bodyPost_ret (v := .tuple #[.agg #[.int .i64 0, .int .i64 0, .int .i64 0], .int .i64 2]) (by simp [results, Try.results12, go_sem, hc1, hz]) rfl ⟨rfl, bAlloc (bset (bset (bset B1.out _ (by simp)) _ (by simp)) _ (by simp)) _⟩
  | true =>
    have K' := K
    simp only [cond_true] at K'
    clear K
    go_enter Try.func12, Try.ntmps12
    go_wp2_with fail
    refine (I.out _).mono ?_
    rintro e w2 ⟨rfl, hw⟩
    have hq := hw.symm; subst hq; clear hw
    go_wp2_with fail
    refine (O.out _).mono ?_
    rintro e w2 ⟨rfl, hw⟩
    have hq := hw.symm; subst hq; clear hw
    go_wp2_with fail
    refine (K'.out _).mono ?_
    rintro e w1 ⟨rfl, hb1⟩
    obtain ⟨hc1, hf1⟩ := bcell hb1
    have B1 := Hid.mk' (bT (bAlloc (bAlloc (Below.refl _ _) _) _) hb1)
    have hz : w.heap.size + 1 < w1.heap.size := by have := hb1.size; simp at this; omega
    have hz' : w.heap.size < w1.heap.size := by omega
    clear hb1
    go_wp2
    exact bodyPost_ret (v := .tuple #[.agg #[.int .i64 0, .int .i64 0, .int .i64 0], .int .i64 2]) (by simp [results, Try.results12, go_sem, hc1, hz]) rfl ⟨rfl, bAlloc (bset (bset (bset B1.out _ (by simp)) _ (by simp)) _ (by simp)) _⟩
set_option maxHeartbeats 1000000 in
theorem again_yes (ao : Option Addr) (n c p m : Nat) (cnt key b : Int) (t : Bool) (l : List UInt8) (w : World) (HT : Hid (Tx w ao n c l)) (h : okB l (p : Int) cnt = true) (hp : p ≤ n) (hm : max cnt 1 = (m : Int)) (hN : m ≤ 9999) (h0 : key ≠ 0) (hk : kq key ≠ 0) :
    Calls Try.prog 12 #[.slice ao n c, .int .i64 p, .int .i64 cnt, .agg #[.int .u8 key, .int .u8 b], .bool t] w fun e w' => e = mvE (res p (ky t (kq key)) (hit l b p m (sh (ky t (kq key))) (ky t (kq key)))) ∧ Below w.heap.size w w' := by
  have I := Hid.mk' (fun w => isWrong_any ao n c p cnt l w HT.out.len)
  rw [h] at I
  have hk0 : (key == 0) = false := beq_false_of_ne h0
  have O := Hid.mk' (otherWay_any key)
  have K := Hid.mk' (lookOf_any (bif t then ow key else key))
  have hkq : kq (bif t then ow key else key) = ky t (kq key) := by unfold ky; cases t; rfl; exact kq_ow key
  rw [hkq] at K
  clear hkq
  have hbig : (n : Int) ≤ 140737488355328 := by have := HT.out.big; omega
  have hkk : ky t (kq key) = 1 ∨ ky t (kq key) = 2 ∨ ky t (kq key) = 3 ∨ ky t (kq key) = 4 := by
    rcases kq_le key with h | h | h | h | h
    · exact absurd h hk
    all_goals (rw [h]; cases t <;> simp [ky, flip])
  generalize ky t (kq key) = k at *
  have hk' : decide (k ≠ 0) = true := decide_eq_true (by omega)
  rw [hk'] at K
  have hs1 : sh k ≤ 1 := by rcases hkk with h | h | h | h <;> (rw [h]; decide)
  have L := Hid.mk' (fun w F hF HT => leads_any ao n c p m (sh k) k cnt b F l w hkk hF hp hs1 hm hN HT)
  obtain ⟨F, hF⟩ : ∃ F : Int, F = (p : Int) + wy k * (1 + ((sh k : Nat) : Int)) := ⟨_, rfl⟩
  have hF0 : -2 ≤ wy k * (1 + ((sh k : Nat) : Int)) ∧ wy k * (1 + ((sh k : Nat) : Int)) ≤ 2 := by rcases hkk with h | h | h | h <;> (rw [h]; decide)
  have hF2 : -2 ≤ F ∧ F ≤ 140737488355330 := by omega
  have HL := Hid.mk' (fun w HT => L.out w F hF HT)
  have hw1 : IntKind.i64.wrap (1 + ((sh k : Nat) : Int)) = 1 + ((sh k : Nat) : Int) := by rcases hkk with h | h | h | h <;> (rw [h]; decide)
  have hw2 : IntKind.i64.wrap (wy k * (1 + ((sh k : Nat) : Int))) = wy k * (1 + ((sh k : Nat) : Int)) := by rcases hkk with h | h | h | h <;> (rw [h]; decide)
  have hw3 : IntKind.i64.wrap ((p : Int) + wy k * (1 + ((sh k : Nat) : Int))) = F := by rw [← hF]; rw [IntKind.wrap_i64]; omega
  clear hF hF2 hF0 hkk hk hk' L hs1
  unfold lkv at K HL
  generalize res p k (hit l b p m (sh k) k) = R at *
  generalize wy k = a0 at *
  generalize ((sh k : Nat) : Int) = a1 at *
  generalize kd k = a2 at *
  clear h h0
  obtain ⟨x0, x1, x2, x3⟩ := R
  generalize how : ow key = ok at *
  clear how
  cases t with
  | false =>
    have K' := K
    simp only [cond_false] at K'
    clear K
    go_enter Try.func12, Try.ntmps12
    go_wp2_with fail
    refine (I.out _).mono ?_
    rintro e w2 ⟨rfl, hw⟩
    have hq := hw.symm; subst hq; clear hw
    go_wp2_with fail
    refine (K'.out _).mono ?_
    rintro e w1 ⟨rfl, hb1⟩
    obtain ⟨hc1, hf1⟩ := bcell hb1
    have B1 := Hid.mk' (bT (bAlloc (bAlloc (Below.refl _ _) _) _) hb1)
    have hz : w.heap.size + 1 < w1.heap.size := by have := hb1.size; simp at this; omega
    have hz' : w.heap.size < w1.heap.size := by omega
    have k1 : w1.cell? ⟨w.heap.size, 1, none⟩ = some (.int .u8 b) := by rw [hc1 _ _ (by simp; omega)]; simp [go_sem]
    clear hb1
    go_wp2_with fail
    refine (HL.out _ (Hid.mk' (HT.out.keep (bAlloc B1.out _)))).mono ?_
    rintro e w2 ⟨rfl, hb2⟩
    rw [mvE_def]
    dsimp only
    have C2 := fun b o h => (bcell hb2).1 b o h
    have F2 := fun b o h => (bcell hb2).2 b o h
    have hz3 : w.heap.size + 1 < w2.heap.size := by have := hb2.size; simp at this; omega
    have B3 := Hid.mk' (bT (bAlloc B1.out _) hb2)
    clear hb2
    have r0 : ∀ o, w2.cell? ⟨w.heap.size + 1, o, none⟩ = w1.cell? ⟨w.heap.size + 1, o, none⟩ := fun o => by
      rw [C2 _ o (by simp; omega)]; simp [go_sem, hz]
    have g0 : ∀ o, w2.frozen? ⟨w.heap.size + 1, o, none⟩ = w1.frozen? ⟨w.heap.size + 1, o, none⟩ := fun o => by
      rw [F2 _ o (by simp; omega)]; simp [go_sem, hz]
    clear C2 F2
    go_wp2
    exact bodyPost_ret (v := .tuple #[.agg #[.int .i64 x0, .int .i64 x1, .int .i64 x2], .int .i64 x3]) (by simp [results, Try.results12, go_sem, r0, hc1]) rfl ⟨rfl, bset (bset (bset B3.out _ (by simp)) _ (by simp)) _ (by simp)⟩
  | true =>
    have K' := K
    simp only [cond_true] at K'
    clear K
    go_enter Try.func12, Try.ntmps12
    go_wp2_with fail
    refine (I.out _).mono ?_
    rintro e w2 ⟨rfl, hw⟩
    have hq := hw.symm; subst hq; clear hw
    go_wp2_with fail
    refine (O.out _).mono ?_
    rintro e w2 ⟨rfl, hw⟩
    have hq := hw.symm; subst hq; clear hw
    go_wp2_with fail
    refine (K'.out _).mono ?_
    rintro e w1 ⟨rfl, hb1⟩
    obtain ⟨hc1, hf1⟩ := bcell hb1
    have B1 := Hid.mk' (bT (bAlloc (bAlloc (Below.refl _ _) _) _) hb1)
    have hz : w.heap.size + 1 < w1.heap.size := by have := hb1.size; simp at this; omega
    have hz' : w.heap.size < w1.heap.size := by omega
    have k1 : w1.cell? ⟨w.heap.size, 1, none⟩ = some (.int .u8 b) := by rw [hc1 _ _ (by simp; omega)]; simp [go_sem]
    clear hb1
    go_wp2_with fail
    refine (HL.out _ (Hid.mk' (HT.out.keep (bAlloc B1.out _)))).mono ?_
    rintro e w2 ⟨rfl, hb2⟩
    rw [mvE_def]
    dsimp only
    have C2 := fun b o h => (bcell hb2).1 b o h
    have F2 := fun b o h => (bcell hb2).2 b o h
    have hz3 : w.heap.size + 1 < w2.heap.size := by have := hb2.size; simp at this; omega
    have B3 := Hid.mk' (bT (bAlloc B1.out _) hb2)
    clear hb2
    have r0 : ∀ o, w2.cell? ⟨w.heap.size + 1, o, none⟩ = w1.cell? ⟨w.heap.size + 1, o, none⟩ := fun o => by
      rw [C2 _ o (by simp; omega)]; simp [go_sem, hz]
    have g0 : ∀ o, w2.frozen? ⟨w.heap.size + 1, o, none⟩ = w1.frozen? ⟨w.heap.size + 1, o, none⟩ := fun o => by
      rw [F2 _ o (by simp; omega)]; simp [go_sem, hz]
    clear C2 F2
    go_wp2
    exact bodyPost_ret (v := .tuple #[.agg #[.int .i64 x0, .int .i64 x1, .int .i64 x2], .int .i64 x3]) (by simp [results, Try.results12, go_sem, r0, hc1]) rfl ⟨rfl, bset (bset (bset B3.out _ (by simp)) _ (by simp)) _ (by simp)⟩
theorem again_any (ao : Option Addr) (n c : Nat) (i cnt key b : Int) (t : Bool) (l : List UInt8) (w : World) (HT : Hid (Tx w ao n c l)) :
    Calls Try.prog 12 #[.slice ao n c, .int .i64 i, .int .i64 cnt, .agg #[.int .u8 key, .int .u8 b], .bool t] w fun e w' => e = mvE (ag l i cnt key b t) ∧ Below w.heap.size w w' := by
  have hl := HT.out.len
  cases h : okB l i cnt with
  | false => unfold ag; rw [h]; exact again_no ao n c i cnt key b t l w hl h
  | true =>
    obtain ⟨p, rfl, hp, h0, h1⟩ := ok_yes h
    by_cases hz : key = 0
    · unfold ag; rw [h, if_pos rfl, if_pos hz]; exact again_zero ao n c p cnt key b t l w hl h hz
    · by_cases hk : kq key = 0
      · unfold ag; rw [h, if_pos rfl, if_neg hz, hk]; exact again_none ao n c p cnt key b t l w hl h hz hk
      · unfold ag; rw [h, if_pos rfl, if_neg hz, if_neg hk, Int.toNat_natCast]
        exact again_yes ao n c p (max cnt 1).toNat cnt key b t l w HT h (by omega) (by omega) (by omega) hz hk
end Go.Proofs.Ytinlkeionoghdaa
