/- The contract of step.Move. -/
import Derived.Test.YtbkhbnmihnomaaaLeads
import Derived.Test.YtbkhbnmihnomaaaTg
namespace Go.Proofs.Ytbkhbnmihnomaaa
open Go.RowKit

theorem bcell {W w1 : World} (hb : Below W.heap.size W w1) : (∀ b o, b < W.heap.size → w1.cell? ⟨b, o, none⟩ = W.cell? ⟨b, o, none⟩) ∧ (∀ b o, b < W.heap.size → w1.frozen? ⟨b, o, none⟩ = W.frozen? ⟨b, o, none⟩) :=
  ⟨fun b o h => hb.cell (p := ⟨b, o, none⟩) h, fun b o h => hb.frozen (p := ⟨b, o, none⟩) h⟩
theorem bset {w W : World} (h : Below w.heap.size w W) {a : Addr} (v : Value) (ha : w.heap.size ≤ a.block) : Below w.heap.size w (W.setCell a v) := h.setCell ha v

set_option maxHeartbeats 1000000 in
theorem move_no1 (ao : Option Addr) (n c : Nat) (i want cnt : Int) (l : List UInt8) (s : ByteArray) (w : World) (HT : Hid (Tx w ao n c l)) (hpl : plB l i = false) :
    Calls Try.prog 10 #[.slice ao n c, .int .i64 i, .int .i64 want, .int .i64 cnt, .string s] w fun e w' => e = .returned (.tuple #[.agg #[.int .i64 0, .int .i64 0, .int .i64 0], .int .i64 0, .int .i64 2]) ∧ Below w.heap.size w w' := by
  have T1 := Hid.mk' (fun x => Hid.mk' (HT.out.keep (bAlloc (Below.refl _ _) x)))
  have K := Hid.mk' (kind_any s)
  have HP : Hid (pr (aOf l i) = .returned (.tuple #[.int .i64 0, .int .i64 2])) := by unfold Hid pr aOf ans; rw [hpl]; rfl
  clear hpl
  generalize kd (kn s) = K1 at *
  go_enter Try.func10, Try.ntmps10
  go_wp2_with fail
  refine (of_any ao n c i l _ (T1.out _)).mono ?_
  rintro e w1 ⟨rfl, hb1⟩
  rw [HP.out]
  obtain ⟨hc1, hf1⟩ := bcell hb1
  have B1 := Hid.mk' (bT (bAlloc (Below.refl _ _) _) hb1)
  have hz : w.heap.size < w1.heap.size := by have := hb1.size; simp at this; omega
  clear hb1
  go_wp2_with fail
  refine (K.out _).mono ?_
  rintro e w9 ⟨rfl, hw⟩
  have hq := hw.symm
  subst hq
  clear hw
  go_wp2
  exact bodyPost_ret (v := .tuple #[.agg #[.int .i64 0, .int .i64 0, .int .i64 0], .int .i64 0, .int .i64 2]) (by simp [results, Try.results10, go_sem, hc1]) rfl ⟨rfl, bset (bset (bset B1.out _ (Nat.le_refl _)) _ (Nat.le_refl _)) _ (Nat.le_refl _)⟩

set_option maxHeartbeats 1000000 in
theorem move_no2 (ao : Option Addr) (n c : Nat) (i want cnt : Int) (l : List UInt8) (s : ByteArray) (w : World) (HT : Hid (Tx w ao n c l)) (hpl : plB l i = true) (h2 : want < -1) :
    Calls Try.prog 10 #[.slice ao n c, .int .i64 i, .int .i64 want, .int .i64 cnt, .string s] w fun e w' => e = .returned (.tuple #[.agg #[.int .i64 0, .int .i64 0, .int .i64 0], .int .i64 0, .int .i64 2]) ∧ Below w.heap.size w w' := by
  have T1 := Hid.mk' (fun x => Hid.mk' (HT.out.keep (bAlloc (Below.refl _ _) x)))
  have K := Hid.mk' (kind_any s)
  have HP : Hid (pr (aOf l i) = .returned (.tuple #[.int .i64 (nl (l.take i.toNat)), .int .i64 0])) := by unfold Hid pr aOf ans; rw [hpl]; rfl
  clear hpl
  generalize kd (kn s) = K1 at *
  go_enter Try.func10, Try.ntmps10
  go_wp2_with fail
  refine (of_any ao n c i l _ (T1.out _)).mono ?_
  rintro e w1 ⟨rfl, hb1⟩
  rw [HP.out]
  obtain ⟨hc1, hf1⟩ := bcell hb1
  have B1 := Hid.mk' (bT (bAlloc (Below.refl _ _) _) hb1)
  have hz : w.heap.size < w1.heap.size := by have := hb1.size; simp at this; omega
  clear hb1
  go_wp2_with fail
  refine (K.out _).mono ?_
  rintro e w9 ⟨rfl, hw⟩
  have hq := hw.symm
  subst hq
  clear hw
  go_wp2
  exact bodyPost_ret (v := .tuple #[.agg #[.int .i64 0, .int .i64 0, .int .i64 0], .int .i64 0, .int .i64 2]) (by simp [results, Try.results10, go_sem, hc1]) rfl ⟨rfl, bset (bset (bset B1.out _ (Nat.le_refl _)) _ (Nat.le_refl _)) _ (Nat.le_refl _)⟩

set_option maxHeartbeats 1000000 in
theorem move_no3 (ao : Option Addr) (n c : Nat) (i want cnt : Int) (l : List UInt8) (s : ByteArray) (w : World) (HT : Hid (Tx w ao n c l)) (hpl : plB l i = true) (h2 : -1 ≤ want) (h3 : cnt < 0) :
    Calls Try.prog 10 #[.slice ao n c, .int .i64 i, .int .i64 want, .int .i64 cnt, .string s] w fun e w' => e = .returned (.tuple #[.agg #[.int .i64 0, .int .i64 0, .int .i64 0], .int .i64 0, .int .i64 2]) ∧ Below w.heap.size w w' := by
  have T1 := Hid.mk' (fun x => Hid.mk' (HT.out.keep (bAlloc (Below.refl _ _) x)))
  have K := Hid.mk' (kind_any s)
  have HP : Hid (pr (aOf l i) = .returned (.tuple #[.int .i64 (nl (l.take i.toNat)), .int .i64 0])) := by unfold Hid pr aOf ans; rw [hpl]; rfl
  clear hpl
  generalize kd (kn s) = K1 at *
  go_enter Try.func10, Try.ntmps10
  go_wp2_with fail
  refine (of_any ao n c i l _ (T1.out _)).mono ?_
  rintro e w1 ⟨rfl, hb1⟩
  rw [HP.out]
  obtain ⟨hc1, hf1⟩ := bcell hb1
  have B1 := Hid.mk' (bT (bAlloc (Below.refl _ _) _) hb1)
  have hz : w.heap.size < w1.heap.size := by have := hb1.size; simp at this; omega
  clear hb1
  go_wp2_with fail
  refine (K.out _).mono ?_
  rintro e w9 ⟨rfl, hw⟩
  have hq := hw.symm
  subst hq
  clear hw
  go_wp2
  exact bodyPost_ret (v := .tuple #[.agg #[.int .i64 0, .int .i64 0, .int .i64 0], .int .i64 0, .int .i64 2]) (by simp [results, Try.results10, go_sem, hc1]) rfl ⟨rfl, bset (bset (bset B1.out _ (Nat.le_refl _)) _ (Nat.le_refl _)) _ (Nat.le_refl _)⟩

set_option maxHeartbeats 1000000 in
theorem move_no4 (ao : Option Addr) (n c : Nat) (i want cnt : Int) (l : List UInt8) (s : ByteArray) (w : World) (HT : Hid (Tx w ao n c l)) (hpl : plB l i = true) (h2 : -1 ≤ want) (h3 : 0 ≤ cnt) (h4 : 9999 < cnt) :
    Calls Try.prog 10 #[.slice ao n c, .int .i64 i, .int .i64 want, .int .i64 cnt, .string s] w fun e w' => e = .returned (.tuple #[.agg #[.int .i64 0, .int .i64 0, .int .i64 0], .int .i64 0, .int .i64 2]) ∧ Below w.heap.size w w' := by
  have T1 := Hid.mk' (fun x => Hid.mk' (HT.out.keep (bAlloc (Below.refl _ _) x)))
  have K := Hid.mk' (kind_any s)
  have HP : Hid (pr (aOf l i) = .returned (.tuple #[.int .i64 (nl (l.take i.toNat)), .int .i64 0])) := by unfold Hid pr aOf ans; rw [hpl]; rfl
  clear hpl
  generalize kd (kn s) = K1 at *
  go_enter Try.func10, Try.ntmps10
  go_wp2_with fail
  refine (of_any ao n c i l _ (T1.out _)).mono ?_
  rintro e w1 ⟨rfl, hb1⟩
  rw [HP.out]
  obtain ⟨hc1, hf1⟩ := bcell hb1
  have B1 := Hid.mk' (bT (bAlloc (Below.refl _ _) _) hb1)
  have hz : w.heap.size < w1.heap.size := by have := hb1.size; simp at this; omega
  clear hb1
  go_wp2_with fail
  refine (K.out _).mono ?_
  rintro e w9 ⟨rfl, hw⟩
  have hq := hw.symm
  subst hq
  clear hw
  go_wp2
  exact bodyPost_ret (v := .tuple #[.agg #[.int .i64 0, .int .i64 0, .int .i64 0], .int .i64 0, .int .i64 2]) (by simp [results, Try.results10, go_sem, hc1]) rfl ⟨rfl, bset (bset (bset B1.out _ (Nat.le_refl _)) _ (Nat.le_refl _)) _ (Nat.le_refl _)⟩

set_option maxHeartbeats 1000000 in
theorem move_no5 (ao : Option Addr) (n c : Nat) (i want cnt : Int) (l : List UInt8) (s : ByteArray) (w : World) (HT : Hid (Tx w ao n c l)) (hpl : plB l i = true) (h2 : -1 ≤ want) (h3 : 0 ≤ cnt) (h4 : cnt ≤ 9999) (h5 : kn s = 0) :
    Calls Try.prog 10 #[.slice ao n c, .int .i64 i, .int .i64 want, .int .i64 cnt, .string s] w fun e w' => e = .returned (.tuple #[.agg #[.int .i64 0, .int .i64 0, .int .i64 0], .int .i64 0, .int .i64 2]) ∧ Below w.heap.size w w' := by
  have T1 := Hid.mk' (fun x => Hid.mk' (HT.out.keep (bAlloc (Below.refl _ _) x)))
  have K := Hid.mk' (kind_any s)
  have HP : Hid (pr (aOf l i) = .returned (.tuple #[.int .i64 (nl (l.take i.toNat)), .int .i64 0])) := by unfold Hid pr aOf ans; rw [hpl]; rfl
  clear hpl
  have h6 : kd (kn s) = 0 := by rw [h5]; rfl
  clear h5
  generalize kd (kn s) = K1 at *
  go_enter Try.func10, Try.ntmps10
  go_wp2_with fail
  refine (of_any ao n c i l _ (T1.out _)).mono ?_
  rintro e w1 ⟨rfl, hb1⟩
  rw [HP.out]
  obtain ⟨hc1, hf1⟩ := bcell hb1
  have B1 := Hid.mk' (bT (bAlloc (Below.refl _ _) _) hb1)
  have hz : w.heap.size < w1.heap.size := by have := hb1.size; simp at this; omega
  clear hb1
  go_wp2_with fail
  refine (K.out _).mono ?_
  rintro e w9 ⟨rfl, hw⟩
  have hq := hw.symm
  subst hq
  clear hw
  go_wp2
  exact bodyPost_ret (v := .tuple #[.agg #[.int .i64 0, .int .i64 0, .int .i64 0], .int .i64 0, .int .i64 2]) (by simp [results, Try.results10, go_sem, hc1]) rfl ⟨rfl, bset (bset (bset B1.out _ (Nat.le_refl _)) _ (Nat.le_refl _)) _ (Nat.le_refl _)⟩

theorem kd_ne {k : Nat} (h : k ≠ 0) : kd k ≠ 0 := by
  unfold kd
  rw [if_neg h]
  split <;> decide

set_option maxHeartbeats 1000000 in
theorem move_yes (ao : Option Addr) (n c p N : Nat) (want cnt : Int) (l : List UInt8) (s : ByteArray) (w : World) (HT : Hid (Tx w ao n c l)) (hp : p ≤ n) (hc : max cnt 1 = (N : Int)) (hN : (N : Int) ≤ 9999) (hc0 : 0 ≤ cnt) (hc9 : cnt ≤ 9999) (hw1 : -1 ≤ want) (hw2 : want ≤ 9223372036854775807) (hk : Hid (kn s ≠ 0)) :
    Calls Try.prog 10 #[.slice ao n c, .int .i64 p, .int .i64 want, .int .i64 cnt, .string s] w fun e w' => e = (match tgt l p want N (decide (cnt = 0)) (kn s) with | some q => mvE ⟨p, q, kd (kn s), wn l want N (kn s) q, 0⟩ | none => mvE ⟨0, 0, 0, 0, 70⟩) ∧ Below w.heap.size w w' := by
  have hlen := Hid.mk' HT.out.len
  have T1 := Hid.mk' (fun x => Hid.mk' (HT.out.keep (bAlloc (Below.refl _ _) x)))
  have K := Hid.mk' (kind_any s)
  have hK1 : (kd (kn s) == 0) = false := by have := kd_ne hk.out; simpa using this
  have LE := Hid.mk' (fun q (h : tgt l p want N (decide (cnt = 0)) (kn s) = some q) => (by rw [← HT.out.len]; exact tgt_le (by rw [HT.out.len]; exact hp) (kn_le s) h : q ≤ n))
  have LD := Hid.mk' (fun w HT => leads_any ao n c p N want cnt l s w hp hc hN hc0 hw1 hw2 HT hk.out)
  have WD := Hid.mk' (fun q w hq HT => wanted_any ao n c p N (nl (l.take p) : Nat) want cnt l s q w hq HT hc hN)
  clear hk
  generalize hA : tgt l p want N (decide (cnt = 0)) (kn s) = A at *
  clear hA
  generalize kd (kn s) = K1 at *
  go_enter Try.func10, Try.ntmps10
  go_wp2_with fail
  refine (of_is hp (T1.out _)).mono ?_
  rintro e w1 ⟨rfl, hb1⟩
  obtain ⟨hc1, hf1⟩ := bcell hb1
  have B1 := Hid.mk' (bT (bAlloc (Below.refl _ _) _) hb1)
  have hz : w.heap.size < w1.heap.size := by have := hb1.size; simp at this; omega
  clear hb1
  go_wp2_with fail
  refine (K.out _).mono ?_
  rintro e w9 ⟨rfl, hw⟩
  have hq := hw.symm
  subst hq
  clear hw
  go_wp2_with fail
  have T2 := Hid.mk' (fun x => Hid.mk' (HT.out.keep (bAlloc B1.out x)))
  have B2 := Hid.mk' (fun x => bAlloc B1.out x)
  clear T1
  refine (LD.out _ (T2.out _)).mono ?_
  rintro e w2 ⟨⟨z, hz2, rfl⟩, hb2⟩
  have C2 := fun b o h => (bcell hb2).1 b o h
  have F2 := fun b o h => (bcell hb2).2 b o h
  have hz1 : w1.heap.size < w2.heap.size := by have := hb2.size; simp at this; omega
  have hz3 : w.heap.size < w2.heap.size := by omega
  have B3 := Hid.mk' (bT (B2.out _) hb2)
  clear hb2
  have r0 : ∀ o, w2.cell? ⟨w.heap.size, o, none⟩ = w1.cell? ⟨w.heap.size, o, none⟩ := fun o => by
    rw [C2 _ o (by simp; omega)]; simp [go_sem, hz]
  have m0 : w2.cell? ⟨w1.heap.size, 0, none⟩ = some (.slice ao n c) := by rw [C2 _ _ (by simp)]; simp [go_sem]
  have m1 : w2.cell? ⟨w1.heap.size, 1, none⟩ = some (.int .i64 p) := by rw [C2 _ _ (by simp)]; simp [go_sem]
  have m2 : w2.cell? ⟨w1.heap.size, 2, none⟩ = some (.int .i64 (nl (l.take p) : Nat)) := by rw [C2 _ _ (by simp)]; simp [go_sem]
  have m3 : w2.cell? ⟨w1.heap.size, 3, none⟩ = some (.int .i64 want) := by rw [C2 _ _ (by simp)]; simp [go_sem]
  have m4 : w2.cell? ⟨w1.heap.size, 4, none⟩ = some (.int .i64 cnt) := by rw [C2 _ _ (by simp)]; simp [go_sem]
  have g0 : ∀ o, w2.frozen? ⟨w.heap.size, o, none⟩ = w1.frozen? ⟨w.heap.size, o, none⟩ := fun o => by
    rw [F2 _ o (by simp; omega)]; simp [go_sem, hz]
  clear C2 F2
  cases A with
  | none =>
    rw [show prE none z = .returned (.tuple #[.int .i64 0, .int .i64 z]) from rfl]
    have hzz : (z != 0) = true := by rcases hz2 with rfl | rfl <;> rfl
    clear hz2
    go_wp2
    exact bodyPost_ret (v := .tuple #[.agg #[.int .i64 0, .int .i64 0, .int .i64 0], .int .i64 0, .int .i64 70]) (by simp [results, Try.results10, go_sem, r0, hc1]) rfl ⟨rfl, bset (bset (bset B3.out _ (Nat.le_refl _)) _ (Nat.le_refl _)) _ (Nat.le_refl _)⟩
  | some q =>
    rw [show prE (some q) z = .returned (.tuple #[.int .i64 q, .int .i64 0]) from rfl]
    clear hz2
    go_wp2_with fail
    refine (WD.out q _ (LE.out q rfl) (Hid.mk' (HT.out.keep B3.out))).mono ?_
    rintro e w3 ⟨rfl, hb3⟩
    have r3 : ∀ o, w3.cell? ⟨w.heap.size, o, none⟩ = w1.cell? ⟨w.heap.size, o, none⟩ := fun o => by rw [(bcell hb3).1 _ o hz3, r0]
    have g3 : ∀ o, w3.frozen? ⟨w.heap.size, o, none⟩ = w1.frozen? ⟨w.heap.size, o, none⟩ := fun o => by rw [(bcell hb3).2 _ o hz3, g0]
    have B4 := Hid.mk' (bT B3.out hb3)
    clear hb3 r0 g0 m0 m1 m2 m3 m4

    go_wp2
    exact bodyPost_ret (v := .tuple #[.agg #[.int .i64 p, .int .i64 q, .int .i64 K1], .int .i64 (wn l want N (kn s) q), .int .i64 0]) (by simp [results, Try.results10, go_sem, r3, hc1]) rfl ⟨rfl, bset (bset (bset B4.out _ (Nat.le_refl _)) _ (Nat.le_refl _)) _ (Nat.le_refl _)⟩
theorem move_any (ao : Option Addr) (n c : Nat) (i want cnt : Int) (l : List UInt8) (s : ByteArray) (w : World) (hw2 : want ≤ 9223372036854775807) (HT : Hid (Tx w ao n c l)) :
    Calls Try.prog 10 #[.slice ao n c, .int .i64 i, .int .i64 want, .int .i64 cnt, .string s] w fun e w' => e = mvE (mv l i want cnt s) ∧ Below w.heap.size w w' := by
  cases h : okB l i want cnt s with
  | false =>
    have e : mvE (mv l i want cnt s) = .returned (.tuple #[.agg #[.int .i64 0, .int .i64 0, .int .i64 0], .int .i64 0, .int .i64 2]) := by unfold mv; rw [h]; rfl
    rw [e]
    cases h1 : plB l i with
    | false => exact move_no1 ao n c i want cnt l s w HT h1
    | true =>
      by_cases h2 : want < -1
      · exact move_no2 ao n c i want cnt l s w HT h1 h2
      · by_cases h3 : cnt < 0
        · exact move_no3 ao n c i want cnt l s w HT h1 (by omega) h3
        · by_cases h4 : 9999 < cnt
          · exact move_no4 ao n c i want cnt l s w HT h1 (by omega) (by omega) h4
          · by_cases h5 : kn s = 0
            · exact move_no5 ao n c i want cnt l s w HT h1 (by omega) (by omega) (by omega) h5
            · exfalso
              unfold okB at h
              rw [h1, decide_eq_true (show -1 ≤ want by omega), decide_eq_true (show 0 ≤ cnt by omega), decide_eq_true (show cnt ≤ 9999 by omega), decide_eq_true h5] at h
              cases h
  | true =>
    have h' := h
    unfold okB at h
    simp only [Bool.and_eq_true, decide_eq_true_eq] at h
    obtain ⟨⟨⟨⟨h1, h2⟩, h3⟩, h4⟩, h5⟩ := h
    obtain ⟨p, rfl, hp⟩ := pl_yes h1
    have hc : max cnt 1 = (((max cnt 1).toNat : Nat) : Int) := by omega
    refine (move_yes ao n c p (max cnt 1).toNat want cnt l s w HT (by rw [← HT.out.len]; exact hp) hc (by omega) h3 h4 h2 hw2 h5).mono fun e w' hh => ⟨?_, hh.2⟩
    rw [hh.1]
    unfold mv
    rw [h', if_pos rfl, Int.toNat_natCast]
    cases tgt l p want (max cnt 1).toNat (decide (cnt = 0)) (kn s) <;> rfl
end Go.Proofs.Ytbkhbnmihnomaaa
