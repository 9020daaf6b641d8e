/- The contract of quoinref10's Move: the same answer as the program's. -/
import Derived.Test.YtkapddemgodamaaDoorMem2
import Derived.Test.YtkapddemgodamaaDoorMov
import Derived.Test.YtkapddemgodamaaDoorPi
import Derived.Test.YtkapddemgodamaaDoorRbk
namespace Go.Proofs.YtkapddemgodamaaDoor
open Go.RowKit

theorem split_ls (ao : Option Addr) (n c : Nat) (l : List UInt8) (w : World) (hn : n ≤ 1048576) (HT : Hid (Tx w ao n c l)) :
    Calls Tryd.prog 26 #[.slice ao n c] w fun e w' => ∃ v, e = .returned v ∧ Ls w' v (nl l + 1) (ln l) ∧ Below w.heap.size w w' := by
  refine (refSplit_any ao n c l w (by omega) HT).mono ?_
  rintro e w' ⟨v, D, rfl, hR, hD⟩
  refine ⟨v, rfl, ls_of 0 hR (fun j _ => by rw [Nat.zero_add]) hD (fun i hi => ?_), hR.bel⟩
  have hl := HT.out.len
  rw [ln_length (by omega)]
  have := en_le (sp_le (t := l) (n := i) (by omega))
  omega
theorem nl_small {l : List UInt8} {n : Nat} (hl : l.length = n) (hn : n ≤ 1048576) : nl l + 1 ≤ 1048577 := by have := nl_le l; omega
theorem par_any (down : Bool) (ao : Option Addr) (n c : Nat) (l : List UInt8) (w : World) (hn : n ≤ 1048576) (HT : Hid (Tx w ao n c l)) :
    Calls Tryd.prog 18 #[.slice ao n c, .bool down] w fun e w' => ∃ v, e = .returned v ∧ Il w' v (pas (nl l + 1) (ln l) down (nl l + 1)) ∧ Below w.heap.size w w' :=
  par_loop down ao n c (nl l + 1) (ln l) w (nl_small HT.out.len hn) (fun i hi => by
    rw [ap_ends (by omega)]
    have := en_le (sp_le (t := l) (n := i) (by omega))
    have := HT.out.len
    omega) (Hid.mk' (split_ls ao n c l w hn HT))
theorem sen_any (ao : Option Addr) (n c : Nat) (l : List UInt8) (w : World) (hn : n ≤ 1048576) (HT : Hid (Tx w ao n c l)) :
    Calls Tryd.prog 19 #[.slice ao n c] w fun e w' => ∃ v, e = .returned v ∧ Il w' v (sen l (nl l + 1) (ln l) (nl l + 1)) ∧ Below w.heap.size w w' :=
  sen_loop ao n c l (nl l + 1) (ln l) w (nl_small HT.out.len hn) hn (fun i hi => by
    rw [ap_ends (by omega)]
    have := en_le (sp_le (t := l) (n := i) (by omega))
    have := HT.out.len
    omega) HT (Hid.mk' (split_ls ao n c l w hn HT))
theorem two_none : two none = .returned (.tuple #[.int .i64 0, .int .i64 70]) := rfl
theorem two_some (q : Nat) : two (some q) = .returned (.tuple #[.int .i64 q, .int .i64 0]) := rfl
theorem it_ab {L : List Nat} {P : Nat → Bool} {n : Nat} (h : Sl L P n) (m p : Nat) (hp : p ≤ n) : it (ab L n) m p = it (su P n) m p :=
  it_congr (n := n) (fun p hp => ab_su h hp) (fun p q hp e => by
    unfold su at e
    split at e
    · cases e
    · have := nu_le P (n - (p + 1)) (p + 1)
      cases e
      omega) m p hp
theorem it_bw {L : List Nat} {P : Nat → Bool} {n : Nat} (h : Sl L P n) (m p : Nat) (hp : p ≤ n) : it (bw L) m p = it (sd P) m p :=
  it_congr (n := n) (fun p hp => bw_sd h hp) (fun p q hp e => by
    unfold sd at e
    split at e
    · cases e
    · have := nd_le P (p - 1)
      cases e
      omega) m p hp

set_option maxHeartbeats 1000000 in
theorem rmove_n1 (ao : Option Addr) (n c : Nat) (i cnt : Int) (s : ByteArray) (w : World) (h1 : i < 0) :
    Calls Tryd.prog 10 #[.slice ao n c, .int .i64 i, .int .i64 cnt, .string s] w fun e w' => e = argE ∧ Below w.heap.size w w' := by
  unfold argE
  go_enter Tryd.func10, Tryd.ntmps10
  go_wp2
  all_goals exact bodyPost_ret (v := .tuple #[.agg #[.int .i64 0, .int .i64 0, .int .i64 0], .int .i64 2]) (by simp [results, Tryd.results10, go_sem]) rfl ⟨rfl, by repeat (first | exact bAlloc (Below.refl _ _) _ | refine Below.setCell ?_ (Nat.le_refl _) _)⟩
set_option maxHeartbeats 1000000 in
theorem rmove_n2 (ao : Option Addr) (n c : Nat) (i cnt : Int) (s : ByteArray) (w : World) (h0 : 0 ≤ i) (h1 : (n : Int) < i) :
    Calls Tryd.prog 10 #[.slice ao n c, .int .i64 i, .int .i64 cnt, .string s] w fun e w' => e = argE ∧ Below w.heap.size w w' := by
  unfold argE
  go_enter Tryd.func10, Tryd.ntmps10
  go_wp2
  all_goals exact bodyPost_ret (v := .tuple #[.agg #[.int .i64 0, .int .i64 0, .int .i64 0], .int .i64 2]) (by simp [results, Tryd.results10, go_sem]) rfl ⟨rfl, by repeat (first | exact bAlloc (Below.refl _ _) _ | refine Below.setCell ?_ (Nat.le_refl _) _)⟩
set_option maxHeartbeats 1000000 in
theorem rmove_n3 (ao : Option Addr) (n c : Nat) (i cnt : Int) (s : ByteArray) (w : World) (h0 : 0 ≤ i) (h1 : i ≤ (n : Int)) (h2 : cnt < 1) :
    Calls Tryd.prog 10 #[.slice ao n c, .int .i64 i, .int .i64 cnt, .string s] w fun e w' => e = argE ∧ Below w.heap.size w w' := by
  unfold argE
  go_enter Tryd.func10, Tryd.ntmps10
  go_wp2
  all_goals exact bodyPost_ret (v := .tuple #[.agg #[.int .i64 0, .int .i64 0, .int .i64 0], .int .i64 2]) (by simp [results, Tryd.results10, go_sem]) rfl ⟨rfl, by repeat (first | exact bAlloc (Below.refl _ _) _ | refine Below.setCell ?_ (Nat.le_refl _) _)⟩
set_option maxHeartbeats 1000000 in
theorem rmove_n4 (ao : Option Addr) (n c : Nat) (i cnt : Int) (s : ByteArray) (w : World) (h0 : 0 ≤ i) (h1 : i ≤ (n : Int)) (h2 : 1 ≤ cnt) (h3 : 9999 < cnt) :
    Calls Tryd.prog 10 #[.slice ao n c, .int .i64 i, .int .i64 cnt, .string s] w fun e w' => e = argE ∧ Below w.heap.size w w' := by
  unfold argE
  go_enter Tryd.func10, Tryd.ntmps10
  go_wp2
  all_goals exact bodyPost_ret (v := .tuple #[.agg #[.int .i64 0, .int .i64 0, .int .i64 0], .int .i64 2]) (by simp [results, Tryd.results10, go_sem]) rfl ⟨rfl, by repeat (first | exact bAlloc (Below.refl _ _) _ | refine Below.setCell ?_ (Nat.le_refl _) _)⟩
set_option maxHeartbeats 1000000 in
theorem rmove_n5 (ao : Option Addr) (n c : Nat) (i cnt : Int) (s : ByteArray) (w : World) (h0 : 0 ≤ i) (h1 : i ≤ (n : Int)) (h2 : 1 ≤ cnt) (h3 : cnt ≤ 9999) (hk : kn s = 0) :
    Calls Tryd.prog 10 #[.slice ao n c, .int .i64 i, .int .i64 cnt, .string s] w fun e w' => e = argE ∧ Below w.heap.size w w' := by
  obtain ⟨r1, r2, r3, r4, r5⟩ := kn_rules s 0 hk
  clear hk
  unfold argE
  go_enter Tryd.func10, Tryd.ntmps10
  go_wp2
  all_goals exact bodyPost_ret (v := .tuple #[.agg #[.int .i64 0, .int .i64 0, .int .i64 0], .int .i64 2]) (by simp [results, Tryd.results10, go_sem]) rfl ⟨rfl, by repeat (first | exact bAlloc (Below.refl _ _) _ | refine Below.setCell ?_ (Nat.le_refl _) _)⟩
set_option maxHeartbeats 2000000 in
theorem rmove_k1 (ao : Option Addr) (n c p m : Nat) (s : ByteArray) (l : List UInt8) (w : World) (hp : p ≤ n) (h2 : 1 ≤ m) (h3 : m ≤ 9999) (hn : n ≤ 1048576) (hk : kn s = 1) (HT : Hid (Tx w ao n c l)) :
    Calls Tryd.prog 10 #[.slice ao n c, .int .i64 p, .int .i64 m, .string s] w fun e w' => e = mvE p 1 (it (su (be l) n) m p) ∧ Below w.heap.size w w' := by
  have hl := HT.out.len
  obtain ⟨L, hL⟩ : ∃ L, L = pas (nl l + 1) (ln l) true (nl l + 1) := ⟨_, rfl⟩
  have hsl : Sl L (be l) n := by rw [hL, ← hl]; exact pas_sl_down l
  have C1 := Hid.mk' (fun W (hb : Below w.heap.size w W) => par_any true ao n c l W hn (Hid.mk' (HT.out.keep hb)))
  rw [← hL] at C1
  have hlen : L.length ≤ 140737488355328 := by
    rw [hL]
    have := pas_len (nl l + 1) (ln l) true (nl l + 1)
    have := nl_le l
    omega
  have HIT := Hid.mk' (it_ab hsl m p hp)
  have hle := hsl.le
  clear hL hsl
  generalize it (su (be l) n) m p = r at *
  obtain ⟨r1, r2, r3, r4, r5⟩ := kn_rules s 1 hk
  have h0 : (0 : Int) ≤ (p : Int) := by omega
  have h1 : (p : Int) ≤ (n : Int) := by omega
  have h4 : (1 : Int) ≤ (m : Int) := by omega
  have h5 : (m : Int) ≤ 9999 := by omega
  clear hk
  go_enter Tryd.func10, Tryd.ntmps10
  go_wp2_with fail
  refine (C1.out _ (bAlloc (Below.refl _ _) _)).mono ?_
  rintro e w2 ⟨v, rfl, hil, hb2⟩
  have B2 := Hid.mk' (bT (bAlloc (Below.refl w.heap.size w) (.cells #[.int .i64 0, .int .i64 0, .int .i64 0] 30)) hb2)
  have TB := Hid.mk' ((Blk.new w 30 #[.int .i64 0, .int .i64 0, .int .i64 0]).keep hb2)
  have IL := Hid.mk' hil
  clear hb2 hil
  go_wp2_with fail
  refine (above_any ao n c p m v L w2 hp (by omega) (by omega) hle hlen IL).mono ?_
  rintro e w' ⟨rfl, hq⟩
  have hq2 := hq.symm; subst hq2; clear hq
  rw [HIT.out]
  have d0 : w2.cell? ⟨w.heap.size, 0, none⟩ = some (.int .i64 0) := TB.out.cell rfl
  have d1 : w2.cell? ⟨w.heap.size, 1, none⟩ = some (.int .i64 0) := TB.out.cell rfl
  have d2 : w2.cell? ⟨w.heap.size, 2, none⟩ = some (.int .i64 0) := TB.out.cell rfl
  have f0 := TB.out.frozen 0
  have f1 := TB.out.frozen 1
  have f2 := TB.out.frozen 2
  cases r with
  | none =>
    rw [two_none]
    go_wp2
    exact bodyPost_ret (v := .tuple #[.agg #[.int .i64 0, .int .i64 0, .int .i64 0], .int .i64 70]) (by simp [results, Tryd.results10, go_sem, d0, d1, d2]) rfl ⟨rfl, put3_below B2.out (Nat.le_refl _) _ _ _⟩
  | some q =>
    rw [two_some]
    go_wp2
    exact bodyPost_ret (v := .tuple #[.agg #[.int .i64 p, .int .i64 q, .int .i64 1], .int .i64 0]) (by simp [results, Tryd.results10, go_sem, d0, d1, d2]) rfl ⟨rfl, put3_below B2.out (Nat.le_refl _) _ _ _⟩
set_option maxHeartbeats 2000000 in
theorem rmove_k2 (ao : Option Addr) (n c p m : Nat) (s : ByteArray) (l : List UInt8) (w : World) (hp : p ≤ n) (h2 : 1 ≤ m) (h3 : m ≤ 9999) (hn : n ≤ 1048576) (hk : kn s = 2) (HT : Hid (Tx w ao n c l)) :
    Calls Tryd.prog 10 #[.slice ao n c, .int .i64 p, .int .i64 m, .string s] w fun e w' => e = mvE p 1 (it (sd (ee l)) m p) ∧ Below w.heap.size w w' := by
  have hl := HT.out.len
  obtain ⟨L, hL⟩ : ∃ L, L = pas (nl l + 1) (ln l) false (nl l + 1) := ⟨_, rfl⟩
  have hsl : Sl L (ee l) n := by rw [hL, ← hl]; exact pas_sl_up l
  have C1 := Hid.mk' (fun W (hb : Below w.heap.size w W) => par_any false ao n c l W hn (Hid.mk' (HT.out.keep hb)))
  rw [← hL] at C1
  have hlen : L.length ≤ 140737488355328 := by
    rw [hL]
    have := pas_len (nl l + 1) (ln l) false (nl l + 1)
    have := nl_le l
    omega
  have HIT := Hid.mk' (it_bw hsl m p hp)
  have hle := hsl.le
  clear hL hsl
  generalize it (sd (ee l)) m p = r at *
  obtain ⟨r1, r2, r3, r4, r5⟩ := kn_rules s 2 hk
  have h0 : (0 : Int) ≤ (p : Int) := by omega
  have h1 : (p : Int) ≤ (n : Int) := by omega
  have h4 : (1 : Int) ≤ (m : Int) := by omega
  have h5 : (m : Int) ≤ 9999 := by omega
  clear hk
  go_enter Tryd.func10, Tryd.ntmps10
  go_wp2_with fail
  refine (C1.out _ (bAlloc (Below.refl _ _) _)).mono ?_
  rintro e w2 ⟨v, rfl, hil, hb2⟩
  have B2 := Hid.mk' (bT (bAlloc (Below.refl w.heap.size w) (.cells #[.int .i64 0, .int .i64 0, .int .i64 0] 30)) hb2)
  have TB := Hid.mk' ((Blk.new w 30 #[.int .i64 0, .int .i64 0, .int .i64 0]).keep hb2)
  have IL := Hid.mk' hil
  clear hb2 hil
  go_wp2_with fail
  refine (below_any n p m v L w2 hp (by omega) (by omega) hlen IL).mono ?_
  rintro e w' ⟨rfl, hq⟩
  have hq2 := hq.symm; subst hq2; clear hq
  rw [HIT.out]
  have d0 : w2.cell? ⟨w.heap.size, 0, none⟩ = some (.int .i64 0) := TB.out.cell rfl
  have d1 : w2.cell? ⟨w.heap.size, 1, none⟩ = some (.int .i64 0) := TB.out.cell rfl
  have d2 : w2.cell? ⟨w.heap.size, 2, none⟩ = some (.int .i64 0) := TB.out.cell rfl
  have f0 := TB.out.frozen 0
  have f1 := TB.out.frozen 1
  have f2 := TB.out.frozen 2
  cases r with
  | none =>
    rw [two_none]
    go_wp2
    exact bodyPost_ret (v := .tuple #[.agg #[.int .i64 0, .int .i64 0, .int .i64 0], .int .i64 70]) (by simp [results, Tryd.results10, go_sem, d0, d1, d2]) rfl ⟨rfl, put3_below B2.out (Nat.le_refl _) _ _ _⟩
  | some q =>
    rw [two_some]
    go_wp2
    exact bodyPost_ret (v := .tuple #[.agg #[.int .i64 p, .int .i64 q, .int .i64 1], .int .i64 0]) (by simp [results, Tryd.results10, go_sem, d0, d1, d2]) rfl ⟨rfl, put3_below B2.out (Nat.le_refl _) _ _ _⟩
set_option maxHeartbeats 2000000 in
theorem rmove_k3 (ao : Option Addr) (n c p m : Nat) (s : ByteArray) (l : List UInt8) (w : World) (hp : p ≤ n) (h2 : 1 ≤ m) (h3 : m ≤ 9999) (hn : n ≤ 1048576) (hk : kn s = 3) (HT : Hid (Tx w ao n c l)) :
    Calls Tryd.prog 10 #[.slice ao n c, .int .i64 p, .int .i64 m, .string s] w fun e w' => e = mvE p 1 (it (su (st l) n) m p) ∧ Below w.heap.size w w' := by
  have hl := HT.out.len
  obtain ⟨L, hL⟩ : ∃ L, L = sen l (nl l + 1) (ln l) (nl l + 1) := ⟨_, rfl⟩
  have hsl : Sl L (st l) n := by rw [hL, ← hl]; exact sen_sl l
  have C1 := Hid.mk' (fun W (hb : Below w.heap.size w W) => sen_any ao n c l W hn (Hid.mk' (HT.out.keep hb)))
  rw [← hL] at C1
  have hlen : L.length ≤ 140737488355328 := by
    rw [hL]
    have := sen_len l (nl l + 1) (ln l) (nl l + 1)
    have := nl_le l
    have e2 := ap_mono (ln l) (nl l + 1) n (fun i hi => by rw [ap_ends (by omega)]; have := en_le (sp_le (t := l) (n := i) (by omega)); omega) (nl l + 1) (Nat.le_refl _); omega
  have HIT := Hid.mk' (it_ab hsl m p hp)
  have hle := hsl.le
  clear hL hsl
  generalize it (su (st l) n) m p = r at *
  obtain ⟨r1, r2, r3, r4, r5⟩ := kn_rules s 3 hk
  have h0 : (0 : Int) ≤ (p : Int) := by omega
  have h1 : (p : Int) ≤ (n : Int) := by omega
  have h4 : (1 : Int) ≤ (m : Int) := by omega
  have h5 : (m : Int) ≤ 9999 := by omega
  clear hk
  go_enter Tryd.func10, Tryd.ntmps10
  go_wp2_with fail
  refine (C1.out _ (bAlloc (Below.refl _ _) _)).mono ?_
  rintro e w2 ⟨v, rfl, hil, hb2⟩
  have B2 := Hid.mk' (bT (bAlloc (Below.refl w.heap.size w) (.cells #[.int .i64 0, .int .i64 0, .int .i64 0] 30)) hb2)
  have TB := Hid.mk' ((Blk.new w 30 #[.int .i64 0, .int .i64 0, .int .i64 0]).keep hb2)
  have IL := Hid.mk' hil
  clear hb2 hil
  go_wp2_with fail
  refine (above_any ao n c p m v L w2 hp (by omega) (by omega) hle hlen IL).mono ?_
  rintro e w' ⟨rfl, hq⟩
  have hq2 := hq.symm; subst hq2; clear hq
  rw [HIT.out]
  have d0 : w2.cell? ⟨w.heap.size, 0, none⟩ = some (.int .i64 0) := TB.out.cell rfl
  have d1 : w2.cell? ⟨w.heap.size, 1, none⟩ = some (.int .i64 0) := TB.out.cell rfl
  have d2 : w2.cell? ⟨w.heap.size, 2, none⟩ = some (.int .i64 0) := TB.out.cell rfl
  have f0 := TB.out.frozen 0
  have f1 := TB.out.frozen 1
  have f2 := TB.out.frozen 2
  cases r with
  | none =>
    rw [two_none]
    go_wp2
    exact bodyPost_ret (v := .tuple #[.agg #[.int .i64 0, .int .i64 0, .int .i64 0], .int .i64 70]) (by simp [results, Tryd.results10, go_sem, d0, d1, d2]) rfl ⟨rfl, put3_below B2.out (Nat.le_refl _) _ _ _⟩
  | some q =>
    rw [two_some]
    go_wp2
    exact bodyPost_ret (v := .tuple #[.agg #[.int .i64 p, .int .i64 q, .int .i64 1], .int .i64 0]) (by simp [results, Tryd.results10, go_sem, d0, d1, d2]) rfl ⟨rfl, put3_below B2.out (Nat.le_refl _) _ _ _⟩
set_option maxHeartbeats 2000000 in
theorem rmove_k4 (ao : Option Addr) (n c p m : Nat) (s : ByteArray) (l : List UInt8) (w : World) (hp : p ≤ n) (h2 : 1 ≤ m) (h3 : m ≤ 9999) (hn : n ≤ 1048576) (hk : kn s = 4) (HT : Hid (Tx w ao n c l)) :
    Calls Tryd.prog 10 #[.slice ao n c, .int .i64 p, .int .i64 m, .string s] w fun e w' => e = mvE p 1 (it (sd (st l)) m p) ∧ Below w.heap.size w w' := by
  have hl := HT.out.len
  obtain ⟨L, hL⟩ : ∃ L, L = sen l (nl l + 1) (ln l) (nl l + 1) := ⟨_, rfl⟩
  have hsl : Sl L (st l) n := by rw [hL, ← hl]; exact sen_sl l
  have C1 := Hid.mk' (fun W (hb : Below w.heap.size w W) => sen_any ao n c l W hn (Hid.mk' (HT.out.keep hb)))
  rw [← hL] at C1
  have hlen : L.length ≤ 140737488355328 := by
    rw [hL]
    have := sen_len l (nl l + 1) (ln l) (nl l + 1)
    have := nl_le l
    have e2 := ap_mono (ln l) (nl l + 1) n (fun i hi => by rw [ap_ends (by omega)]; have := en_le (sp_le (t := l) (n := i) (by omega)); omega) (nl l + 1) (Nat.le_refl _); omega
  have HIT := Hid.mk' (it_bw hsl m p hp)
  have hle := hsl.le
  clear hL hsl
  generalize it (sd (st l)) m p = r at *
  obtain ⟨r1, r2, r3, r4, r5⟩ := kn_rules s 4 hk
  have h0 : (0 : Int) ≤ (p : Int) := by omega
  have h1 : (p : Int) ≤ (n : Int) := by omega
  have h4 : (1 : Int) ≤ (m : Int) := by omega
  have h5 : (m : Int) ≤ 9999 := by omega
  clear hk
  go_enter Tryd.func10, Tryd.ntmps10
  go_wp2_with fail
  refine (C1.out _ (bAlloc (Below.refl _ _) _)).mono ?_
  rintro e w2 ⟨v, rfl, hil, hb2⟩
  have B2 := Hid.mk' (bT (bAlloc (Below.refl w.heap.size w) (.cells #[.int .i64 0, .int .i64 0, .int .i64 0] 30)) hb2)
  have TB := Hid.mk' ((Blk.new w 30 #[.int .i64 0, .int .i64 0, .int .i64 0]).keep hb2)
  have IL := Hid.mk' hil
  clear hb2 hil
  go_wp2_with fail
  refine (below_any n p m v L w2 hp (by omega) (by omega) hlen IL).mono ?_
  rintro e w' ⟨rfl, hq⟩
  have hq2 := hq.symm; subst hq2; clear hq
  rw [HIT.out]
  have d0 : w2.cell? ⟨w.heap.size, 0, none⟩ = some (.int .i64 0) := TB.out.cell rfl
  have d1 : w2.cell? ⟨w.heap.size, 1, none⟩ = some (.int .i64 0) := TB.out.cell rfl
  have d2 : w2.cell? ⟨w.heap.size, 2, none⟩ = some (.int .i64 0) := TB.out.cell rfl
  have f0 := TB.out.frozen 0
  have f1 := TB.out.frozen 1
  have f2 := TB.out.frozen 2
  cases r with
  | none =>
    rw [two_none]
    go_wp2
    exact bodyPost_ret (v := .tuple #[.agg #[.int .i64 0, .int .i64 0, .int .i64 0], .int .i64 70]) (by simp [results, Tryd.results10, go_sem, d0, d1, d2]) rfl ⟨rfl, put3_below B2.out (Nat.le_refl _) _ _ _⟩
  | some q =>
    rw [two_some]
    go_wp2
    exact bodyPost_ret (v := .tuple #[.agg #[.int .i64 p, .int .i64 q, .int .i64 1], .int .i64 0]) (by simp [results, Tryd.results10, go_sem, d0, d1, d2]) rfl ⟨rfl, put3_below B2.out (Nat.le_refl _) _ _ _⟩
set_option maxHeartbeats 2000000 in
theorem rmove_k5 (ao : Option Addr) (n c p : Nat) (cnt : Int) (s : ByteArray) (l : List UInt8) (w : World) (hp : p ≤ n) (h2 : 1 ≤ cnt) (h3 : cnt ≤ 9999) (hk : kn s = 5) (HT : Hid (Tx w ao n c l)) :
    Calls Tryd.prog 10 #[.slice ao n c, .int .i64 p, .int .i64 cnt, .string s] w fun e w' => e = mvE p 2 (xa l p) ∧ Below w.heap.size w w' := by
  have hl := HT.out.len
  have hbig := HT.out.big
  have T1 := Hid.mk' (fun o => HT.out.keep (bAlloc (Below.refl w.heap.size w) o))
  have C1 := Hid.mk' (fun o => bracket_any (p := p) hp (T1.out o))
  obtain ⟨r1, r2, r3, r4, r5⟩ := kn_rules s 5 hk
  have h0 : (0 : Int) ≤ (p : Int) := by omega
  have h1 : (p : Int) ≤ (n : Int) := by omega
  have HX : Hid (xa l p = (fq l (n - p) p).bind (pt l)) := by unfold Hid xa; rw [hl]
  clear hk
  cases hf : fq l (n - p) p with
  | none =>
    rw [hf] at HX C1
    have HX' : Hid (xa l p = none) := HX.out
    generalize xa l p = r at *
    clear hf HX
    unfold brk at C1
    go_enter Tryd.func10, Tryd.ntmps10
    go_wp2_with fail
    refine (C1.out _).mono ?_
    rintro e w' ⟨rfl, hq⟩
    have hq2 := hq.symm; subst hq2; clear hq
    go_wp2
    exact bodyPost_ret (v := .tuple #[.agg #[.int .i64 0, .int .i64 0, .int .i64 0], .int .i64 70]) (by simp [results, Tryd.results10, go_sem]) rfl ⟨by rw [HX'.out]; rfl, by repeat (first | exact bAlloc (Below.refl _ _) _ | refine Below.setCell ?_ (Nat.le_refl _) _)⟩
  | some q0 =>
    obtain ⟨hq1, hq2, hpk, _⟩ := fq_some hf
    rw [hf] at HX C1
    have HX' : Hid (xa l p = pt l q0) := HX.out
    have C2 := Hid.mk' (fun o => pair_any (p := q0) (by omega) hpk (T1.out o))
    generalize xa l p = xx at *
    generalize pt l q0 = r at *
    obtain rfl : xx = r := HX'.out
    clear hf HX hpk HX'
    unfold brk at C1
    have hq0 : (0 : Int) ≤ (q0 : Int) := by omega
    go_enter Tryd.func10, Tryd.ntmps10
    go_wp2_with fail
    refine (C1.out _).mono ?_
    rintro e w' ⟨rfl, hq⟩
    have hq2 := hq.symm; subst hq2; clear hq
    go_wp2_with fail
    refine (C2.out _).mono ?_
    rintro e w2 ⟨rfl, hb2⟩
    have B2 := Hid.mk' (bT (bAlloc (Below.refl w.heap.size w) (.cells #[.int .i64 0, .int .i64 0, .int .i64 0] 30)) hb2)
    have TB := Hid.mk' ((Blk.new w 30 #[.int .i64 0, .int .i64 0, .int .i64 0]).keep hb2)
    clear hb2
    have d0 : w2.cell? ⟨w.heap.size, 0, none⟩ = some (.int .i64 0) := TB.out.cell rfl
    have d1 : w2.cell? ⟨w.heap.size, 1, none⟩ = some (.int .i64 0) := TB.out.cell rfl
    have d2 : w2.cell? ⟨w.heap.size, 2, none⟩ = some (.int .i64 0) := TB.out.cell rfl
    have f0 := TB.out.frozen 0
    have f1 := TB.out.frozen 1
    have f2 := TB.out.frozen 2
    cases xx with
    | none =>
      rw [two_none]
      go_wp2
      exact bodyPost_ret (v := .tuple #[.agg #[.int .i64 0, .int .i64 0, .int .i64 0], .int .i64 70]) (by simp [results, Tryd.results10, go_sem, d0, d1, d2]) rfl ⟨rfl, put3_below B2.out (Nat.le_refl _) _ _ _⟩
    | some q =>
      rw [two_some]
      go_wp2
      exact bodyPost_ret (v := .tuple #[.agg #[.int .i64 p, .int .i64 q, .int .i64 2], .int .i64 0]) (by simp [results, Tryd.results10, go_sem, d0, d1, d2]) rfl ⟨rfl, put3_below B2.out (Nat.le_refl _) _ _ _⟩
theorem rmove_any (ao : Option Addr) (n c : Nat) (i cnt : Int) (s : ByteArray) (l : List UInt8) (w : World) (hn : n ≤ 1048576) (HT : Hid (Tx w ao n c l)) :
    Calls Tryd.prog 10 #[.slice ao n c, .int .i64 i, .int .i64 cnt, .string s] w fun e w' => e = mv l i cnt s ∧ Below w.heap.size w w' := by
  have hl := HT.out.len
  cases h : okB l i cnt s with
  | false =>
    have e : mv l i cnt s = argE := by unfold mv; rw [h]; rfl
    rw [e]
    by_cases h0 : i < 0
    · exact rmove_n1 ao n c i cnt s w h0
    by_cases h1 : (n : Int) < i
    · exact rmove_n2 ao n c i cnt s w (by omega) h1
    by_cases h2 : cnt < 1
    · exact rmove_n3 ao n c i cnt s w (by omega) (by omega) h2
    by_cases h3 : 9999 < cnt
    · exact rmove_n4 ao n c i cnt s w (by omega) (by omega) (by omega) h3
    by_cases h4 : kn s = 0
    · exact rmove_n5 ao n c i cnt s w (by omega) (by omega) (by omega) (by omega) h4
    · exfalso
      unfold okB at h
      rw [hl] at h
      simp only [decide_eq_false_iff_not] at h
      exact h ⟨by omega, by omega, by omega, by omega, h4⟩
  | true =>
    have hh : 0 ≤ i ∧ i ≤ l.length ∧ 1 ≤ cnt ∧ cnt ≤ 9999 ∧ kn s ≠ 0 := by unfold okB at h; simpa using h
    obtain ⟨h0, h1, h2, h3, h4⟩ := hh
    rw [hl] at h1
    have e : mv l i cnt s = mvE i.toNat (kdk (kn s)) (mvk l i.toNat cnt.toNat (kn s)) := by unfold mv; rw [h]; rfl
    rw [e]
    obtain ⟨p, rfl⟩ := Int.eq_ofNat_of_zero_le h0
    obtain ⟨m, rfl⟩ := Int.eq_ofNat_of_zero_le (show 0 ≤ cnt by omega)
    rw [Int.toNat_natCast, Int.toNat_natCast]
    have h5 := kn_le s
    have hc : kn s = 1 ∨ kn s = 2 ∨ kn s = 3 ∨ kn s = 4 ∨ kn s = 5 := by omega
    unfold mvk kdk
    rw [hl]
    rcases hc with hk | hk | hk | hk | hk
    · rw [hk]; exact rmove_k1 ao n c p m s l w (by omega) (by omega) (by omega) hn hk HT
    · rw [hk]; exact rmove_k2 ao n c p m s l w (by omega) (by omega) (by omega) hn hk HT
    · rw [hk]; exact rmove_k3 ao n c p m s l w (by omega) (by omega) (by omega) hn hk HT
    · rw [hk]; exact rmove_k4 ao n c p m s l w (by omega) (by omega) (by omega) hn hk HT
    · rw [hk]; exact rmove_k5 ao n c p m s l w (by omega) (by omega) (by omega) hk HT
end Go.Proofs.YtkapddemgodamaaDoor
