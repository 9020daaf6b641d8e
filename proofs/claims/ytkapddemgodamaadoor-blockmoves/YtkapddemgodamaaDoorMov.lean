/- The contract of block's Move. -/
import Derived.Test.YtkapddemgodamaaDoorLd1
import Derived.Test.YtkapddemgodamaaDoorLd2
import Derived.Test.YtkapddemgodamaaDoorLd3
import Derived.Test.YtkapddemgodamaaDoorLd4
import Derived.Test.YtkapddemgodamaaDoorAcs
namespace Go.Proofs.YtkapddemgodamaaDoor
open Go.RowKit

/-- what Move answers: refused arguments; a key's target -/
def argE : Ending := .returned (.tuple #[.agg #[.int .i64 0, .int .i64 0, .int .i64 0], .int .i64 2])
def mvk (l : List UInt8) (p m k : Nat) : Option Nat :=
  if k = 1 then it (su (be l) l.length) m p else if k = 2 then it (sd (ee l)) m p else if k = 3 then it (su (st l) l.length) m p else if k = 4 then it (sd (st l)) m p else xa l p
def kdk (k : Nat) : Int := if k = 5 then 2 else 1
def okB (l : List UInt8) (i cnt : Int) (s : ByteArray) : Bool := decide (0 ≤ i ∧ i ≤ l.length ∧ 1 ≤ cnt ∧ cnt ≤ 9999 ∧ kn s ≠ 0)
def mv (l : List UInt8) (i cnt : Int) (s : ByteArray) : Ending := if okB l i cnt s = true then mvE i.toNat (kdk (kn s)) (mvk l i.toNat cnt.toNat (kn s)) else argE
/-- what the sentences ask for -/
def Snts (w : World) (n c : Nat) (s : ByteArray) : Prop := kn s = 3 ∨ kn s = 4 → n < 4294967281 ∧ c ≤ 9223372036854775807 ∧ Gl w

set_option maxHeartbeats 1000000 in
theorem move_n1 (ao : Option Addr) (n c : Nat) (i cnt : Int) (s : ByteArray) (w : World) (h1 : i < 0) :
    Calls Tryd.prog 11 #[.slice ao n c, .int .i64 i, .int .i64 cnt, .string s] w fun e w' => e = argE ∧ Below w.heap.size w w' := by
  unfold argE
  go_enter Tryd.func11, Tryd.ntmps11
  go_wp2
  all_goals exact bodyPost_ret (v := .tuple #[.agg #[.int .i64 0, .int .i64 0, .int .i64 0], .int .i64 2]) (by simp [results, Tryd.results11, go_sem]) rfl ⟨rfl, by repeat (first | exact bAlloc (Below.refl _ _) _ | refine Below.setCell ?_ (Nat.le_refl _) _)⟩
set_option maxHeartbeats 1000000 in
theorem move_n2 (ao : Option Addr) (n c : Nat) (i cnt : Int) (s : ByteArray) (w : World) (h0 : 0 ≤ i) (h1 : (n : Int) < i) :
    Calls Tryd.prog 11 #[.slice ao n c, .int .i64 i, .int .i64 cnt, .string s] w fun e w' => e = argE ∧ Below w.heap.size w w' := by
  unfold argE
  go_enter Tryd.func11, Tryd.ntmps11
  go_wp2
  all_goals exact bodyPost_ret (v := .tuple #[.agg #[.int .i64 0, .int .i64 0, .int .i64 0], .int .i64 2]) (by simp [results, Tryd.results11, go_sem]) rfl ⟨rfl, by repeat (first | exact bAlloc (Below.refl _ _) _ | refine Below.setCell ?_ (Nat.le_refl _) _)⟩
set_option maxHeartbeats 1000000 in
theorem move_n3 (ao : Option Addr) (n c : Nat) (i cnt : Int) (s : ByteArray) (w : World) (h0 : 0 ≤ i) (h1 : i ≤ (n : Int)) (h2 : cnt < 1) :
    Calls Tryd.prog 11 #[.slice ao n c, .int .i64 i, .int .i64 cnt, .string s] w fun e w' => e = argE ∧ Below w.heap.size w w' := by
  unfold argE
  go_enter Tryd.func11, Tryd.ntmps11
  go_wp2
  all_goals exact bodyPost_ret (v := .tuple #[.agg #[.int .i64 0, .int .i64 0, .int .i64 0], .int .i64 2]) (by simp [results, Tryd.results11, go_sem]) rfl ⟨rfl, by repeat (first | exact bAlloc (Below.refl _ _) _ | refine Below.setCell ?_ (Nat.le_refl _) _)⟩
set_option maxHeartbeats 1000000 in
theorem move_n4 (ao : Option Addr) (n c : Nat) (i cnt : Int) (s : ByteArray) (w : World) (h0 : 0 ≤ i) (h1 : i ≤ (n : Int)) (h2 : 1 ≤ cnt) (h3 : 9999 < cnt) :
    Calls Tryd.prog 11 #[.slice ao n c, .int .i64 i, .int .i64 cnt, .string s] w fun e w' => e = argE ∧ Below w.heap.size w w' := by
  unfold argE
  go_enter Tryd.func11, Tryd.ntmps11
  go_wp2
  all_goals exact bodyPost_ret (v := .tuple #[.agg #[.int .i64 0, .int .i64 0, .int .i64 0], .int .i64 2]) (by simp [results, Tryd.results11, go_sem]) rfl ⟨rfl, by repeat (first | exact bAlloc (Below.refl _ _) _ | refine Below.setCell ?_ (Nat.le_refl _) _)⟩
set_option maxHeartbeats 1000000 in
theorem move_n5 (ao : Option Addr) (n c : Nat) (i cnt : Int) (s : ByteArray) (w : World) (h0 : 0 ≤ i) (h1 : i ≤ (n : Int)) (h2 : 1 ≤ cnt) (h3 : cnt ≤ 9999) (hk : kn s = 0) :
    Calls Tryd.prog 11 #[.slice ao n c, .int .i64 i, .int .i64 cnt, .string s] w fun e w' => e = argE ∧ Below w.heap.size w w' := by
  have K := Hid.mk' (motion_0 s · hk)
  have r1 := (kn_rules s 0 hk).1
  clear hk
  unfold argE
  go_enter Tryd.func11, Tryd.ntmps11
  go_wp2_with fail
  refine (K.out _).mono ?_
  rintro e w1 ⟨rfl, hb1⟩
  have B1 := Hid.mk' (bT (bAlloc (Below.refl _ _) _) hb1)
  have TB := Hid.mk' ((Blk.new w 30 #[.int .i64 0, .int .i64 0, .int .i64 0]).keep hb1)
  have d0 : w1.cell? ⟨w.heap.size, 0, none⟩ = some (.int .i64 0) := TB.out.cell rfl
  have d1 : w1.cell? ⟨w.heap.size, 1, none⟩ = some (.int .i64 0) := TB.out.cell rfl
  have d2 : w1.cell? ⟨w.heap.size, 2, none⟩ = some (.int .i64 0) := TB.out.cell rfl
  have f0 := TB.out.frozen 0
  have f1 := TB.out.frozen 1
  have f2 := TB.out.frozen 2
  have hz := TB.out.lt
  clear hb1
  go_wp2
  exact bodyPost_ret (v := .tuple #[.agg #[.int .i64 0, .int .i64 0, .int .i64 0], .int .i64 2]) (by simp [results, Tryd.results11, go_sem, d0, d1, d2, hz]) rfl ⟨rfl, bAlloc (put3_below B1.out (Nat.le_refl _) _ _ _) _⟩
set_option maxHeartbeats 1000000 in
theorem move_k5 (ao : Option Addr) (n c p : Nat) (cnt : Int) (s : ByteArray) (l : List UInt8) (w : World) (hp : p ≤ n) (h2 : 1 ≤ cnt) (h3 : cnt ≤ 9999) (hk : kn s = 5) (HT : Hid (Tx w ao n c l)) :
    Calls Tryd.prog 11 #[.slice ao n c, .int .i64 p, .int .i64 cnt, .string s] w fun e w' => e = mvE p 2 (xa l p) ∧ Below w.heap.size w w' := by
  have T1 := Hid.mk' (fun o => HT.out.keep (bAlloc (Below.refl w.heap.size w) o))
  have C1 := Hid.mk' (fun o => across_any (p := p) hp (T1.out o))
  have r1 := (kn_rules s 5 hk).1
  have h0 : (0 : Int) ≤ (p : Int) := by omega
  have h1 : (p : Int) ≤ (n : Int) := by omega
  generalize xa l p = r at *
  clear hk
  cases r with
  | none =>
    unfold mvE at *
    go_enter Tryd.func11, Tryd.ntmps11
    go_wp2_with fail
    refine (C1.out _).mono ?_
    rintro e w1 ⟨rfl, hb1⟩
    have B1 := Hid.mk' (bT (bAlloc (Below.refl _ _) _) hb1)
    have TB := Hid.mk' ((Blk.new w 30 #[.int .i64 0, .int .i64 0, .int .i64 0]).keep hb1)
    have d0 : w1.cell? ⟨w.heap.size, 0, none⟩ = some (.int .i64 0) := TB.out.cell rfl
    have d1 : w1.cell? ⟨w.heap.size, 1, none⟩ = some (.int .i64 0) := TB.out.cell rfl
    have d2 : w1.cell? ⟨w.heap.size, 2, none⟩ = some (.int .i64 0) := TB.out.cell rfl
    have f0 := TB.out.frozen 0
    have f1 := TB.out.frozen 1
    have f2 := TB.out.frozen 2
    have hz := TB.out.lt
    clear hb1
    go_wp2
    exact bodyPost_ret (v := .tuple #[.agg #[.int .i64 0, .int .i64 0, .int .i64 0], .int .i64 70]) (by simp [results, Tryd.results11, go_sem, d0, d1, d2]) rfl ⟨rfl, put3_below B1.out (Nat.le_refl _) _ _ _⟩
  | some q =>
    unfold mvE at *
    go_enter Tryd.func11, Tryd.ntmps11
    go_wp2_with fail
    refine (C1.out _).mono ?_
    rintro e w1 ⟨rfl, hb1⟩
    have B1 := Hid.mk' (bT (bAlloc (Below.refl _ _) _) hb1)
    have TB := Hid.mk' ((Blk.new w 30 #[.int .i64 0, .int .i64 0, .int .i64 0]).keep hb1)
    have d0 : w1.cell? ⟨w.heap.size, 0, none⟩ = some (.int .i64 0) := TB.out.cell rfl
    have d1 : w1.cell? ⟨w.heap.size, 1, none⟩ = some (.int .i64 0) := TB.out.cell rfl
    have d2 : w1.cell? ⟨w.heap.size, 2, none⟩ = some (.int .i64 0) := TB.out.cell rfl
    have f0 := TB.out.frozen 0
    have f1 := TB.out.frozen 1
    have f2 := TB.out.frozen 2
    have hz := TB.out.lt
    clear hb1
    go_wp2
    exact bodyPost_ret (v := .tuple #[.agg #[.int .i64 p, .int .i64 q, .int .i64 2], .int .i64 0]) (by simp [results, Tryd.results11, go_sem, d0, d1, d2]) rfl ⟨rfl, put3_below B1.out (Nat.le_refl _) _ _ _⟩
set_option maxHeartbeats 1000000 in
theorem move_k1 (ao : Option Addr) (n c p m : Nat) (s : ByteArray) (l : List UInt8) (w : World) (hp : p ≤ n) (h2 : 1 ≤ m) (h3 : m ≤ 9999) (hk : kn s = 1) (HT : Hid (Tx w ao n c l)) :
    Calls Tryd.prog 11 #[.slice ao n c, .int .i64 p, .int .i64 m, .string s] w fun e w' => e = mvE p 1 (it (su (be l) n) m p) ∧ Below w.heap.size w w' := by
  have C1 := Hid.mk' (fun W (hb : Below w.heap.size w W) => leads_1 ao n c p m l W hp h3 (Hid.mk' (HT.out.keep hb)))
  have K := Hid.mk' (motion_1 s · hk)
  have r1 := (kn_rules s 1 hk).1
  have h0 : (0 : Int) ≤ (p : Int) := by omega
  have h1 : (p : Int) ≤ (n : Int) := by omega
  have h4 : (1 : Int) ≤ (m : Int) := by omega
  have h5 : (m : Int) ≤ 9999 := by omega
  generalize it (su (be l) n) m p = r at *
  clear hk
  unfold mot at *
  go_enter Tryd.func11, Tryd.ntmps11
  go_wp2_with fail
  refine (K.out _).mono ?_
  rintro e w1 ⟨rfl, hb1⟩
  have B1 := Hid.mk' (bT (bAlloc (Below.refl _ _) _) hb1)
  have TB1 := Hid.mk' ((Blk.new w 30 #[.int .i64 0, .int .i64 0, .int .i64 0]).keep hb1)
  clear hb1
  go_wp2_with fail
  refine (C1.out _ (bAlloc B1.out _)).mono ?_
  rintro e w2 ⟨rfl, hb2⟩
  have B2 := Hid.mk' (bT (bAlloc B1.out _) hb2)
  have TB := Hid.mk' ((TB1.out.keep (bAlloc (Below.refl _ _) _)).keep hb2)
  have d0 : w2.cell? ⟨w.heap.size, 0, none⟩ = some (.int .i64 0) := TB.out.cell rfl
  have d1 : w2.cell? ⟨w.heap.size, 1, none⟩ = some (.int .i64 0) := TB.out.cell rfl
  have d2 : w2.cell? ⟨w.heap.size, 2, none⟩ = some (.int .i64 0) := TB.out.cell rfl
  have f0 := TB.out.frozen 0
  have f1 := TB.out.frozen 1
  have f2 := TB.out.frozen 2
  have hz := TB.out.lt
  clear hb2
  cases r with
  | none =>
    unfold mvE
    go_wp2
    exact bodyPost_ret (v := .tuple #[.agg #[.int .i64 0, .int .i64 0, .int .i64 0], .int .i64 70]) (by simp [results, Tryd.results11, go_sem, d0, d1, d2]) rfl ⟨rfl, put3_below B2.out (Nat.le_refl _) _ _ _⟩
  | some q =>
    unfold mvE
    go_wp2
    exact bodyPost_ret (v := .tuple #[.agg #[.int .i64 p, .int .i64 q, .int .i64 1], .int .i64 0]) (by simp [results, Tryd.results11, go_sem, d0, d1, d2]) rfl ⟨rfl, put3_below B2.out (Nat.le_refl _) _ _ _⟩
set_option maxHeartbeats 1000000 in
theorem move_k2 (ao : Option Addr) (n c p m : Nat) (s : ByteArray) (l : List UInt8) (w : World) (hp : p ≤ n) (h2 : 1 ≤ m) (h3 : m ≤ 9999) (hk : kn s = 2) (HT : Hid (Tx w ao n c l)) :
    Calls Tryd.prog 11 #[.slice ao n c, .int .i64 p, .int .i64 m, .string s] w fun e w' => e = mvE p 1 (it (sd (ee l)) m p) ∧ Below w.heap.size w w' := by
  have C1 := Hid.mk' (fun W (hb : Below w.heap.size w W) => leads_2 ao n c p m l W hp h3 (Hid.mk' (HT.out.keep hb)))
  have K := Hid.mk' (motion_2 s · hk)
  have r1 := (kn_rules s 2 hk).1
  have h0 : (0 : Int) ≤ (p : Int) := by omega
  have h1 : (p : Int) ≤ (n : Int) := by omega
  have h4 : (1 : Int) ≤ (m : Int) := by omega
  have h5 : (m : Int) ≤ 9999 := by omega
  generalize it (sd (ee l)) m p = r at *
  clear hk
  unfold mot at *
  go_enter Tryd.func11, Tryd.ntmps11
  go_wp2_with fail
  refine (K.out _).mono ?_
  rintro e w1 ⟨rfl, hb1⟩
  have B1 := Hid.mk' (bT (bAlloc (Below.refl _ _) _) hb1)
  have TB1 := Hid.mk' ((Blk.new w 30 #[.int .i64 0, .int .i64 0, .int .i64 0]).keep hb1)
  clear hb1
  go_wp2_with fail
  refine (C1.out _ (bAlloc B1.out _)).mono ?_
  rintro e w2 ⟨rfl, hb2⟩
  have B2 := Hid.mk' (bT (bAlloc B1.out _) hb2)
  have TB := Hid.mk' ((TB1.out.keep (bAlloc (Below.refl _ _) _)).keep hb2)
  have d0 : w2.cell? ⟨w.heap.size, 0, none⟩ = some (.int .i64 0) := TB.out.cell rfl
  have d1 : w2.cell? ⟨w.heap.size, 1, none⟩ = some (.int .i64 0) := TB.out.cell rfl
  have d2 : w2.cell? ⟨w.heap.size, 2, none⟩ = some (.int .i64 0) := TB.out.cell rfl
  have f0 := TB.out.frozen 0
  have f1 := TB.out.frozen 1
  have f2 := TB.out.frozen 2
  have hz := TB.out.lt
  clear hb2
  cases r with
  | none =>
    unfold mvE
    go_wp2
    exact bodyPost_ret (v := .tuple #[.agg #[.int .i64 0, .int .i64 0, .int .i64 0], .int .i64 70]) (by simp [results, Tryd.results11, go_sem, d0, d1, d2]) rfl ⟨rfl, put3_below B2.out (Nat.le_refl _) _ _ _⟩
  | some q =>
    unfold mvE
    go_wp2
    exact bodyPost_ret (v := .tuple #[.agg #[.int .i64 p, .int .i64 q, .int .i64 1], .int .i64 0]) (by simp [results, Tryd.results11, go_sem, d0, d1, d2]) rfl ⟨rfl, put3_below B2.out (Nat.le_refl _) _ _ _⟩
set_option maxHeartbeats 1000000 in
theorem move_k3 (ao : Option Addr) (n c p m : Nat) (s : ByteArray) (l : List UInt8) (w : World) (hp : p ≤ n) (h2 : 1 ≤ m) (h3 : m ≤ 9999) (hk : kn s = 3) (hn : n < 4294967281) (hcm : c ≤ 9223372036854775807) (HG : Hid (Gl w)) (HT : Hid (Tx w ao n c l)) :
    Calls Tryd.prog 11 #[.slice ao n c, .int .i64 p, .int .i64 m, .string s] w fun e w' => e = mvE p 1 (it (su (st l) n) m p) ∧ Below w.heap.size w w' := by
  have C1 := Hid.mk' (fun W (hb : Below w.heap.size w W) => leads_3 ao n c p m l W hp h3 hn hcm (Hid.mk' (HG.out.keep hb)) (Hid.mk' (HT.out.keep hb)))
  have K := Hid.mk' (motion_3 s · hk)
  have r1 := (kn_rules s 3 hk).1
  have h0 : (0 : Int) ≤ (p : Int) := by omega
  have h1 : (p : Int) ≤ (n : Int) := by omega
  have h4 : (1 : Int) ≤ (m : Int) := by omega
  have h5 : (m : Int) ≤ 9999 := by omega
  generalize it (su (st l) n) m p = r at *
  clear hk
  unfold mot at *
  go_enter Tryd.func11, Tryd.ntmps11
  go_wp2_with fail
  refine (K.out _).mono ?_
  rintro e w1 ⟨rfl, hb1⟩
  have B1 := Hid.mk' (bT (bAlloc (Below.refl _ _) _) hb1)
  have TB1 := Hid.mk' ((Blk.new w 30 #[.int .i64 0, .int .i64 0, .int .i64 0]).keep hb1)
  clear hb1
  go_wp2_with fail
  refine (C1.out _ (bAlloc B1.out _)).mono ?_
  rintro e w2 ⟨rfl, hb2⟩
  have B2 := Hid.mk' (bT (bAlloc B1.out _) hb2)
  have TB := Hid.mk' ((TB1.out.keep (bAlloc (Below.refl _ _) _)).keep hb2)
  have d0 : w2.cell? ⟨w.heap.size, 0, none⟩ = some (.int .i64 0) := TB.out.cell rfl
  have d1 : w2.cell? ⟨w.heap.size, 1, none⟩ = some (.int .i64 0) := TB.out.cell rfl
  have d2 : w2.cell? ⟨w.heap.size, 2, none⟩ = some (.int .i64 0) := TB.out.cell rfl
  have f0 := TB.out.frozen 0
  have f1 := TB.out.frozen 1
  have f2 := TB.out.frozen 2
  have hz := TB.out.lt
  clear hb2
  cases r with
  | none =>
    unfold mvE
    go_wp2
    exact bodyPost_ret (v := .tuple #[.agg #[.int .i64 0, .int .i64 0, .int .i64 0], .int .i64 70]) (by simp [results, Tryd.results11, go_sem, d0, d1, d2]) rfl ⟨rfl, put3_below B2.out (Nat.le_refl _) _ _ _⟩
  | some q =>
    unfold mvE
    go_wp2
    exact bodyPost_ret (v := .tuple #[.agg #[.int .i64 p, .int .i64 q, .int .i64 1], .int .i64 0]) (by simp [results, Tryd.results11, go_sem, d0, d1, d2]) rfl ⟨rfl, put3_below B2.out (Nat.le_refl _) _ _ _⟩
set_option maxHeartbeats 1000000 in
theorem move_k4 (ao : Option Addr) (n c p m : Nat) (s : ByteArray) (l : List UInt8) (w : World) (hp : p ≤ n) (h2 : 1 ≤ m) (h3 : m ≤ 9999) (hk : kn s = 4) (hn : n < 4294967281) (hcm : c ≤ 9223372036854775807) (HG : Hid (Gl w)) (HT : Hid (Tx w ao n c l)) :
    Calls Tryd.prog 11 #[.slice ao n c, .int .i64 p, .int .i64 m, .string s] w fun e w' => e = mvE p 1 (it (sd (st l)) m p) ∧ Below w.heap.size w w' := by
  have C1 := Hid.mk' (fun W (hb : Below w.heap.size w W) => leads_4 ao n c p m l W hp h3 hn hcm (Hid.mk' (HG.out.keep hb)) (Hid.mk' (HT.out.keep hb)))
  have K := Hid.mk' (motion_4 s · hk)
  have r1 := (kn_rules s 4 hk).1
  have h0 : (0 : Int) ≤ (p : Int) := by omega
  have h1 : (p : Int) ≤ (n : Int) := by omega
  have h4 : (1 : Int) ≤ (m : Int) := by omega
  have h5 : (m : Int) ≤ 9999 := by omega
  generalize it (sd (st l)) m p = r at *
  clear hk
  unfold mot at *
  go_enter Tryd.func11, Tryd.ntmps11
  go_wp2_with fail
  refine (K.out _).mono ?_
  rintro e w1 ⟨rfl, hb1⟩
  have B1 := Hid.mk' (bT (bAlloc (Below.refl _ _) _) hb1)
  have TB1 := Hid.mk' ((Blk.new w 30 #[.int .i64 0, .int .i64 0, .int .i64 0]).keep hb1)
  clear hb1
  go_wp2_with fail
  refine (C1.out _ (bAlloc B1.out _)).mono ?_
  rintro e w2 ⟨rfl, hb2⟩
  have B2 := Hid.mk' (bT (bAlloc B1.out _) hb2)
  have TB := Hid.mk' ((TB1.out.keep (bAlloc (Below.refl _ _) _)).keep hb2)
  have d0 : w2.cell? ⟨w.heap.size, 0, none⟩ = some (.int .i64 0) := TB.out.cell rfl
  have d1 : w2.cell? ⟨w.heap.size, 1, none⟩ = some (.int .i64 0) := TB.out.cell rfl
  have d2 : w2.cell? ⟨w.heap.size, 2, none⟩ = some (.int .i64 0) := TB.out.cell rfl
  have f0 := TB.out.frozen 0
  have f1 := TB.out.frozen 1
  have f2 := TB.out.frozen 2
  have hz := TB.out.lt
  clear hb2
  cases r with
  | none =>
    unfold mvE
    go_wp2
    exact bodyPost_ret (v := .tuple #[.agg #[.int .i64 0, .int .i64 0, .int .i64 0], .int .i64 70]) (by simp [results, Tryd.results11, go_sem, d0, d1, d2]) rfl ⟨rfl, put3_below B2.out (Nat.le_refl _) _ _ _⟩
  | some q =>
    unfold mvE
    go_wp2
    exact bodyPost_ret (v := .tuple #[.agg #[.int .i64 p, .int .i64 q, .int .i64 1], .int .i64 0]) (by simp [results, Tryd.results11, go_sem, d0, d1, d2]) rfl ⟨rfl, put3_below B2.out (Nat.le_refl _) _ _ _⟩
theorem move_any (ao : Option Addr) (n c : Nat) (i cnt : Int) (s : ByteArray) (l : List UInt8) (w : World) (HS : Hid (Snts w n c s)) (HT : Hid (Tx w ao n c l)) :
    Calls Tryd.prog 11 #[.slice ao n c, .int .i64 i, .int .i64 cnt, .string s] w fun e w' => e = mv l i cnt s ∧ Below w.heap.size w w' := by
  have hl := HT.out.len
  cases h : okB l i cnt s with
  | false =>
    have e : mv l i cnt s = argE := by unfold mv; rw [h]; rfl
    rw [e]
    by_cases h0 : i < 0
    · exact move_n1 ao n c i cnt s w h0
    by_cases h1 : (n : Int) < i
    · exact move_n2 ao n c i cnt s w (by omega) h1
    by_cases h2 : cnt < 1
    · exact move_n3 ao n c i cnt s w (by omega) (by omega) h2
    by_cases h3 : 9999 < cnt
    · exact move_n4 ao n c i cnt s w (by omega) (by omega) (by omega) h3
    by_cases h4 : kn s = 0
    · exact move_n5 ao n c i cnt s w (by omega) (by omega) (by omega) (by omega) h4
    · exfalso
      unfold okB at h
      rw [hl] at h
      simp only [decide_eq_false_iff_not] at h
      exact h ⟨by omega, by omega, by omega, by omega, h4⟩
  | true =>
    have hh : 0 ≤ i ∧ i ≤ l.length ∧ 1 ≤ cnt ∧ cnt ≤ 9999 ∧ kn s ≠ 0 := by unfold okB at h; simpa using h
    obtain ⟨h0, h1, h2, h3, h4⟩ := hh
    rw [hl] at h1
    have e : mv l i cnt s = mvE i.toNat (kdk (kn s)) (mvk l i.toNat cnt.toNat (kn s)) := by unfold mv; rw [h]; rfl
    rw [e]
    obtain ⟨p, rfl⟩ := Int.eq_ofNat_of_zero_le h0
    obtain ⟨m, rfl⟩ := Int.eq_ofNat_of_zero_le (show 0 ≤ cnt by omega)
    rw [Int.toNat_natCast, Int.toNat_natCast]
    have h5 := kn_le s
    have hc : kn s = 1 ∨ kn s = 2 ∨ kn s = 3 ∨ kn s = 4 ∨ kn s = 5 := by omega
    unfold mvk kdk
    rw [hl]
    rcases hc with hk | hk | hk | hk | hk
    · rw [hk]; exact move_k1 ao n c p m s l w (by omega) (by omega) (by omega) hk HT
    · rw [hk]; exact move_k2 ao n c p m s l w (by omega) (by omega) (by omega) hk HT
    · obtain ⟨g1, g2, g3⟩ := HS.out (.inl hk)
      rw [hk]; exact move_k3 ao n c p m s l w (by omega) (by omega) (by omega) hk g1 g2 g3 HT
    · obtain ⟨g1, g2, g3⟩ := HS.out (.inr hk)
      rw [hk]; exact move_k4 ao n c p m s l w (by omega) (by omega) (by omega) hk g1 g2 g3 HT
    · rw [hk]; exact move_k5 ao n c p m s l w (by omega) (by omega) (by omega) hk HT
end Go.Proofs.YtkapddemgodamaaDoor
