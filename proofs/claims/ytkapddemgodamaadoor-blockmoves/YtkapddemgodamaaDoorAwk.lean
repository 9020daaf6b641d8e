/- The law's awake, and its place. -/
import Derived.Test.YtkapddemgodamaaDoorMov
namespace Go.Proofs.YtkapddemgodamaaDoor
open Go.RowKit

def T10 : List UInt8 := [97, 46, 32, 40, 98, 41]
theorem t10_tx (w : World) (m : Nat × Nat) : Tx (w.alloc (.cells #[.int .u8 97, .int .u8 46, .int .u8 32, .int .u8 40, .int .u8 98, .int .u8 41] 5 m)) (some ⟨w.heap.size, 0, none⟩) 6 6 T10 := by
  refine ⟨rfl, Nat.le_refl _, by omega, (fun h => by cases h), fun a ha j hj => ?_⟩
  obtain rfl : (⟨w.heap.size, 0, none⟩ : Addr) = a := by simpa using ha
  rw [add_none, Nat.zero_add, World.cell?_alloc_mark]
  have : j = 0 ∨ j = 1 ∨ j = 2 ∨ j = 3 ∨ j = 4 ∨ j = 5 := by omega
  rcases this with rfl | rfl | rfl | rfl | rfl | rfl <;> rfl
theorem kn_one (b : UInt8) : kn { data := #[b] } = knl [b] := by unfold kn; rw [Lib.toList_data]
theorem kn37 : kn { data := #[37] } = 5 := by rw [kn_one]; rfl
theorem kn125 : kn { data := #[125] } = 1 := by rw [kn_one]; rfl
theorem kn123 : kn { data := #[123] } = 2 := by rw [kn_one]; rfl
theorem kn41 : kn { data := #[41] } = 3 := by rw [kn_one]; rfl
theorem kn40 : kn { data := #[40] } = 4 := by rw [kn_one]; rfl
theorem mv_ok {l : List UInt8} {p m : Nat} {s : ByteArray} {k : Nat} (hk : kn s = k) (hp : p ≤ l.length) (h1 : 1 ≤ m) (h2 : m ≤ 9999) (h0 : k ≠ 0) : mv l p m s = mvE p (kdk k) (mvk l p m k) := by
  unfold mv okB
  rw [if_pos (by simp only [decide_eq_true_eq]; exact ⟨by omega, by omega, by omega, by omega, by omega⟩), hk, Int.toNat_natCast, Int.toNat_natCast]
theorem t10a : mv T10 3 1 { data := #[37] } = mvE 3 2 (some 5) := by
  rw [show (3 : Int) = ((3 : Nat) : Int) by rfl, show (1 : Int) = ((1 : Nat) : Int) by rfl, mv_ok kn37 (by decide) (by decide) (by decide) (by decide)]
  have : mvk T10 3 1 5 = some 5 := by decide +kernel
  rw [this]; rfl
theorem t10b : mv T10 0 1 { data := #[41] } = mvE 0 1 (some 3) := by
  rw [show (0 : Int) = ((0 : Nat) : Int) by rfl, show (1 : Int) = ((1 : Nat) : Int) by rfl, mv_ok kn41 (by decide) (by decide) (by decide) (by decide)]
  have : mvk T10 0 1 3 = some 3 := by decide +kernel
  rw [this]; rfl
theorem snts_no {w : World} {n c : Nat} {s : ByteArray} (h : kn s ≠ 3 ∧ kn s ≠ 4) : Snts w n c s := fun e => by rcases e with e | e; exact absurd e h.1; exact absurd e h.2

set_option maxRecDepth 4000 in
set_option maxHeartbeats 2000000 in
theorem awake_any (w : World) (HG : Hid (Gl w)) : Calls Tryd.prog 7 #[] w fun e w' => e = .returned (.bool true) ∧ Below w.heap.size w w' := by
  have HT := Hid.mk' t10_tx
  have kc := fun (w : World) (C : Array Value) (n c : Nat) => Lib.run_convert_bytes_const (P := Tryd.prog) w 22 5 C n c Tryd.underlying22 Tryd.underlying5
  have kc2 := fun (w : World) (o : Obj) (C : Array Value) (n c : Nat) => (show (convert 22 22 (.slice (some ⟨w.heap.size + 1, 0, none⟩) n c)).run Tryd.prog ((w.alloc o).alloc (.cells C 5)) = .ok (.slice (some ⟨w.heap.size + 1, 0, none⟩) n c) ((w.alloc o).alloc (.cells C 5 (C.size, C.size + 1))) by have := kc (w.alloc o) C n c; simpa using this)
  have A1 := Hid.mk' t10a
  have A2 := Hid.mk' t10b
  go_enter Tryd.func7, Tryd.ntmps7
  go_wp2_with fail
  refine (move_any _ _ _ 3 1 _ T10 _ (Hid.mk' (snts_no (by rw [kn37]; decide))) (HT.out _ _)).mono ?_
  rintro e w1 ⟨rfl, hb1⟩
  rw [A1.out]
  unfold mvE
  have B1 := Hid.mk' (bT (bAlloc (Below.refl _ _) _) hb1)
  clear hb1
  dsimp only
  go_wp2_with fail
  refine (move_any _ _ _ 0 1 _ T10 _ (Hid.mk' (fun _ => ⟨by decide, by decide, HG.out.keep (bAlloc (bAlloc B1.out _) _)⟩)) (by unfold Hid; have := HT.out (w1.alloc (.cells #[.int .i64 3, .int .i64 5, .int .i64 2] 30)) (6, 7); simpa using this)).mono ?_
  rintro e w2 ⟨rfl, hb2⟩
  rw [A2.out]
  unfold mvE
  have B2 := Hid.mk' (bT (bAlloc (bAlloc B1.out _) _) hb2)
  have TB := Hid.mk' (((Blk.new w1 30 #[.int .i64 3, .int .i64 5, .int .i64 2]).keep (bAlloc (Below.refl _ _) _)).keep hb2)
  have d0 : w2.cell? ⟨w1.heap.size, 0, none⟩ = some (.int .i64 3) := TB.out.cell rfl
  have d1 : w2.cell? ⟨w1.heap.size, 1, none⟩ = some (.int .i64 5) := TB.out.cell rfl
  have d2 : w2.cell? ⟨w1.heap.size, 2, none⟩ = some (.int .i64 2) := TB.out.cell rfl
  have hz := TB.out.lt
  clear hb2
  dsimp only
  go_wp2
  go_ret
  exact ⟨rfl, bAlloc B2.out _⟩

set_option maxHeartbeats 1000000 in
theorem place_any (i : Int) (n : Nat) (w : World) (h1 : -9223372036854775808 ≤ i) (h2 : i ≤ 9223372036854775807) (hn : 1 ≤ n) (hn2 : (n : Int) ≤ 140737488355330) :
    Calls Tryd.prog 13 #[.int .i64 i, .int .i64 n] w fun e w' => (∃ k : Nat, k < n ∧ e = .returned (.int .i64 k)) ∧ w' = w := by
  have hnz : ¬ ((n : Int) = 0) := by omega
  have hnz' : ((n : Int) == 0) = false := by simp; omega
  have hm1 : ¬ ((n : Int) = -1) := by omega
  by_cases h0 : i < 0
  · have hw1 : IntKind.i64.wrap (i + 1) = i + 1 := by rw [IntKind.wrap_i64]; omega
    have hw2 : IntKind.i64.wrap (-(i + 1)) = -(i + 1) := by rw [IntKind.wrap_i64]; omega
    obtain ⟨j, hj⟩ : ∃ j : Nat, -(i + 1) = (j : Int) := ⟨(-(i + 1)).toNat, by omega⟩
    have HT : Hid (-((i + 1).tmod (n : Int)) = ((j % n : Nat) : Int)) := by
      unfold Hid
      rw [← Int.neg_tmod, hj]
      exact (Int.ofNat_tmod j n).symm
    have HJ := Hid.mk' hj
    clear hj
    go_enter Tryd.func13, Tryd.ntmps13
    go_wp2
    go_ret
    exact ⟨⟨j % n, Nat.mod_lt _ (by omega), by rw [← HT.out]; rfl⟩, rfl⟩
  · obtain ⟨j, rfl⟩ := Int.eq_ofNat_of_zero_le (show 0 ≤ i by omega)
    have ht : IntKind.i64.wrap ((j : Int).tmod (n : Int)) = ((j % n : Nat) : Int) := by
      rw [← Int.ofNat_tmod]; rw [IntKind.wrap_i64]
      have := Nat.mod_lt j (show 0 < n by omega)
      omega
    go_enter Tryd.func13, Tryd.ntmps13
    go_wp2
    go_ret
    exact ⟨⟨j % n, Nat.mod_lt _ (by omega), rfl⟩, rfl⟩
end Go.Proofs.YtkapddemgodamaaDoor
