/- The law's small ones: place, awake. -/
import Derived.Test.YtgdhdegmjljbfaaSel
import Derived.Lib.SlBytesConst
import Derived.Lib.SmallJoins
namespace Go.Proofs.Ytgdhdegmjljbfaa
open Go.RowKit
set_option maxHeartbeats 1000000 in
theorem place_any (i : Int) (n : Nat) (w : World) (h1 : -9223372036854775808 ≤ i) (h2 : i ≤ 9223372036854775807) (hn : 1 ≤ n) (hn2 : (n : Int) ≤ 140737488355330) :
    Calls Try.prog 12 #[.int .i64 i, .int .i64 n] w fun e w' => (∃ k : Nat, k < n ∧ e = .returned (.int .i64 k)) ∧ w' = w := by
  have hnz : ¬ ((n : Int) = 0) := by omega
  have hnz' : ((n : Int) == 0) = false := by simp; omega
  have hm1 : ¬ ((n : Int) = -1) := by omega
  by_cases h0 : i < 0
  · have hw1 : IntKind.i64.wrap (i + 1) = i + 1 := by rw [IntKind.wrap_i64]; omega
    have hw2 : IntKind.i64.wrap (-(i + 1)) = -(i + 1) := by rw [IntKind.wrap_i64]; omega
    obtain ⟨j, hj⟩ : ∃ j : Nat, -(i + 1) = (j : Int) := ⟨(-(i + 1)).toNat, by omega⟩
    have HT : Hid (-((i + 1).tmod (n : Int)) = ((j % n : Nat) : Int)) := by
      unfold Hid
      rw [← Int.neg_tmod, hj]
      exact (Int.ofNat_tmod j n).symm
    have HJ := Hid.mk' hj
    clear hj
    go_enter Try.func12, Try.ntmps12
    go_wp2
    go_ret
    exact ⟨⟨j % n, Nat.mod_lt _ (by omega), by rw [← HT.out]; rfl⟩, rfl⟩
  · obtain ⟨j, rfl⟩ := Int.eq_ofNat_of_zero_le (show 0 ≤ i by omega)
    have ht : IntKind.i64.wrap ((j : Int).tmod (n : Int)) = ((j % n : Nat) : Int) := by
      rw [← Int.ofNat_tmod]; rw [IntKind.wrap_i64]
      have := Nat.mod_lt j (show 0 < n by omega)
      omega
    go_enter Try.func12, Try.ntmps12
    go_wp2
    go_ret
    exact ⟨⟨j % n, Nat.mod_lt _ (by omega), rfl⟩, rfl⟩

/-- a cell below stays -/
theorem keepC {W w1 : World} (hb : Below W.heap.size W w1) {b o : Nat} {v : Value} (h : W.cell? ⟨b, o, none⟩ = some v) : w1.cell? ⟨b, o, none⟩ = some v := by rw [(bcell hb).1 _ _ (lt_of_cell h)]; exact h
def Blk (W : World) (B : Nat) (e : Nat) (cs : Array Value) : Prop := W.heap[B]? = some (.cells cs e (0, 0))
theorem Blk.cell {W : World} {B e j : Nat} {cs : Array Value} {v : Value} (h : Blk W B e cs) (hj : cs[j]? = some v) : W.cell? ⟨B, j, none⟩ = some v := by
  rw [cell_of_row W B j cs e (0, 0) h]; exact hj
theorem Blk.frozen {W : World} {B e : Nat} {cs : Array Value} (h : Blk W B e cs) (j : Nat) : W.frozen? ⟨B, j, none⟩ = false := frozen_of_row W B j cs e h
theorem Blk.lt {W : World} {B e : Nat} {cs : Array Value} (h : Blk W B e cs) : B < W.heap.size := (Array.getElem?_eq_some_iff.1 h).1
theorem Blk.keep {W W' : World} {B e : Nat} {cs : Array Value} (h : Blk W B e cs) (hb : Below W.heap.size W W') : Blk W' B e cs := by unfold Blk; rw [hb.block B h.lt]; exact h
theorem Blk.keepB {W W' : World} {B e n : Nat} {cs : Array Value} (h : Blk W B e cs) (hb : Below n W W') (hn : B < n) : Blk W' B e cs := by unfold Blk; rw [hb.block B hn]; exact h
theorem Blk.new (W : World) (e : Nat) (cs : Array Value) : Blk (W.alloc (.cells cs e)) W.heap.size e cs := heap_alloc_new W _
theorem Blk.set {W : World} {B e j : Nat} {cs : Array Value} (h : Blk W B e cs) (v : Value) : Blk (W.setCell ⟨B, j, none⟩ v) B e (cs.setIfInBounds j v) := heap_setCell_same _ _ _ _ _ _ h
theorem Blk.off {W : World} {B B' e j : Nat} {cs : Array Value} (h : Blk W B' e cs) (hne : B' ≠ B) (v : Value) : Blk (W.setCell ⟨B, j, none⟩ v) B' e cs := by
  unfold Blk; rw [heap_setCell_other _ _ _ _ hne]; exact h
theorem tx_lit {W : World} {B : Nat} {cs : Array Value} {z : Nat × Nat} {l : List UInt8} (h : W.heap[B]? = some (.cells cs 5 z)) (hc : cs = (bv l).toArray) (hb : l.length ≤ 1000) : Tx W (some ⟨B, 0, none⟩) l.length l.length l := by
  refine ⟨rfl, Nat.le_refl _, by omega, fun e => (by cases e), fun a ha j hj => ?_⟩
  injection ha with ha
  subst ha
  rw [add_none, Nat.zero_add]
  rw [cell_of_row W B j cs 5 z h, hc, List.getElem?_toArray]
  exact bv_at l j hj
def foo : List UInt8 := [102, 111, 111, 32, 98, 97, 114, 46, 98, 97, 122]
def fab : List UInt8 := [102, 40, 97, 40, 98, 41, 99, 41]
set_option maxRecDepth 20000 in
theorem sel_foo : sel foo 5 1 119 true = tg 3 7 1 0 := by
  have : bnd foo 5 1 119 true = some (3, 7) := by decide +kernel
  unfold sel
  rw [this]
  rfl
set_option maxRecDepth 20000 in
theorem sel_fab : sel fab 5 2 40 false = tg 2 7 1 0 := by
  have : bnd fab 5 2 40 false = some (2, 7) := by decide +kernel
  unfold sel
  rw [this]
  rfl
set_option maxRecDepth 8000 in
set_option maxHeartbeats 4000000 in
theorem awake_any (w : World) : Calls Try.prog 7 #[] w fun e w' => e = .returned (.bool true) ∧ Below w.heap.size w w' := by
  have C1 := Hid.mk' (fun W A (h : Tx W (some A) 11 11 foo) => select_yes (some A) 11 11 5 1 97 119 true foo W (by omega) (by omega) (by omega) (by omega) (by decide) (by decide) (.inl rfl) h)
  have C2 := Hid.mk' (fun W A (h : Tx W (some A) 8 8 fab) => select_yes (some A) 8 8 5 2 105 40 false fab W (by omega) (by omega) (by omega) (by omega) (by decide) (by decide) (.inr (.inr (.inr (.inr (.inl rfl))))) h)
  have e1 : (((119 : UInt8).toNat : Nat) : Int) = 119 := rfl
  have e2 : (((40 : UInt8).toNat : Nat) : Int) = 40 := rfl
  rw [e1, sel_foo] at C1
  rw [e2, sel_fab] at C2
  unfold tg at C1 C2
  have kc := fun (w : World) (C : Array Value) (n c : Nat) => Lib.run_convert_bytes_const (P := Try.prog) w 22 5 C n c Try.underlying22 Try.underlying5
  have kc2 := fun (w : World) (o : Obj) (C : Array Value) (n c : Nat) => Joins.run_convert_bytes_const_at (P := Try.prog) (w.alloc o) 22 5 C n c (w.heap.size + 1) (by simp) Try.underlying22 Try.underlying5
  go_enter Try.func7, Try.ntmps7
  go_wp2_with fail
  refine (C1.out _ _ (tx_lit (l := foo) (heap_alloc_new w _) rfl (by decide))).mono ?_
  rintro e w1 ⟨rfl, hb1⟩
  have B1 := Hid.mk' (bT (bAlloc (Below.refl _ _) _) hb1)
  clear hb1 kc
  go_wp2_with fail
  have K3 := Hid.mk' (Blk.new w1 29 #[.int .i64 3, .int .i64 7, .int .i64 1])
  have h5 := heap_alloc_new (w1.alloc (.cells #[.int .i64 3, .int .i64 7, .int .i64 1] 29)) (.cells #[.int .u8 102, .int .u8 40, .int .u8 97, .int .u8 40, .int .u8 98, .int .u8 41, .int .u8 99, .int .u8 41] 5 (8, 9))
  simp only [World.size_alloc] at h5
  have U3 := Hid.mk' (bAlloc (Below.refl _ w1) (.cells #[.int .i64 3, .int .i64 7, .int .i64 1] 29))
  have U4 := Hid.mk' (bAlloc (Below.refl _ (w1.alloc (.cells #[.int .i64 3, .int .i64 7, .int .i64 1] 29))) (.cells #[.int .u8 102, .int .u8 40, .int .u8 97, .int .u8 40, .int .u8 98, .int .u8 41, .int .u8 99, .int .u8 41] 5 (8, 9)))
  refine (C2.out _ _ (tx_lit (l := fab) h5 rfl (by decide))).mono ?_
  rintro e w5 ⟨rfl, hb5⟩
  have B5 := Hid.mk' (bT B1.out (bT U3.out (bT U4.out hb5)))
  have K5 := Hid.mk' ((K3.out.keep U4.out).keep hb5)
  have c0 : w5.cell? ⟨w1.heap.size, 0, none⟩ = some (.int .i64 3) := K5.out.cell (j := 0) rfl
  have c1 : w5.cell? ⟨w1.heap.size, 1, none⟩ = some (.int .i64 7) := K5.out.cell (j := 1) rfl
  have c2 : w5.cell? ⟨w1.heap.size, 2, none⟩ = some (.int .i64 1) := K5.out.cell (j := 2) rfl
  have hz : w1.heap.size < w5.heap.size := K5.out.lt
  clear U3 U4 K3 K5 h5 hb5 kc2
  go_wp2
  go_ret
  exact ⟨rfl, bAlloc B5.out _⟩
end Go.Proofs.Ytgdhdegmjljbfaa
