/- The law's small ones: same, alive. -/
import Derived.Test.YtbknnicpdkpmiaaTak
import Derived.Test.YtbknnicpdkpmiaaRol
import Derived.Test.YtbknnicpdkpmiaaRog
import Derived.Test.YtbknnicpdkpmiaaRon
import Derived.Lib.SlBytesConst
import Derived.Lib.SmallJoins
namespace Go.Proofs.Ytbknnicpdkpmiaa
open Go.RowKit

set_option maxRecDepth 8000
theorem keepC {W w1 : World} (hb : Below W.heap.size W w1) {b o : Nat} {v : Value} (h : W.cell? ⟨b, o, none⟩ = some v) : w1.cell? ⟨b, o, none⟩ = some v := by rw [(cell_keep hb).1 _ _ (lt_of_cell h)]; exact h
def Blk (W : World) (B : Nat) (e : Nat) (cs : Array Value) : Prop := W.heap[B]? = some (.cells cs e (0, 0))
theorem Blk.cell {W : World} {B e j : Nat} {cs : Array Value} {v : Value} (h : Blk W B e cs) (hj : cs[j]? = some v) : W.cell? ⟨B, j, none⟩ = some v := by
  rw [cell_of_row W B j cs e (0, 0) h]; exact hj
theorem Blk.frozen {W : World} {B e : Nat} {cs : Array Value} (h : Blk W B e cs) (j : Nat) : W.frozen? ⟨B, j, none⟩ = false := frozen_of_row W B j cs e h
theorem Blk.lt {W : World} {B e : Nat} {cs : Array Value} (h : Blk W B e cs) : B < W.heap.size := (Array.getElem?_eq_some_iff.1 h).1
theorem Blk.keep {W W' : World} {B e : Nat} {cs : Array Value} (h : Blk W B e cs) (hb : Below W.heap.size W W') : Blk W' B e cs := by unfold Blk; rw [hb.block B h.lt]; exact h
theorem Blk.keepB {W W' : World} {B e n : Nat} {cs : Array Value} (h : Blk W B e cs) (hb : Below n W W') (hn : B < n) : Blk W' B e cs := by unfold Blk; rw [hb.block B hn]; exact h
theorem Blk.new (W : World) (e : Nat) (cs : Array Value) : Blk (W.alloc (.cells cs e)) W.heap.size e cs := heap_alloc_new W _
theorem tx_lit {W : World} {B : Nat} {cs : Array Value} {z : Nat × Nat} {l : List UInt8} (h : W.heap[B]? = some (.cells cs 5 z)) (hc : cs = (bv l).toArray) (hb : l.length ≤ 1000) : Tx W (some ⟨B, 0, none⟩) l.length l.length l := by
  refine ⟨rfl, Nat.le_refl _, by omega, fun e => (by cases e), fun a ha j hj => ?_⟩
  injection ha with ha
  subst ha
  rw [add_none, Nat.zero_add]
  rw [cell_of_row W B j cs 5 z h, hc, List.getElem?_toArray]
  exact bv_at l j hj
set_option maxHeartbeats 1000000 in
theorem same_yes (s L : Bool) (a1 a2 : Option Addr) (n1 n2 c1 c2 : Nat) (l : List UInt8) (w : World) (T1 : Hid (Tx w a1 n1 c1 l)) (T2 : Hid (Tx w a2 n2 c2 l)) :
    Calls Try.prog 15 #[.agg #[.bool s, .bool L, .slice a1 n1 c1], .agg #[.bool s, .bool L, .slice a2 n2 c2]] w fun e w' => e = .returned (.bool true) ∧ Below w.heap.size w w' := by
  have B0 := Hid.mk' (bAlloc (bAlloc (Below.refl _ w) (.cells #[.bool s, .bool L, .slice a1 n1 c1] 38)) (.cells #[.bool s, .bool L, .slice a2 n2 c2] 38))
  have v1 := conv_tx (T1.out.keep B0.out)
  have v2 := conv_tx (T2.out.keep B0.out)
  go_enter Try.func15, Try.ntmps15
  go_wp2
  go_ret
  exact ⟨rfl, B0.out⟩
def foo : List UInt8 := [97, 98, 10, 32, 32, 99]
theorem wh_foo : wh foo 1 1 = ⟨2, 6, true, true, 0⟩ := by kernel_rfl
theorem wh_foo2 : wh foo 1 0 = ⟨0, 0, false, false, 2⟩ := by kernel_rfl
theorem opn_d : opn ⟨#[100]⟩ = 1 := by decide +kernel
theorem of_foo : ofr foo 1 3 1 1 = ⟨1, 2, false, false, 0⟩ := by kernel_rfl
theorem tk_foo : tk foo 2 6 true true = [32, 32, 99, 10] := by decide +kernel
theorem rg_foo : rgB foo ((2 : Nat) : Int) ((6 : Nat) : Int) true true = true := by decide +kernel
set_option maxHeartbeats 4000000 in
theorem alive_any (w : World) : Calls Try.prog 8 #[] w fun e w' => e = .returned (.bool true) ∧ Below w.heap.size w w' := by
  have C1 := Hid.mk' (fun W A (h : Tx W (some A) 6 6 foo) => whole_any (some A) 6 6 1 1 foo W (by omega) (by omega) h)
  have C2 := Hid.mk' (fun W A (h : Tx W (some A) 6 6 foo) => of_any (some A) 6 6 1 3 1 ⟨#[100]⟩ foo W h)
  have C3 := Hid.mk' (fun W A (h : Tx W (some A) 6 6 foo) => take_yes (some A) 6 6 2 6 true true foo W (by omega) rg_foo h)
  have C4 := Hid.mk' (fun W A (h : Tx W (some A) 6 6 foo) => whole_any (some A) 6 6 1 0 foo W (by omega) (by omega) h)
  rw [wh_foo] at C1
  rw [opn_d, of_foo] at C2
  rw [tk_foo] at C3
  rw [wh_foo2] at C4
  unfold rt at C1 C2 C4
  unfold tr at C3
  rw [show ((2 : Nat) : Int) = 2 from rfl, show ((6 : Nat) : Int) = 6 from rfl] at C3
  dsimp only at C1 C2 C4
  have kc := fun (w : World) (C : Array Value) (n c : Nat) => Lib.run_convert_bytes_const (P := Try.prog) w 22 5 C n c Try.underlying22 Try.underlying5
  go_enter Try.func8, Try.ntmps8
  go_wp2_with fail
  have T0 := tx_lit (l := foo) (heap_alloc_new w (.cells #[.int .u8 97, .int .u8 98, .int .u8 10, .int .u8 32, .int .u8 32, .int .u8 99] 5 (6, 7))) rfl (by decide)
  refine (C1.out _ _ T0).mono ?_
  rintro e w1 ⟨rfl, hb1⟩
  have B1 := Hid.mk' (bT (bAlloc (Below.refl _ _) _) hb1)
  have T1 := Hid.mk' (T0.keep hb1)
  clear hb1 kc T0
  go_wp2_with fail
  have K1 := Hid.mk' (Blk.new w1 27 #[.int .i64 2, .int .i64 6, .bool true, .bool true])
  have U1 := Hid.mk' (bAlloc (Below.refl _ w1) (.cells #[.int .i64 2, .int .i64 6, .bool true, .bool true] 27))
  refine (C2.out _ _ (T1.out.keep U1.out)).mono ?_
  rintro e w2 ⟨rfl, hb2⟩
  have B2 := Hid.mk' (bT B1.out (bT U1.out hb2))
  have T2 := Hid.mk' ((T1.out.keep U1.out).keep hb2)
  have K2 := Hid.mk' (K1.out.keep hb2)
  clear hb2 K1 U1 T1
  have a0 := K2.out.cell (j := 0) rfl
  have a1 := K2.out.cell (j := 1) rfl
  have a2 := K2.out.cell (j := 2) rfl
  have a3 := K2.out.cell (j := 3) rfl
  have az := K2.out.lt
  have J2 := Hid.mk' (Blk.new w2 27 #[.int .i64 1, .int .i64 2, .bool false, .bool false])
  have U2 := Hid.mk' (bAlloc (Below.refl _ w2) (.cells #[.int .i64 1, .int .i64 2, .bool false, .bool false] 27))
  go_wp2_with fail
  refine (C3.out _ _ (T2.out.keep U2.out)).mono ?_
  rintro e w3 ⟨v, rfl, hown, hb3⟩
  have B3 := Hid.mk' (bT B2.out (bT U2.out hb3))
  have T3 := Hid.mk' ((T2.out.keep U2.out).keep hb3)
  have K3 := Hid.mk' ((K2.out.keep U2.out).keep hb3)
  have J3 := Hid.mk' (J2.out.keep hb3)
  have HO := Hid.mk' hown
  obtain ⟨ax, cx, ev, TX⟩ := own_txl hown (by decide)
  subst ev
  have HX : Hid (Tx w3 ax 4 cx [32, 32, 99, 10]) := TX
  rw [show [(32 : UInt8), 32, 99, 10].length = 4 from rfl]
  clear hb3 hown TX U2 J2 K2 T2 a0 a1 a2 a3 az
  have P3 := Hid.mk' (Blk.new w3 38 #[.bool true, .bool true, .slice ax 4 cx])
  have U3 := Hid.mk' (bAlloc (Below.refl _ w3) (.cells #[.bool true, .bool true, .slice ax 4 cx] 38))
  go_wp2_with fail
  refine (C4.out _ _ (T3.out.keep U3.out)).mono ?_
  rintro e w4 ⟨rfl, hb4⟩
  have B4 := Hid.mk' (bT B3.out (bT U3.out hb4))
  have K4 := Hid.mk' ((K3.out.keep U3.out).keep hb4)
  have J4 := Hid.mk' ((J3.out.keep U3.out).keep hb4)
  have P4 := Hid.mk' (P3.out.keep hb4)
  have X4 := Hid.mk' (((HX.out.keep U3.out).keep hb4).keep (bAlloc (Below.refl _ w4) (.cells #[.int .i64 0, .int .i64 0, .bool false, .bool false] 27)))
  clear hb4 U3 P3 K3 J3 HX T3
  have a0 := K4.out.cell (j := 0) rfl
  have a1 := K4.out.cell (j := 1) rfl
  have a2 := K4.out.cell (j := 2) rfl
  have a3 := K4.out.cell (j := 3) rfl
  have az := K4.out.lt
  have b0 := J4.out.cell (j := 0) rfl
  have b1 := J4.out.cell (j := 1) rfl
  have b2 := J4.out.cell (j := 2) rfl
  have b3 := J4.out.cell (j := 3) rfl
  have bz := J4.out.lt
  have c0 := P4.out.cell (j := 0) rfl
  have c1 := P4.out.cell (j := 1) rfl
  have c2 := P4.out.cell (j := 2) rfl
  have cz := P4.out.lt
  have cv := conv_tx X4.out
  rw [show (⟨[(32 : UInt8), 32, 99, 10].toArray⟩ : ByteArray) = ⟨#[32, 32, 99, 10]⟩ from rfl] at cv
  go_wp2
  go_ret
  exact ⟨rfl, bAlloc B4.out _⟩

end Go.Proofs.Ytbknnicpdkpmiaa
