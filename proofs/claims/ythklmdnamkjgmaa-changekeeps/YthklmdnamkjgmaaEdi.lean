/- change.edit. -/
import Derived.Test.YthklmdnamkjgmaaEdt
namespace Go.Proofs.Ythklmdnamkjgmaa
open Go.RowKit

set_option maxRecDepth 8000
/-- an edit whose texts are rows of its own -/
structure Oe (W : World) (base : Nat) (r : Er) : Prop where
  t1 : W.ownsRow base 5 1 (.slice r.p1 r.o r.c1) r.o (bv r.O)
  t2 : W.ownsRow base 5 1 (.slice r.p2 r.n r.c2) r.n (bv r.N)
  far : Far (.slice r.p1 r.o r.c1) (.slice r.p2 r.n r.c2)
  b1 : r.o ≤ 140737488355328
  b2 : r.n ≤ 140737488355328
theorem own_tx' {w : World} {base n c : Nat} {ao : Option Addr} {l : List UInt8} (h : w.ownsRow base 5 1 (.slice ao n c) n (bv l)) (hb : n ≤ 140737488355328) : Tx w ao n c l := by
  obtain ⟨ao', c', e, hT⟩ := own_tx h (by omega)
  simp at e
  obtain ⟨rfl, rfl⟩ := e
  exact hT
theorem Oe.et {W : World} {base : Nat} {r : Er} (h : Oe W base r) : Et W r := ⟨own_tx' h.t1 h.b1, own_tx' h.t2 h.b2, h.b1, h.b2⟩
theorem Oe.keep {W W' : World} {base : Nat} {r : Er} (h : Oe W base r) (hb : Below W.heap.size W W') : Oe W' base r := ⟨own_keep h.t1 hb, own_keep h.t2 hb, h.far, h.b1, h.b2⟩
theorem Oe.low {W : World} {base base' : Nat} {r : Er} (h : Oe W base r) (hb : base' ≤ base) : Oe W base' r := ⟨own_lower h.t1 hb, own_lower h.t2 hb, h.far, h.b1, h.b2⟩
theorem Oe.grown {W W' : World} {base B : Nat} {r : Er} (h : Oe W base r) (hg : W.grownBy W' (some B)) (hB : B < base) : Oe W' base r :=
  ⟨h.t1.kept hg (by rw [show (some B : Option Nat) = some B from rfl]; cases e : (Value.slice r.p1 r.o r.c1).ownBlock with
    | none => exact .inl rfl
    | some k => exact .inr (by have := (h.t1.lt k e).1; intro e'; injection e' with e'; omega)),
   h.t2.kept hg (by cases e : (Value.slice r.p2 r.n r.c2).ownBlock with
    | none => exact .inl rfl
    | some k => exact .inr (by have := (h.t2.lt k e).1; intro e'; injection e' with e'; omega)), h.far, h.b1, h.b2⟩
/-- a new edit -/
def NewE (d : Ed) (w : World) (e : Ending) (w' : World) : Prop := ∃ r : Er, e = .returned (.agg r.cs) ∧ r.d = d ∧ Oe w' w.heap.size r ∧ Below w.heap.size w w'
set_option maxHeartbeats 4000000 in
theorem edit_any (a : Int) (a1 : Option Addr) (n1 c1 : Nat) (O : List UInt8) (a2 : Option Addr) (n2 c2 : Nat) (N : List UInt8) (w : World) (h1 : Hid (Tx w a1 n1 c1 O)) (h2 : Hid (Tx w a2 n2 c2 N)) (b1 : n1 ≤ 140737488355328) (b2 : n2 ≤ 140737488355328) :
    Calls Try.prog 34 #[.int .i64 a, .slice a1 n1 c1, .slice a2 n2 c2] w fun e w' => NewE ⟨a, O, N⟩ w e w' := by
  generalize hW1 : w.alloc (.cells #[.int .i64 0, .slice none 0 0, .slice none 0 0] 38) = W1
  have K1 : Hid (Blk W1 w.heap.size 38 #[.int .i64 0, .slice none 0 0, .slice none 0 0]) := by subst hW1; exact Blk.new w 38 _
  have L1 : Hid (Below w.heap.size w W1) := by subst hW1; exact bAlloc (Below.refl _ _) _
  have Z1 : Hid (w.heap.size < W1.heap.size) := by subst hW1; unfold Hid; simp
  obtain ⟨q, hq⟩ : ∃ q, q = w.heap.size := ⟨_, rfl⟩
  have HQ := Hid.mk' hq
  have C1 := Hid.mk' (clone_any a1 n1 c1 O W1 b1 (h1.out.keep L1.out))
  have C2 := Hid.mk' (fun W (hW : Below W1.heap.size W1 W) => clone_any a2 n2 c2 N W b2 ((h2.out.keep L1.out).keep hW))
  have hqr : w.heap.size = q := hq.symm
  clear hq
  go_enter Try.func34, Try.ntmps34
  go_upto_region 1 with fail
  clear hW1
  go_wp2_with fail
  refine C1.out.mono ?_
  rintro e w2 ⟨v1, rfl, hO1, hB1⟩
  obtain ⟨p1, d1, rfl⟩ := own_shape hO1
  have O1 := Hid.mk' hO1
  have B1 := Hid.mk' hB1
  clear hO1 hB1 C1
  dsimp only
  go_wp2_with fail
  refine (C2.out w2 B1.out).mono ?_
  rintro e w3 ⟨v2, rfl, hO2, hB2⟩
  obtain ⟨p2, d2, rfl⟩ := own_shape hO2
  have O2 := Hid.mk' hO2
  have B2 := Hid.mk' hB2
  have K3 : Hid (Blk w3 q 38 #[.int .i64 0, .slice none 0 0, .slice none 0 0]) := by unfold Hid; rw [HQ.out]; exact (K1.out.keep B1.out).keep B2.out
  clear hO2 hB2 C2 K1
  have k0 : w3.cell? ⟨q, 0, none⟩ = some (.int .i64 0) := K3.out.cell rfl
  have k1 : w3.cell? ⟨q, 1, none⟩ = some (.slice none 0 0) := K3.out.cell rfl
  have k2 : w3.cell? ⟨q, 2, none⟩ = some (.slice none 0 0) := K3.out.cell rfl
  have f0 : w3.frozen? ⟨q, 0, none⟩ = false := K3.out.frozen _
  have f1 : w3.frozen? ⟨q, 1, none⟩ = false := K3.out.frozen _
  have f2 : w3.frozen? ⟨q, 2, none⟩ = false := K3.out.frozen _
  have hl1 : Hid (O.length = n1) := h1.out.len
  have hl2 : Hid (N.length = n2) := h2.out.len
  dsimp only
  go_wp2
  have K4 := ((K3.out.set (j := 0) (.int .i64 a)).set (j := 1) (.slice p1 n1 d1)).set (j := 2) (.slice p2 n2 d2)
  have G4 : w3.grownBy (((w3.setCell ⟨q, 0, none⟩ (.int .i64 a)).setCell ⟨q, 1, none⟩ (.slice p1 n1 d1)).setCell ⟨q, 2, none⟩ (.slice p2 n2 d2)) (some q) := ((grown_set _ _ _ _).trans (grown_set _ _ _ _)).trans (grown_set _ _ _ _)
  have e0 := K4.cell (j := 0) rfl
  have e1 := K4.cell (j := 1) rfl
  have e2 := K4.cell (j := 2) rfl
  have hoe : Oe w3 W1.heap.size ⟨a, p1, n1, d1, O, p2, n2, d2, N⟩ := ⟨own_keep O1.out B2.out, own_lower O2.out B1.out.size, far_new O1.out O2.out, b1, b2⟩
  have hoe2 := (hoe.grown G4 (by rw [HQ.out]; exact Z1.out)).low L1.out.size
  have hbb : Below w.heap.size w w3 := bT L1.out (bT B1.out B2.out)
  have hb4 := hbb.grown G4 hbb.size (fun k hk => by injection hk with hk; rw [← hk, HQ.out]; exact Nat.le_refl _)
  generalize ((w3.setCell ⟨q, 0, none⟩ (.int .i64 a)).setCell ⟨q, 1, none⟩ (.slice p1 n1 d1)).setCell ⟨q, 2, none⟩ (.slice p2 n2 d2) = w4 at *
  exact bodyPost_ret (v := .agg #[.int .i64 a, .slice p1 n1 d1, .slice p2 n2 d2]) (by simp [results, Try.results34, go_sem, e0, e1, e2]) rfl ⟨⟨a, p1, n1, d1, O, p2, n2, d2, N⟩, rfl, rfl, hoe2, hb4⟩
end Go.Proofs.Ythklmdnamkjgmaa
