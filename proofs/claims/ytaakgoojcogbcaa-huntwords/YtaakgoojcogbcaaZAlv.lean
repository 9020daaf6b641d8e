/- alive. -/
import Derived.Test.YtaakgoojcogbcaaZFin
import Derived.Lib.SlBytesConst
import Derived.Lib.SmallJoins
namespace Go.Proofs.Ytaakgoojcogbcaa
open Go.RowKit
theorem tx_lit {W : World} {B : Nat} {cs : Array Value} {z : Nat × Nat} {l : List UInt8} (h : W.heap[B]? = some (.cells cs 5 z)) (hc : cs = (bv l).toArray) (hb : l.length ≤ 1000) : Tx W (some ⟨B, 0, none⟩) l.length l.length l := by
  refine ⟨rfl, Nat.le_refl _, by omega, fun e => (by cases e), fun a ha j hj => ?_⟩
  injection ha with ha
  subst ha
  rw [add_none, Nat.zero_add]
  rw [cell_of_row W B j cs 5 z h, hc, List.getElem?_toArray]
  exact bv_at l j hj
set_option maxRecDepth 8000 in
set_option maxHeartbeats 4000000 in
theorem all_nil (W : World) (ao : Option Addr) (nl cl : Nat) :
    Calls Try.prog 15 #[.pointer none, .slice ao nl cl] W fun e W' => e = .returned (.slice none 0 0) ∧ W' = W := by
  go_enter Try.func15, Try.ntmps15
  go_wp2
  go_ret
  exact ⟨rfl, rfl⟩
theorem cmp_1 : (cmp [98, 46, 42, 100]).1 = -1 := by decide +kernel
theorem cmp_2 : (cmp [97, 91, 98]).1 = 1 := by decide +kernel
theorem cmp_3 : (cmp [98, 46, 42, 100]).2.length ≤ 256 := by decide +kernel
theorem fs_1 : FS (cmp [98, 46, 42, 100]).2 [97, 98, 99, 100, 98, 100] 0 1 6 true := by
  refine .inl ⟨rfl, by decide, by decide, by decide, by decide +kernel, fun s _ h b' hb => ?_, fun b' hb _ => hb⟩
  have h0 : s = 0 := by omega
  subst h0
  have hb2 : b' < 7 := by have : b' ≤ 6 := hb; omega
  have hall : ∀ b' : Fin 7, M (cmp [98, 46, 42, 100]).2 [97, 98, 99, 100, 98, 100] 0 b'.val = false := by decide +kernel
  exact hall ⟨b', hb2⟩
theorem fi_1 : FI (cmp [98, 46, 42, 100]).2 [97, 98, 99, 100, 98, 100] 0 1 6 true := .inr ⟨Int.le_refl _, Int.natCast_nonneg _, fs_1⟩
/-- what Compile answers to a sound pattern -/
theorem Cmpd.sound {w w' : World} {p : List UInt8} {e : Ending} (h : Cmpd w p e w') (hp : p.length ≤ 256) (hc : (cmp p).1 = -1) : ∃ P, e = .returned (.tuple #[.pointer (some ⟨P, 0, none⟩), .int .i64 0, .int .i64 0]) ∧ Pat w.heap.size w' P (cmp p).2 ∧ Below w.heap.size w w' := by
  obtain ⟨hb, h1 | h1 | h1⟩ := h
  · omega
  · exact absurd hc h1.2.1
  · obtain ⟨_, _, _, P, e1, h2⟩ := h1
    exact ⟨P, e1, h2, hb⟩
theorem Cmpd.fault {w w' : World} {p : List UInt8} {e : Ending} (h : Cmpd w p e w') (hp : p.length ≤ 256) (hc : (cmp p).1 ≠ -1) : e = .returned (.tuple #[.pointer none, .int .i64 (cmp p).1, .int .i64 110]) ∧ Below w.heap.size w w' := by
  obtain ⟨hb, h1 | h1 | h1⟩ := h
  · omega
  · exact ⟨h1.2.2, hb⟩
  · exact absurd h1.2.1 hc

set_option maxRecDepth 8000 in
set_option maxHeartbeats 4000000 in
theorem alive_at (w : World) (L : List Th) (HL : Hid ((cmp [98, 46, 42, 100]).2 = L)) (hL : L.length ≤ 256) (HF : Hid (FI L [97, 98, 99, 100, 98, 100] 0 1 6 true)) : Calls Try.prog 11 #[] w fun e w' => e = .returned (.bool true) ∧ Below w.heap.size w w' := by
  have C1 := Hid.mk' (fun W (B : Nat) (z : Nat × Nat) (h : W.heap[B]? = some (.cells #[.int .u8 98, .int .u8 46, .int .u8 42, .int .u8 100] 5 z)) => compile_any (some ⟨B, 0, none⟩) 4 4 [98, 46, 42, 100] W (Hid.mk' (tx_lit (l := [98, 46, 42, 100]) h rfl (by decide))))
  have C2 := Hid.mk' (fun W (B : Nat) (z : Nat × Nat) (h : W.heap[B]? = some (.cells #[.int .u8 97, .int .u8 91, .int .u8 98] 5 z)) => compile_any (some ⟨B, 0, none⟩) 3 3 [97, 91, 98] W (Hid.mk' (tx_lit (l := [97, 91, 98]) h rfl (by decide))))
  have kc := fun (w : World) (C : Array Value) (n c : Nat) => Lib.run_convert_bytes_const (P := Try.prog) w 22 5 C n c Try.underlying22 Try.underlying5
  have kc2 := fun (w : World) (o : Obj) (C : Array Value) (n c : Nat) => Joins.run_convert_bytes_const_at (P := Try.prog) (w.alloc o) 22 5 C n c (w.heap.size + 1) (by simp) Try.underlying22 Try.underlying5
  have C4 := Hid.mk' (fun W (base B P : Nat) (z : Nat × Nat) (h : W.heap[B]? = some (.cells #[.int .u8 97, .int .u8 98, .int .u8 99, .int .u8 100, .int .u8 98, .int .u8 100] 5 z)) (hp : Pat base W P L) => find_any _ W P _ (some ⟨B, 0, none⟩) 6 6 [97, 98, 99, 100, 98, 100] 0 hL hp (Hid.mk' (tx_lit (l := [97, 98, 99, 100, 98, 100]) h rfl (by decide))))
  go_enter Try.func11, Try.ntmps11
  go_wp2_with fail
  refine (C1.out _ _ _ (heap_alloc_new w _)).mono ?_
  intro e w1 h1
  obtain ⟨P, rfl, hP, hb1⟩ := h1.sound (by decide) cmp_1
  have B1 := Hid.mk' (bT (bAlloc (Below.refl _ _) _) hb1)
  rw [HL.out] at hP
  have HP := Hid.mk' hP
  clear hb1 hP h1 C1
  go_wp2_with fail
  refine (C2.out _ _ _ (heap_alloc_new w1 _)).mono ?_
  intro e w2 h2
  obtain ⟨rfl, hb2⟩ := h2.fault (by decide) (by rw [cmp_2]; decide)
  rw [cmp_2]
  have B2 := Hid.mk' (bT (bAlloc (Below.refl _ _) _) hb2)
  clear hb2 h2 C2
  go_wp2_with (first | (go_at_call 13; refine (find_nil _ _ _ _ _).mono ?_; rintro e w3 ⟨rfl, hw⟩; subst hw) | (go_at_call 15; refine (all_nil _ _ _ _).mono ?_; rintro e w3 ⟨rfl, hw⟩; subst hw))
  have kc3 := fun (C : Array Value) (n c : Nat) => Joins.run_convert_bytes_const_at (P := Try.prog) ((w2.alloc (.cells #[.int .u8 97] 5 (1, 2))).alloc (.cells #[.int .u8 97] 5 (1, 2))) 22 5 C n c (w2.heap.size + 1 + 1) (by simp) Try.underlying22 Try.underlying5
  clear kc kc2
  rw [kc3]
  go_wp2_with fail
  have B3 := Hid.mk' (bT (bT B1.out B2.out) (bT (bAlloc (Below.refl _ _) (.cells #[.int .u8 97] 5 (1, 2))) (bAlloc (Below.refl _ _) (.cells #[.int .u8 97] 5 (1, 2)))))
  have HP4 := Hid.mk' ((HP.out.keep B2.out).keep (bT (bAlloc (Below.refl _ _) (.cells #[.int .u8 97] 5 (1, 2))) (bAlloc (Below.refl _ _) (.cells #[.int .u8 97] 5 (1, 2)))))
  have h5 := heap_alloc_new ((w2.alloc (.cells #[.int .u8 97] 5 (1, 2))).alloc (.cells #[.int .u8 97] 5 (1, 2))) (.cells #[.int .u8 97, .int .u8 98, .int .u8 99, .int .u8 100, .int .u8 98, .int .u8 100] 5 (6, 7))
  simp only [World.size_alloc] at h5
  refine (C4.out _ _ _ _ _ h5 (HP4.out.keep (bAlloc (Below.refl _ _) _))).mono ?_
  rintro e w6 ⟨a, b, ok, rfl, hfi, hb6⟩
  obtain ⟨rfl, rfl, rfl⟩ := hfi.one HF.out
  have B6 := Hid.mk' (bT B3.out (bT (bAlloc (Below.refl _ _) _) hb6))
  clear hb6 hfi h5 C4 B3 HP4
  go_wp2
  go_ret
  exact ⟨rfl, B6.out⟩
theorem alive_any (w : World) : Calls Try.prog 11 #[] w fun e w' => e = .returned (.bool true) ∧ Below w.heap.size w w' :=
  alive_at w _ (Hid.mk' rfl) cmp_3 (Hid.mk' fi_1)
end Go.Proofs.Ytaakgoojcogbcaa
