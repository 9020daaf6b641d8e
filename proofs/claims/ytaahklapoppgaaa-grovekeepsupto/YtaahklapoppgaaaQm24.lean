/- A new history: the program's and the reference's. -/
import Derived.Test.YtaahklapoppgaaaQm18
namespace Go.Proofs.Ytaahklapoppgaaa
open Go.RowKit

set_option maxRecDepth 8000
theorem room1 (W : World) : (Instr.makeSlice 22 (.int .i64 1) (.int .i64 1)).run Try.prog W = .ok (.slice (some ⟨W.heap.size, 0, none⟩) 1 1) (W.alloc (.cells (nd zr) 63)) := by
  obtain ⟨i0, hi, hz0, hz1, hz2⟩ := info_parts info63b
  have := run_make (P := Try.prog) W 22 63 i0 _ Try.underlying22 hi hz0 .i64 .i64 1 1 (by omega) (by omega) (by rw [hz2]; omega) (by omega)
  rw [hz1] at this
  rw [this]
  have e : madeCells (Value.agg zr.cs.toArray).cells ((1 : Int).toNat * 58) = nd zr := by kernel_rfl
  rw [e]
  rfl
theorem zr_d : zr.d = zn := rfl
theorem hst_new {w W : World} {B : Nat} (hB : Blk W B 63 (nd zr)) (h1 : w.heap.size ≤ B) : Hst w.heap.size W.heap.size W B [zr] [] [(W.heap.size, W.heap.size)] := by
  have hlt := hB.lt
  refine ⟨?_, ⟨rfl, fun k r p hk hp => ?_, fun k p hp => ?_, fun j k p q hjk hj hk => ?_⟩, h1, hlt, Nat.le_refl _⟩
  · have e : ncs [zr] ++ [] = zr.cs := by simp [ncs]
    unfold Nrow
    rw [e]
    exact hB
  · match k, hk, hp with
    | 0, hk, hp => simp at hk hp; subst hk hp; exact ⟨ls_nil _ _ _, rfl, by show 0 * 56 ≤ _; omega, mw_zm, mw_zm⟩
    | k + 1, hk, _ => simp at hk
  · match k, hp with
    | 0, hp => simp at hp; subst hp; exact ⟨.inl (by show B + 1 ≤ W.heap.size; omega), by show w.heap.size ≤ W.heap.size; omega, Nat.le_refl _, Nat.le_refl _⟩
    | k + 1, hp => simp at hp
  · match j, k, hj, hk with
    | 0, 0, _, _ => exact absurd rfl hjk
    | j + 1, _, hj, _ => simp at hj
    | 0, k + 1, _, hk => simp at hk
set_option maxHeartbeats 2000000 in
theorem new_any (w : World) : Calls Try.prog 12 #[] w fun e w' => CgP [zn] 0 0 w e w' := by
  have hmk := room1
  obtain ⟨b, hb⟩ : ∃ b, w.heap.size = b := ⟨_, rfl⟩
  obtain ⟨W1, hW1⟩ : ∃ x, x = w.alloc (.cells #[.slice none 0 0, .int .i64 0] 24) := ⟨_, rfl⟩
  obtain ⟨W2, hW2⟩ : ∃ x, W1.alloc (.cells (nd zr) 63) = x := ⟨_, rfl⟩
  have hs1 : W1.heap.size = b + 1 := by rw [hW1, ← hb]; simp
  have K1 : Hid (Blk W2 b 24 #[.slice none 0 0, .int .i64 0]) := by unfold Hid; rw [← hW2, hW1, ← hb]; exact (Blk.new w 24 _).keep (bAlloc (Below.refl _ _) _)
  have K2 : Hid (Blk W2 (b + 1) 63 (nd zr)) := by unfold Hid; rw [← hW2, ← hs1]; exact Blk.new W1 63 _
  have L2 : Hid (Below w.heap.size w W2) := by unfold Hid; rw [← hW2, hW1]; exact bAlloc (bAlloc (Below.refl _ _) _) _
  have e0 : W2.cell? ⟨b, 0, none⟩ = some (.slice none 0 0) := K1.out.cell rfl
  have e1 : W2.cell? ⟨b, 1, none⟩ = some (.int .i64 0) := K1.out.cell rfl
  have f0 : W2.frozen? ⟨b, 0, none⟩ = false := K1.out.frozen _
  have f1 : W2.frozen? ⟨b, 1, none⟩ = false := K1.out.frozen _
  have HB := mkH hb
  go_enter Try.func12, Try.ntmps12
  go_upto_region 1 with fail
  rw [← hW1]
  clear hW1
  go_wp2_with fail
  clear hW2
  have K3 : Blk ((W2.setCell ⟨b, 0, none⟩ (.slice (some ⟨b + 1, 0, none⟩) 1 1)).setCell ⟨b, 1, none⟩ (.int .i64 0)) b 24 #[.slice (some ⟨b + 1, 0, none⟩) 1 1, .int .i64 0] := (K1.out.set (j := 0) _).set (j := 1) _
  have K4 : Blk ((W2.setCell ⟨b, 0, none⟩ (.slice (some ⟨b + 1, 0, none⟩) 1 1)).setCell ⟨b, 1, none⟩ (.int .i64 0)) (b + 1) 63 (nd zr) := (K2.out.off (by omega) _).off (by omega) _
  have L3 : Below w.heap.size w ((W2.setCell ⟨b, 0, none⟩ (.slice (some ⟨b + 1, 0, none⟩) 1 1)).setCell ⟨b, 1, none⟩ (.int .i64 0)) := (L2.out.setCell (by show w.heap.size ≤ b; have := HB.out; omega) _).setCell (by show w.heap.size ≤ b; have := HB.out; omega) _
  generalize (W2.setCell ⟨b, 0, none⟩ (.slice (some ⟨b + 1, 0, none⟩) 1 1)).setCell ⟨b, 1, none⟩ (.int .i64 0) = w3 at *
  have c0 := K3.cell (j := 0) rfl
  have c1 := K3.cell (j := 1) rfl
  exact bodyPost_ret (v := .agg #[.slice (some ⟨b + 1, 0, none⟩) 1 1, .int .i64 0]) (by simp [results, Try.results12, go_sem, c0, c1]) rfl ⟨b + 1, [zr], [], _, rfl, rfl, rfl, hst_new K4 (by have := HB.out; omega), L3⟩
set_option maxHeartbeats 2000000 in
theorem rnew_any (w : World) : Calls Try.prog 13 #[] w fun e w' => CgP [zn] 0 0 w e w' := by
  have hmk := room1
  obtain ⟨b, hb⟩ : ∃ b, w.heap.size = b := ⟨_, rfl⟩
  obtain ⟨W1, hW1⟩ : ∃ x, x = w.alloc (.cells #[.slice none 0 0, .int .i64 0] 24) := ⟨_, rfl⟩
  obtain ⟨W2, hW2⟩ : ∃ x, W1.alloc (.cells (nd zr) 63) = x := ⟨_, rfl⟩
  have hs1 : W1.heap.size = b + 1 := by rw [hW1, ← hb]; simp
  have K1 : Hid (Blk W2 b 24 #[.slice none 0 0, .int .i64 0]) := by unfold Hid; rw [← hW2, hW1, ← hb]; exact (Blk.new w 24 _).keep (bAlloc (Below.refl _ _) _)
  have K2 : Hid (Blk W2 (b + 1) 63 (nd zr)) := by unfold Hid; rw [← hW2, ← hs1]; exact Blk.new W1 63 _
  have L2 : Hid (Below w.heap.size w W2) := by unfold Hid; rw [← hW2, hW1]; exact bAlloc (bAlloc (Below.refl _ _) _) _
  have e0 : W2.cell? ⟨b, 0, none⟩ = some (.slice none 0 0) := K1.out.cell rfl
  have e1 : W2.cell? ⟨b, 1, none⟩ = some (.int .i64 0) := K1.out.cell rfl
  have f0 : W2.frozen? ⟨b, 0, none⟩ = false := K1.out.frozen _
  have f1 : W2.frozen? ⟨b, 1, none⟩ = false := K1.out.frozen _
  have HB := mkH hb
  go_enter Try.func13, Try.ntmps13
  go_upto_region 1 with fail
  rw [← hW1]
  clear hW1
  go_wp2_with fail
  clear hW2
  have K3 : Blk ((W2.setCell ⟨b, 0, none⟩ (.slice (some ⟨b + 1, 0, none⟩) 1 1)).setCell ⟨b, 1, none⟩ (.int .i64 0)) b 24 #[.slice (some ⟨b + 1, 0, none⟩) 1 1, .int .i64 0] := (K1.out.set (j := 0) _).set (j := 1) _
  have K4 : Blk ((W2.setCell ⟨b, 0, none⟩ (.slice (some ⟨b + 1, 0, none⟩) 1 1)).setCell ⟨b, 1, none⟩ (.int .i64 0)) (b + 1) 63 (nd zr) := (K2.out.off (by omega) _).off (by omega) _
  have L3 : Below w.heap.size w ((W2.setCell ⟨b, 0, none⟩ (.slice (some ⟨b + 1, 0, none⟩) 1 1)).setCell ⟨b, 1, none⟩ (.int .i64 0)) := (L2.out.setCell (by show w.heap.size ≤ b; have := HB.out; omega) _).setCell (by show w.heap.size ≤ b; have := HB.out; omega) _
  generalize (W2.setCell ⟨b, 0, none⟩ (.slice (some ⟨b + 1, 0, none⟩) 1 1)).setCell ⟨b, 1, none⟩ (.int .i64 0) = w3 at *
  have c0 := K3.cell (j := 0) rfl
  have c1 := K3.cell (j := 1) rfl
  exact bodyPost_ret (v := .agg #[.slice (some ⟨b + 1, 0, none⟩) 1 1, .int .i64 0]) (by simp [results, Try.results13, go_sem, c0, c1]) rfl ⟨b + 1, [zr], [], _, rfl, rfl, rfl, hst_new K4 (by have := HB.out; omega), L3⟩
end Go.Proofs.Ytaahklapoppgaaa

