/- change.cut. -/
import Derived.Test.YthklmdnamkjgmaaBeg
namespace Go.Proofs.Ythklmdnamkjgmaa
open Go.RowKit

set_option maxRecDepth 8000
set_option maxHeartbeats 8000000 in
set_option linter.unusedSimpArgs false in
theorem cut_any (r : Er) (w : World) (hE : Hid (Et w r)) :
    Calls Try.prog 37 #[.agg r.cs] w fun e w' => NewE (cut r.d) w e w' := by
  obtain ⟨a, p1, o, c1, O, p2, n2, c2, N⟩ := r
  show Calls Try.prog 37 #[.agg #[.int .i64 a, .slice p1 o c1, .slice p2 n2 c2]] w fun e w' => NewE (cut ⟨a, O, N⟩) w e w'
  have hEt := hE.out
  have T1 : Hid (Tx w p1 o c1 O) := hEt.t1
  have T2 : Hid (Tx w p2 n2 c2 N) := hEt.t2
  have b1 : o ≤ 140737488355328 := hEt.b1
  have b2 : n2 ≤ 140737488355328 := hEt.b2
  have l1 : O.length = o := hEt.t1.len
  have l2 : N.length = n2 := hEt.t2.len
  clear hEt hE
  generalize hW2 : (w.alloc (.cells #[.int .i64 a, .slice p1 o c1, .slice p2 n2 c2] 38)).alloc (.cells #[.int .i64 0, .slice none 0 0, .slice none 0 0] 38) = W2
  obtain ⟨q, hq⟩ : ∃ q, q = w.heap.size := ⟨_, rfl⟩
  have K1 : Hid (Blk W2 q 38 #[.int .i64 a, .slice p1 o c1, .slice p2 n2 c2]) := by subst hW2 hq; exact (Blk.new w 38 _).keep (bAlloc (Below.refl _ _) _)
  have K2 : Hid (Blk W2 (q + 1) 38 #[.int .i64 0, .slice none 0 0, .slice none 0 0]) := by
    subst hW2 hq
    have := Blk.new (w.alloc (.cells #[.int .i64 a, .slice p1 o c1, .slice p2 n2 c2] 38)) 38 #[.int .i64 0, .slice none 0 0, .slice none 0 0]
    rwa [World.size_alloc] at this
  have L0 : Hid (Below w.heap.size w W2) := by subst hW2; exact bAlloc (bAlloc (Below.refl _ _) _) _
  have HQ := Hid.mk' hq
  have hqr : w.heap.size = q := hq.symm
  obtain ⟨k, hk⟩ : ∃ k, k = cb O N := ⟨_, rfl⟩
  have hkl := cb_le O N
  rw [← hk] at hkl
  obtain ⟨n3, hn3⟩ : ∃ n3, n3 = o - k := ⟨_, rfl⟩
  obtain ⟨n4, hn4⟩ : ∃ n4, n4 = n2 - k := ⟨_, rfl⟩
  obtain ⟨a3, c3, hs3, hT3⟩ := sl_l T1.out (lo := k) (z := (k : Int)) (by omega) rfl
  obtain ⟨a4, c4, hs4, hT4⟩ := sl_l T2.out (lo := k) (z := (k : Int)) (by omega) rfl
  rw [← hn3] at hs3 hT3
  rw [← hn4] at hs4 hT4
  obtain ⟨m, hm⟩ : ∃ m, m = ce (O.drop k) (N.drop k) := ⟨_, rfl⟩
  have hml := ce_le (O.drop k) (N.drop k)
  rw [← hm, List.length_drop, List.length_drop] at hml
  obtain ⟨n5, hn5⟩ : ∃ n5, n5 = n3 - m := ⟨_, rfl⟩
  obtain ⟨n6, hn6⟩ : ∃ n6, n6 = n4 - m := ⟨_, rfl⟩
  have hw1 : IntKind.i64.wrap ((n3 : Int) - (m : Int)) = (n5 : Int) := by rw [IntKind.wrap_i64]; omega
  have hw2 : IntKind.i64.wrap ((n4 : Int) - (m : Int)) = (n6 : Int) := by rw [IntKind.wrap_i64]; omega
  obtain ⟨a5, c5, hs5, hT5⟩ := sl_h hT3 (m := n5) (by omega)
  obtain ⟨a6, c6, hs6, hT6⟩ := sl_h hT4 (m := n6) (by omega)
  obtain ⟨A, hA⟩ : ∃ A, IntKind.i64.wrap (a + (k : Int)) = A := ⟨_, rfl⟩
  have hcut : cut ⟨a, O, N⟩ = ⟨A, (O.drop k).take n5, (N.drop k).take n6⟩ := by
    unfold cut
    dsimp only
    rw [← hk, hA, ← hm, List.length_drop, List.length_drop, l1, l2, ← hn3, ← hn4, ← hn5, ← hn6]
  rw [hcut]
  have C1 : Hid (∀ W, Below w.heap.size w W → Calls Try.prog 44 #[.slice p1 o c1, .slice p2 n2 c2] W fun e w' => e = .returned (.int .i64 (k : Int)) ∧ Below W.heap.size W w') := fun W hW => by
    have := begin_any p1 o c1 O p2 n2 c2 N W (T1.out.keep hW) (T2.out.keep hW)
    rwa [← hk] at this
  have C2 : Hid (∀ W, Below w.heap.size w W → Calls Try.prog 45 #[.slice a3 n3 c3, .slice a4 n4 c4] W fun e w' => e = .returned (.int .i64 (m : Int)) ∧ Below W.heap.size W w') := fun W hW => by
    have := fend_any a3 n3 c3 (O.drop k) a4 n4 c4 (N.drop k) W (hT3.keep hW) (hT4.keep hW)
    rwa [← hm] at this
  have C3 : Hid (∀ W, Below w.heap.size w W → Calls Try.prog 34 #[.int .i64 A, .slice a5 n5 c5, .slice a6 n6 c6] W fun e w' => NewE ⟨A, (O.drop k).take n5, (N.drop k).take n6⟩ W e w') := fun W hW =>
    edit_any A a5 n5 c5 _ a6 n6 c6 _ W (hT5.keep hW) (hT6.keep hW) (by omega) (by omega)
  generalize (O.drop k).take n5 = O' at *
  generalize (N.drop k).take n6 = N' at *
  have HA := Hid.mk' hA
  clear hT3 hT4 hT5 hT6 hcut hk hm hn3 hn4 hn5 hn6 hkl hml l1 l2 b1 b2 hA hq
  go_enter Try.func37, Try.ntmps37
  go_upto_region 1 with fail
  clear hW2
  have k1 : W2.cell? ⟨q, 1, none⟩ = some (.slice p1 o c1) := K1.out.cell rfl
  have k2 : W2.cell? ⟨q, 2, none⟩ = some (.slice p2 n2 c2) := K1.out.cell rfl
  go_wp2_with fail
  refine (C1.out W2 L0.out).mono ?_
  rintro e w3 ⟨rfl, hb3⟩
  have K1d : Hid (Blk w3.drew q 38 #[.int .i64 a, .slice p1 o c1, .slice p2 n2 c2]) := K1.out.keep hb3.drew
  have K2d : Hid (Blk w3.drew (q + 1) 38 #[.int .i64 0, .slice none 0 0, .slice none 0 0]) := K2.out.keep hb3.drew
  have LD : Hid (Below w.heap.size w w3.drew) := (bT L0.out hb3).drew
  clear hb3 k1 k2 K1 K2 L0 C1
  dsimp only
  go_upto_region 2 with fail
  refine wp_region_held (S := fun w' => Blk w' q 38 #[.int .i64 a, .slice p1 o c1, .slice p2 n2 c2]) (by kernel_rfl) ?_
  change wpAnyH _ _ _ _ _ _ _ _ (World.drew _)
  generalize w3.drew = V3 at *
  refine wpAnyH_take (i := 0) (v := .pointer (some ⟨q, 1, none⟩)) rfl (by kernel_rfl) (by kernel_rfl) (by kernel_rfl) (fun _ _ _ h => h) (Yields.yieldsIf (Or.inl ⟨by rfl, fun w => by go_simp⟩)) K1d.out ?_
  try simp only [Act.put, List.getElem_toArray, List.getElem_cons_zero, List.getElem_cons_succ, List.setIfInBounds_toArray, List.set_cons_zero, List.set_cons_succ]
  refine wpAnyH_take (i := 1) (v := .slice p1 o c1) rfl (by kernel_rfl) (by kernel_rfl) (by kernel_rfl) (fun _ _ _ h => h) (Or.inl ⟨by rfl, fun w9 h9 => by have h5 := h9.cell (j := 0) rfl; have h6 := h9.cell (j := 1) rfl; have h7 := h9.cell (j := 2) rfl; go_simp⟩) K1d.out ?_
  try simp only [Act.put, List.getElem_toArray, List.getElem_cons_zero, List.getElem_cons_succ, List.setIfInBounds_toArray, List.set_cons_zero, List.set_cons_succ]
  refine wpAnyH_take (i := 2) (v := .int .i64 (k : Int)) rfl (by kernel_rfl) (by kernel_rfl) (by kernel_rfl) (fun _ _ _ h => h) (Yields.yieldsIf (Or.inl ⟨by rfl, fun w => by go_simp⟩)) K1d.out ?_
  try simp only [Act.put, List.getElem_toArray, List.getElem_cons_zero, List.getElem_cons_succ, List.setIfInBounds_toArray, List.set_cons_zero, List.set_cons_succ]
  refine wpAnyH_take (i := 3) (v := .slice a3 n3 c3) rfl (by kernel_rfl) (by kernel_rfl) (by kernel_rfl) (fun _ _ _ h => h) (Yields.yieldsIf (Or.inl ⟨by rfl, fun w => by go_simp⟩)) K1d.out ?_
  try simp only [Act.put, List.getElem_toArray, List.getElem_cons_zero, List.getElem_cons_succ, List.setIfInBounds_toArray, List.set_cons_zero, List.set_cons_succ]
  refine wpAnyH_take (i := 4) (v := .pointer (some ⟨q, 2, none⟩)) rfl (by kernel_rfl) (by kernel_rfl) (by kernel_rfl) (fun _ _ _ h => h) (Yields.yieldsIf (Or.inl ⟨by rfl, fun w => by go_simp⟩)) K1d.out ?_
  try simp only [Act.put, List.getElem_toArray, List.getElem_cons_zero, List.getElem_cons_succ, List.setIfInBounds_toArray, List.set_cons_zero, List.set_cons_succ]
  refine wpAnyH_take (i := 5) (v := .slice p2 n2 c2) rfl (by kernel_rfl) (by kernel_rfl) (by kernel_rfl) (fun _ _ _ h => h) (Or.inl ⟨by rfl, fun w9 h9 => by have h5 := h9.cell (j := 0) rfl; have h6 := h9.cell (j := 1) rfl; have h7 := h9.cell (j := 2) rfl; go_simp⟩) K1d.out ?_
  try simp only [Act.put, List.getElem_toArray, List.getElem_cons_zero, List.getElem_cons_succ, List.setIfInBounds_toArray, List.set_cons_zero, List.set_cons_succ]
  refine wpAnyH_take (i := 6) (v := .int .i64 (k : Int)) rfl (by kernel_rfl) (by kernel_rfl) (by kernel_rfl) (fun _ _ _ h => h) (Yields.yieldsIf (Or.inl ⟨by rfl, fun w => by go_simp⟩)) K1d.out ?_
  try simp only [Act.put, List.getElem_toArray, List.getElem_cons_zero, List.getElem_cons_succ, List.setIfInBounds_toArray, List.set_cons_zero, List.set_cons_succ]
  refine wpAnyH_take (i := 7) (v := .slice a4 n4 c4) rfl (by kernel_rfl) (by kernel_rfl) (by kernel_rfl) (fun _ _ _ h => h) (Yields.yieldsIf (Or.inl ⟨by rfl, fun w => by go_simp⟩)) K1d.out ?_
  try simp only [Act.put, List.getElem_toArray, List.getElem_cons_zero, List.getElem_cons_succ, List.setIfInBounds_toArray, List.set_cons_zero, List.set_cons_succ]
  refine wpAnyH_take (i := 8) (v := .slice a3 n3 c3) rfl (by kernel_rfl) (by kernel_rfl) (by kernel_rfl) (fun _ _ _ h => h) (Yields.yieldsIf (Or.inl ⟨by rfl, fun w => by go_simp⟩)) K1d.out ?_
  try simp only [Act.put, List.getElem_toArray, List.getElem_cons_zero, List.getElem_cons_succ, List.setIfInBounds_toArray, List.set_cons_zero, List.set_cons_succ]
  refine wpAnyH_take (i := 9) (v := .slice a4 n4 c4) rfl (by kernel_rfl) (by kernel_rfl) (by kernel_rfl) (fun _ _ _ h => h) (Yields.yieldsIf (Or.inl ⟨by rfl, fun w => by go_simp⟩)) K1d.out ?_
  try simp only [Act.put, List.getElem_toArray, List.getElem_cons_zero, List.getElem_cons_succ, List.setIfInBounds_toArray, List.set_cons_zero, List.set_cons_succ]
  refine wpAnyH_done (by kernel_rfl) ?_ _
  go_wp2_with fail
  refine (C2.out V3 LD.out).mono ?_
  rintro e w4 ⟨rfl, hb4⟩
  have K1e : Hid (Blk w4.drew q 38 #[.int .i64 a, .slice p1 o c1, .slice p2 n2 c2]) := K1d.out.keep hb4.drew
  have K2e : Hid (Blk w4.drew (q + 1) 38 #[.int .i64 0, .slice none 0 0, .slice none 0 0]) := K2d.out.keep hb4.drew
  have LE : Hid (Below w.heap.size w w4.drew) := (bT LD.out hb4).drew
  clear hb4 K1d K2d LD C2
  dsimp only
  go_upto_region 4 with fail
  have hA := HA.out
  refine wp_region_held (S := fun w' => Blk w' q 38 #[.int .i64 a, .slice p1 o c1, .slice p2 n2 c2]) (by kernel_rfl) ?_
  change wpAnyH _ _ _ _ _ _ _ _ (World.drew _)
  generalize w4.drew = V4 at *
  refine wpAnyH_take (i := 0) (v := .pointer (some ⟨q, 0, none⟩)) rfl (by kernel_rfl) (by kernel_rfl) (by kernel_rfl) (fun _ _ _ h => h) (Yields.yieldsIf (Or.inl ⟨by rfl, fun w => by go_simp⟩)) K1e.out ?_
  try simp only [Act.put, List.getElem_toArray, List.getElem_cons_zero, List.getElem_cons_succ, List.setIfInBounds_toArray, List.set_cons_zero, List.set_cons_succ]
  refine wpAnyH_take (i := 1) (v := .int .i64 a) rfl (by kernel_rfl) (by kernel_rfl) (by kernel_rfl) (fun _ _ _ h => h) (Or.inl ⟨by rfl, fun w9 h9 => by have h5 := h9.cell (j := 0) rfl; have h6 := h9.cell (j := 1) rfl; have h7 := h9.cell (j := 2) rfl; go_simp⟩) K1e.out ?_
  try simp only [Act.put, List.getElem_toArray, List.getElem_cons_zero, List.getElem_cons_succ, List.setIfInBounds_toArray, List.set_cons_zero, List.set_cons_succ]
  refine wpAnyH_take (i := 2) (v := .int .i64 (k : Int)) rfl (by kernel_rfl) (by kernel_rfl) (by kernel_rfl) (fun _ _ _ h => h) (Yields.yieldsIf (Or.inl ⟨by rfl, fun w => by go_simp⟩)) K1e.out ?_
  try simp only [Act.put, List.getElem_toArray, List.getElem_cons_zero, List.getElem_cons_succ, List.setIfInBounds_toArray, List.set_cons_zero, List.set_cons_succ]
  refine wpAnyH_take (i := 3) (v := .int .i64 A) rfl (by kernel_rfl) (by kernel_rfl) (by kernel_rfl) (fun _ _ _ h => h) (Yields.yieldsIf (Or.inl ⟨by rfl, fun w => by go_simp⟩)) K1e.out ?_
  try simp only [Act.put, List.getElem_toArray, List.getElem_cons_zero, List.getElem_cons_succ, List.setIfInBounds_toArray, List.set_cons_zero, List.set_cons_succ]
  refine wpAnyH_take (i := 4) (v := .slice a3 n3 c3) rfl (by kernel_rfl) (by kernel_rfl) (by kernel_rfl) (fun _ _ _ h => h) (Yields.yieldsIf (Or.inl ⟨by rfl, fun w => by go_simp⟩)) K1e.out ?_
  try simp only [Act.put, List.getElem_toArray, List.getElem_cons_zero, List.getElem_cons_succ, List.setIfInBounds_toArray, List.set_cons_zero, List.set_cons_succ]
  refine wpAnyH_take (i := 5) (v := .slice a3 n3 c3) rfl (by kernel_rfl) (by kernel_rfl) (by kernel_rfl) (fun _ _ _ h => h) (Yields.yieldsIf (Or.inl ⟨by rfl, fun w => by go_simp⟩)) K1e.out ?_
  try simp only [Act.put, List.getElem_toArray, List.getElem_cons_zero, List.getElem_cons_succ, List.setIfInBounds_toArray, List.set_cons_zero, List.set_cons_succ]
  refine wpAnyH_take (i := 6) (v := .int .i64 ((n3 : Nat) : Int)) rfl (by kernel_rfl) (by kernel_rfl) (by kernel_rfl) (fun _ _ _ h => h) (Yields.yieldsIf (Or.inl ⟨by rfl, fun w => by go_simp⟩)) K1e.out ?_
  try simp only [Act.put, List.getElem_toArray, List.getElem_cons_zero, List.getElem_cons_succ, List.setIfInBounds_toArray, List.set_cons_zero, List.set_cons_succ]
  refine wpAnyH_take (i := 7) (v := .int .i64 (m : Int)) rfl (by kernel_rfl) (by kernel_rfl) (by kernel_rfl) (fun _ _ _ h => h) (Yields.yieldsIf (Or.inl ⟨by rfl, fun w => by go_simp⟩)) K1e.out ?_
  try simp only [Act.put, List.getElem_toArray, List.getElem_cons_zero, List.getElem_cons_succ, List.setIfInBounds_toArray, List.set_cons_zero, List.set_cons_succ]
  refine wpAnyH_take (i := 8) (v := .int .i64 (n5 : Int)) rfl (by kernel_rfl) (by kernel_rfl) (by kernel_rfl) (fun _ _ _ h => h) (Yields.yieldsIf (Or.inl ⟨by rfl, fun w => by go_simp⟩)) K1e.out ?_
  try simp only [Act.put, List.getElem_toArray, List.getElem_cons_zero, List.getElem_cons_succ, List.setIfInBounds_toArray, List.set_cons_zero, List.set_cons_succ]
  refine wpAnyH_take (i := 9) (v := .slice a5 n5 c5) rfl (by kernel_rfl) (by kernel_rfl) (by kernel_rfl) (fun _ _ _ h => h) (Yields.yieldsIf (Or.inl ⟨by rfl, fun w => by go_simp⟩)) K1e.out ?_
  try simp only [Act.put, List.getElem_toArray, List.getElem_cons_zero, List.getElem_cons_succ, List.setIfInBounds_toArray, List.set_cons_zero, List.set_cons_succ]
  refine wpAnyH_take (i := 10) (v := .slice a4 n4 c4) rfl (by kernel_rfl) (by kernel_rfl) (by kernel_rfl) (fun _ _ _ h => h) (Yields.yieldsIf (Or.inl ⟨by rfl, fun w => by go_simp⟩)) K1e.out ?_
  try simp only [Act.put, List.getElem_toArray, List.getElem_cons_zero, List.getElem_cons_succ, List.setIfInBounds_toArray, List.set_cons_zero, List.set_cons_succ]
  refine wpAnyH_take (i := 11) (v := .slice a4 n4 c4) rfl (by kernel_rfl) (by kernel_rfl) (by kernel_rfl) (fun _ _ _ h => h) (Yields.yieldsIf (Or.inl ⟨by rfl, fun w => by go_simp⟩)) K1e.out ?_
  try simp only [Act.put, List.getElem_toArray, List.getElem_cons_zero, List.getElem_cons_succ, List.setIfInBounds_toArray, List.set_cons_zero, List.set_cons_succ]
  refine wpAnyH_take (i := 12) (v := .int .i64 ((n4 : Nat) : Int)) rfl (by kernel_rfl) (by kernel_rfl) (by kernel_rfl) (fun _ _ _ h => h) (Yields.yieldsIf (Or.inl ⟨by rfl, fun w => by go_simp⟩)) K1e.out ?_
  try simp only [Act.put, List.getElem_toArray, List.getElem_cons_zero, List.getElem_cons_succ, List.setIfInBounds_toArray, List.set_cons_zero, List.set_cons_succ]
  refine wpAnyH_take (i := 13) (v := .int .i64 (m : Int)) rfl (by kernel_rfl) (by kernel_rfl) (by kernel_rfl) (fun _ _ _ h => h) (Yields.yieldsIf (Or.inl ⟨by rfl, fun w => by go_simp⟩)) K1e.out ?_
  try simp only [Act.put, List.getElem_toArray, List.getElem_cons_zero, List.getElem_cons_succ, List.setIfInBounds_toArray, List.set_cons_zero, List.set_cons_succ]
  refine wpAnyH_take (i := 14) (v := .int .i64 (n6 : Int)) rfl (by kernel_rfl) (by kernel_rfl) (by kernel_rfl) (fun _ _ _ h => h) (Yields.yieldsIf (Or.inl ⟨by rfl, fun w => by go_simp⟩)) K1e.out ?_
  try simp only [Act.put, List.getElem_toArray, List.getElem_cons_zero, List.getElem_cons_succ, List.setIfInBounds_toArray, List.set_cons_zero, List.set_cons_succ]
  refine wpAnyH_take (i := 15) (v := .slice a6 n6 c6) rfl (by kernel_rfl) (by kernel_rfl) (by kernel_rfl) (fun _ _ _ h => h) (Yields.yieldsIf (Or.inl ⟨by rfl, fun w => by go_simp⟩)) K1e.out ?_
  try simp only [Act.put, List.getElem_toArray, List.getElem_cons_zero, List.getElem_cons_succ, List.setIfInBounds_toArray, List.set_cons_zero, List.set_cons_succ]
  refine wpAnyH_all (rs := [16]) (by kernel_rfl) (by simp) (AllH.cons rfl (fun K hK => ?_) AllH.nil)
  go_simp
  refine (C3.out V4 LE.out).mono ?_
  rintro e w5 ⟨r5, rfl, hd5, hO5, hb5⟩
  have O5 := Hid.mk' hO5
  have D5 := Hid.mk' hd5
  have K1f := Hid.mk' (K1e.out.keep hb5)
  have K2f := Hid.mk' (K2e.out.keep hb5)
  have LF := Hid.mk' (bT LE.out hb5)
  have HZ5 : Hid (q + 1 < V4.heap.size) := K2e.out.lt
  obtain ⟨a7, p7, o7, c7, O7, p8, n8, c8, N8⟩ := r5
  clear hO5 hd5 hb5 K1e K2e C3
  dsimp only [Er.cs]
  refine hK _ _ ⟨K1f.out, ?_⟩
  clear hK K
  try simp only [Act.put, List.getElem_toArray, List.getElem_cons_zero, List.getElem_cons_succ, List.setIfInBounds_toArray, List.set_cons_zero, List.set_cons_succ]
  refine wpAnyH_all (rs := [17]) (by kernel_rfl) (by simp) (AllH.cons rfl (fun K hK => ?_) AllH.nil)
  have z0 : w5.cell? ⟨q + 1, 0, none⟩ = some (.int .i64 0) := K2f.out.cell rfl
  have z1 : w5.cell? ⟨q + 1, 1, none⟩ = some (.slice none 0 0) := K2f.out.cell rfl
  have z2 : w5.cell? ⟨q + 1, 2, none⟩ = some (.slice none 0 0) := K2f.out.cell rfl
  have f0 : w5.frozen? ⟨q + 1, 0, none⟩ = false := K2f.out.frozen _
  have f1 : w5.frozen? ⟨q + 1, 1, none⟩ = false := K2f.out.frozen _
  have f2 : w5.frozen? ⟨q + 1, 2, none⟩ = false := K2f.out.frozen _
  go_simp
  refine hK _ _ ⟨((K1f.out.off (by omega) _).off (by omega) _).off (by omega) _, ?_⟩
  clear hK K
  try simp only [Act.put, List.getElem_toArray, List.getElem_cons_zero, List.getElem_cons_succ, List.setIfInBounds_toArray, List.set_cons_zero, List.set_cons_succ]
  refine wpAnyH_done (by kernel_rfl) ?_ _
  have K4 := ((K2f.out.set (j := 0) (.int .i64 a7)).set (j := 1) (.slice p7 o7 c7)).set (j := 2) (.slice p8 n8 c8)
  have G4 : w5.grownBy (((w5.setCell ⟨q + 1, 0, none⟩ (.int .i64 a7)).setCell ⟨q + 1, 1, none⟩ (.slice p7 o7 c7)).setCell ⟨q + 1, 2, none⟩ (.slice p8 n8 c8)) (some (q + 1)) := ((grown_set _ _ _ _).trans (grown_set _ _ _ _)).trans (grown_set _ _ _ _)
  have e0 := K4.cell (j := 0) rfl
  have e1 := K4.cell (j := 1) rfl
  have e2 := K4.cell (j := 2) rfl
  have hoe2 : Oe (((w5.setCell ⟨q + 1, 0, none⟩ (.int .i64 a7)).setCell ⟨q + 1, 1, none⟩ (.slice p7 o7 c7)).setCell ⟨q + 1, 2, none⟩ (.slice p8 n8 c8)) w.heap.size ⟨a7, p7, o7, c7, O7, p8, n8, c8, N8⟩ := (O5.out.grown G4 HZ5.out).low LE.out.size
  have hb6 := LF.out.grown G4 LF.out.size (fun k hk => by injection hk with hk; rw [← hk, HQ.out]; omega)
  have HE0 := Hid.mk' e0
  have HE1 := Hid.mk' e1
  have HE2 := Hid.mk' e2
  have HOE := Hid.mk' hoe2
  have HB6 := Hid.mk' hb6
  clear e0 e1 e2 hoe2 hb6 K4 G4 z0 z1 z2 f0 f1 f2
  generalize ((w5.setCell ⟨q + 1, 0, none⟩ (.int .i64 a7)).setCell ⟨q + 1, 1, none⟩ (.slice p7 o7 c7)).setCell ⟨q + 1, 2, none⟩ (.slice p8 n8 c8) = w6 at *
  go_wp2
  exact bodyPost_ret (v := .agg #[.int .i64 a7, .slice p7 o7 c7, .slice p8 n8 c8]) (by simp [results, Try.results37, go_sem, HE0.out, HE1.out, HE2.out]) rfl ⟨⟨a7, p7, o7, c7, O7, p8, n8, c8, N8⟩, rfl, D5.out, HOE.out, HB6.out⟩
end Go.Proofs.Ythklmdnamkjgmaa
