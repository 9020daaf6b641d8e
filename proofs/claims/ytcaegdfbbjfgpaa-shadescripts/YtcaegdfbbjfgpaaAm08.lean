/- readNode, one way. -/
import Derived.Test.YtcaegdfbbjfgpaaAm06
namespace Go.Proofs.Ytcaegdfbbjfgpaa
open Go.RowKit

set_option maxRecDepth 100000 in
set_option maxHeartbeats 4000000 in
theorem readNode_ne2 (b off n c : Nat) (h : Nat) (A : Addr) (ps po pl pn : Int) (xr : Bool) (l r : Tr) (L1 L2 : List Rw) (xb xn : Int) (w : World) (hn : ((n : Int) == 0) = false) (hnp : (0 : Int) < (n : Int)) (hn1 : (1 : Int) ≤ (n : Int)) (_hnc : (n : Int) ≤ (c : Int)) (_h1c : (1 : Int) ≤ (c : Int)) (hw : IntKind.i64.wrap (h : Int) = (h : Int)) (hw' : wrap64 (h : Int) = (h : Int)) (hf : fitB pl pn = true)
    (hA : (if c = 1 then some (⟨b, off, none⟩ : Addr) else some ⟨b, off + 10, none⟩) = some A)
    (r0 : w.cell? ⟨b, off, none⟩ = some (.int .i64 ps)) (r1 : w.cell? ⟨b, off + 1, none⟩ = some (.int .i64 po)) (r2 : w.cell? ⟨b, off + 2, none⟩ = some (.int .i64 pl)) (r3 : w.cell? ⟨b, off + 3, none⟩ = some (.int .i64 pn)) (r4 : w.cell? ⟨b, off + 4, none⟩ = some (.bool xr)) (r5 : w.cell? ⟨b, off + 5, none⟩ = some (.bool l.has)) (r6 : w.cell? ⟨b, off + 6, none⟩ = some (.bool r.has)) (r7 : w.cell? ⟨b, off + 7, none⟩ = some (.int .i64 (((Tr.mk (some (xr, l, ⟨ps, po, pl, pn⟩, r)))).size : Nat))) (r8 : w.cell? ⟨b, off + 8, none⟩ = some (.int .i64 xb)) (r9 : w.cell? ⟨b, off + 9, none⟩ = some (.int .i64 xn))
    (hlt : b < w.heap.size) (hfi : Hid ((Tr.mk (some (xr, l, ⟨ps, po, pl, pn⟩, r)))).fine) (hne : (((Tr.mk (some (xr, l, ⟨ps, po, pl, pn⟩, r)))).byt = xb) = False)
    (K1 : Hid (∀ w', Below w.heap.size w w' → Calls Try.prog 76 #[.bool l.has, .slice (some A) (n - 1) (c - 1), .int .i64 (h : Int)] w' fun e w'' => RdGave w' (some (l, L1)) e w''))
    (K2 : Hid (∀ w' ao n c, Rdr w' (.slice ao n c) L1 → Calls Try.prog 76 #[.bool r.has, .slice ao n c, .int .i64 (h : Int)] w' fun e w'' => RdGave w' (some (r, L2)) e w''))
    :
    Calls Try.prog 56 #[.slice (some ⟨b, off, none⟩) n c, .int .i64 ((h + 1 : Nat) : Int)] w fun e w' => (∃ a ao n c, e = .returned (.tuple #[.pointer a, .slice ao n c, .bool false]) ∧ At w' ((Tr.mk (some (xr, l, ⟨ps, po, pl, pn⟩, r)))) a ∧ Rdr w' (.slice ao n c) L2) ∧ Below w.heap.size w w' := by
  go_enter Try.func56, Try.ntmps56
  go_wp2_with (go_at_call 45; refine (fit_any ps po pl pn _).mono ?_; rw [hf]; rintro e w' ⟨rfl, rfl⟩)
  go_region_held3 (fun w' => w'.cell? ⟨w.heap.size + 1, 5, none⟩ = some (.bool l.has)) (first | assumption | simp [*, go_sem])
    (first | (go_at_call 76; refine (K1.out _ ((bAlloc (bAlloc (Below.refl w.heap.size w) _) _).drew)).mono ?_; rintro e w9 ⟨⟨la, ao9, n9, c9, rfl, hat9, hrd9⟩, hb9⟩; have L9 := bD hb9; obtain ⟨cc9, ff9⟩ := bcell L9; have k9 : w9.cell? ⟨w.heap.size + 1, 5, none⟩ = some (.bool l.has) := by rw [cc9 _ _ (by simp)]; simp))
  clear k9 r0 r1 r2 r3 r4 r5 r6 r7 r8 r9 hA K1
  go_wp2_with (first | (go_at_call 76; refine (K2.out _ _ _ _ hrd9).mono ?_; rintro e w8 ⟨⟨ra, ao8, n8, c8, rfl, hat8, hrd8⟩, hb8⟩; have L8 := L9.trans (hb8.mono L9.size); obtain ⟨cc8, ff8⟩ := bcell L8)
                     | (go_at_call 77; refine (make_any xr l ps po pl pn r la ra _ hfi (hat9.keep hb8) hat8).mono ?_; rintro e w7 ⟨b7, rfl, hat7, hb7⟩; have L7 := L8.trans (hb7.mono L8.size); have q7 := bcell L7))
  obtain ⟨cc7, -⟩ := q7
  have q0 : w7.cell? ⟨w.heap.size + 1, 0, none⟩ = some (.int .i64 ps) := by rw [cc7 _ _ (by simp)]; simp
  have q1 : w7.cell? ⟨w.heap.size + 1, 1, none⟩ = some (.int .i64 po) := by rw [cc7 _ _ (by simp)]; simp
  have q2 : w7.cell? ⟨w.heap.size + 1, 2, none⟩ = some (.int .i64 pl) := by rw [cc7 _ _ (by simp)]; simp
  have q3 : w7.cell? ⟨w.heap.size + 1, 3, none⟩ = some (.int .i64 pn) := by rw [cc7 _ _ (by simp)]; simp
  have q4 : w7.cell? ⟨w.heap.size + 1, 4, none⟩ = some (.bool xr) := by rw [cc7 _ _ (by simp)]; simp
  have q5 : w7.cell? ⟨w.heap.size + 1, 5, none⟩ = some (.bool l.has) := by rw [cc7 _ _ (by simp)]; simp
  have q6 : w7.cell? ⟨w.heap.size + 1, 6, none⟩ = some (.bool r.has) := by rw [cc7 _ _ (by simp)]; simp
  have q7 : w7.cell? ⟨w.heap.size + 1, 7, none⟩ = some (.int .i64 (((Tr.mk (some (xr, l, ⟨ps, po, pl, pn⟩, r)))).size : Nat)) := by rw [cc7 _ _ (by simp)]; simp
  have q8 : w7.cell? ⟨w.heap.size + 1, 8, none⟩ = some (.int .i64 xb) := by rw [cc7 _ _ (by simp)]; simp
  have q9 : w7.cell? ⟨w.heap.size + 1, 9, none⟩ = some (.int .i64 xn) := by rw [cc7 _ _ (by simp)]; simp
  obtain ⟨b', la', ra', eb, hn7, -, -⟩ := id hat7
  have eb' : b' = b7 := by simpa using eb.symm
  subst eb'
  obtain ⟨d0, d1, d2, d3, d4, d5, d6, d7, d8, d9, d10, d11⟩ := s12 hn7
  have HA7 : Hid (At w7 ((Tr.mk (some (xr, l, ⟨ps, po, pl, pn⟩, r)))) (some ⟨b', 0, none⟩)) := hat7
  have HRD : Hid (Rdr w7 (.slice ao8 n8 c8) L2 ∧ Below w.heap.size w w7) := ⟨hrd8.keep hb7, bA2 L7⟩
  clear eb hn7 hat7 hat8 hat9 hrd8 hrd9 hb7 hb8 hb9 L7 L8 L9 cc7 cc8 cc9 ff8 ff9 K2
  go_quiet (first | (go_at_call 78; exact Calls.quiet_of (balanced_drewN xr l ps po pl pn r _ _ _ HA7.out)))
  go_wp2
  go_ret3
  exact ⟨⟨_, _, _, _, rfl, HA7.out.keep (below_drewN' _ _), HRD.out.1.keep (below_drewN' _ _)⟩, HRD.out.2.trans ((below_drewN' _ _).mono HRD.out.2.size)⟩
end Go.Proofs.Ytcaegdfbbjfgpaa

