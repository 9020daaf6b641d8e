/- readNode, one way. -/
import Derived.Test.YtpifjghhlcjedaaPm33
namespace Go.Proofs.Ytpifjghhlcjedaa
open Go.RowKit

set_option maxRecDepth 100000 in
set_option maxHeartbeats 4000000 in
theorem readNode_right (b off n c : Nat) (h : Nat) (A : Addr) (ps po pl pn : Int) (xr : Bool) (xl xg : Bool) (xc xb xn : Int) (l : Tr) (L1 : List Rw) (w : World) (hn : ((n : Int) == 0) = false) (hnp : (0 : Int) < (n : Int)) (hn1 : (1 : Int) ≤ (n : Int)) (_hnc : (n : Int) ≤ (c : Int)) (_h1c : (1 : Int) ≤ (c : Int)) (hw : IntKind.i64.wrap (h : Int) = (h : Int)) (hw' : wrap64 (h : Int) = (h : Int)) (hf : fitB pl pn = true)
    (hA : (if c = 1 then some (⟨b, off, none⟩ : Addr) else some ⟨b, off + 10, none⟩) = some A)
    (r0 : w.cell? ⟨b, off, none⟩ = some (.int .i64 ps)) (r1 : w.cell? ⟨b, off + 1, none⟩ = some (.int .i64 po)) (r2 : w.cell? ⟨b, off + 2, none⟩ = some (.int .i64 pl)) (r3 : w.cell? ⟨b, off + 3, none⟩ = some (.int .i64 pn)) (r4 : w.cell? ⟨b, off + 4, none⟩ = some (.bool xr)) (r5 : w.cell? ⟨b, off + 5, none⟩ = some (.bool xl)) (r6 : w.cell? ⟨b, off + 6, none⟩ = some (.bool xg)) (r7 : w.cell? ⟨b, off + 7, none⟩ = some (.int .i64 xc)) (r8 : w.cell? ⟨b, off + 8, none⟩ = some (.int .i64 xb)) (r9 : w.cell? ⟨b, off + 9, none⟩ = some (.int .i64 xn))
    (hlt : b < w.heap.size) 
    (K1 : Hid (∀ w', Below w.heap.size w w' → Calls Try.prog 101 #[.bool xl, .slice (some A) (n - 1) (c - 1), .int .i64 (h : Int)] w' fun e w'' => RdGave w' (some (l, L1)) e w''))
    (K2 : Hid (∀ w' ao n c, Rdr w' (.slice ao n c) L1 → Calls Try.prog 101 #[.bool xg, .slice ao n c, .int .i64 (h : Int)] w' fun e w'' => RdGave w' none e w''))
    :
    Calls Try.prog 74 #[.slice (some ⟨b, off, none⟩) n c, .int .i64 ((h + 1 : Nat) : Int)] w fun e w' => RdGave w none e w' := by
  go_enter Try.func74, Try.ntmps74
  go_wp2_with (go_at_call 53; refine (fit_any ps po pl pn _).mono ?_; rw [hf]; rintro e w' ⟨rfl, rfl⟩)
  go_region_held3 (fun w' => w'.cell? ⟨w.heap.size + 1, 5, none⟩ = some (.bool xl)) (first | assumption | simp [*, go_sem])
    (first | (go_at_call 101; refine (K1.out _ ((bAlloc (bAlloc (Below.refl w.heap.size w) _) _).drew)).mono ?_; rintro e w9 ⟨⟨la, ao9, n9, c9, rfl, hat9, hrd9⟩, hb9⟩; have L9 := bD hb9; obtain ⟨cc9, ff9⟩ := bcell L9; have k9 : w9.cell? ⟨w.heap.size + 1, 5, none⟩ = some (.bool xl) := by rw [cc9 _ _ (by simp)]; simp))
  clear k9 r0 r1 r2 r3 r4 r5 r6 r7 r8 r9 hA K1
  go_wp2_with (go_at_call 101; refine (K2.out _ _ _ _ hrd9).mono ?_; rintro e w8 ⟨⟨v1, v2, rfl⟩, hb8⟩; have L8 := L9.trans (hb8.mono L9.size); obtain ⟨cc8, ff8⟩ := bcell L8)
  go_ret3
  exact ⟨⟨_, _, rfl⟩, bA2 L8⟩
end Go.Proofs.Ytpifjghhlcjedaa

