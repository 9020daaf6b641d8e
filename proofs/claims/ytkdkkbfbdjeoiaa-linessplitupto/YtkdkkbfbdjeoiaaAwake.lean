/- The contract of quoinlaw05.alive: true. -/
import Derived.Test.YtkdkkbfbdjeoiaaSplt
import Derived.Lib.SlBytesConst
namespace Go.Proofs.Ytkdkkbfbdjeoiaa
open Go.RowKit

/-- the text of the document's examples -/
def T7 : List UInt8 := [97, 98, 10, 10, 32, 32, 99]
theorem t7_tx (w : World) (m : Nat × Nat) : Tx (w.alloc (.cells #[.int .u8 97, .int .u8 98, .int .u8 10, .int .u8 10, .int .u8 32, .int .u8 32, .int .u8 99] 5 m)) (some ⟨w.heap.size, 0, none⟩) 7 7 T7 := by
  refine ⟨rfl, Nat.le_refl _, by omega, (fun h => by cases h), fun a ha j hj => ?_⟩
  obtain rfl : (⟨w.heap.size, 0, none⟩ : Addr) = a := by simpa using ha
  rw [add_none, Nat.zero_add, World.cell?_alloc_mark]
  have : j = 0 ∨ j = 1 ∨ j = 2 ∨ j = 3 ∨ j = 4 ∨ j = 5 ∨ j = 6 := by omega
  rcases this with rfl | rfl | rfl | rfl | rfl | rfl | rfl <;> rfl
theorem t7a : pr (aStart T7 2) = .returned (.tuple #[.int .i64 4, .int .i64 0]) := by rw [show aStart T7 2 = (4, 0) from by decide +kernel]; rfl
theorem t7b : pr (aAt T7 0 9) = .returned (.tuple #[.int .i64 1, .int .i64 0]) := by rw [show aAt T7 0 9 = (1, 0) from by decide +kernel]; rfl
theorem t7c : pr (aFirst T7 2) = .returned (.tuple #[.int .i64 6, .int .i64 0]) := by rw [show aFirst T7 2 = (6, 0) from by decide +kernel]; rfl
theorem t7d : pr (aStart T7 3) = .returned (.tuple #[.int .i64 0, .int .i64 2]) := by rw [show aStart T7 3 = (0, 2) from by decide +kernel]; rfl
theorem t7e : (nl T7 : Int) + 1 = 3 := by decide +kernel
theorem t7f : rs T7 (cl T7 2) = 1 := by decide +kernel
theorem t7g : (lns T7 (nl T7 + 1)).length = 3 := by decide +kernel

set_option maxHeartbeats 1000000 in
theorem alive_any (w : World) : Calls Try.prog 8 #[] w fun e w' => e = .returned (.bool true) ∧ Below w.heap.size w w' := by
  have HT := Hid.mk' (t7_tx w (7, 8))
  have kc := fun (w : World) (C : Array Value) (n c : Nat) => Lib.run_convert_bytes_const (P := Try.prog) w 22 5 C n c Try.underlying22 Try.underlying5
  have A1 := Hid.mk' t7a
  have A2 := Hid.mk' t7b
  have A3 := Hid.mk' t7c
  have A4 := Hid.mk' t7d
  have A5 := Hid.mk' t7e
  have A6 := Hid.mk' t7f
  have A7 := Hid.mk' t7g
  go_enter Try.func8, Try.ntmps8
  go_wp2_with fail
  refine (start_any _ _ _ 2 T7 _ (by omega) HT).mono ?_
  rintro e w9 ⟨rfl, hw⟩
  have hq := hw.symm
  subst hq
  rw [A1.out]
  go_wp2_with fail
  refine (at_any _ _ _ 0 9 T7 _ (by omega) (by omega) HT).mono ?_
  rintro e w9 ⟨rfl, hw⟩
  have hq := hw.symm
  subst hq
  rw [A2.out]
  go_wp2_with fail
  refine (first_any _ _ _ 2 T7 _ (by omega) HT).mono ?_
  rintro e w9 ⟨rfl, hw⟩
  have hq := hw.symm
  subst hq
  rw [A3.out]
  go_wp2_with fail
  refine (start_any _ _ _ 3 T7 _ (by omega) HT).mono ?_
  rintro e w9 ⟨rfl, hw⟩
  have hq := hw.symm
  subst hq
  rw [A4.out]
  go_wp2_with fail
  refine (count_any _ _ _ T7 _ HT).mono ?_
  rintro e w8 ⟨rfl, hb8⟩
  rw [A5.out]
  have H8 := Hid.mk' (HT.out.keep hb8)
  go_wp2_with fail
  refine (rest_any _ _ _ 2 T7 _ (by omega) (by omega) H8).mono ?_
  rintro e w9 ⟨rfl, hw⟩
  have hq := hw.symm
  subst hq
  rw [A6.out]
  go_wp2_with fail
  refine (split_any _ _ _ T7 _ (by omega) H8).mono ?_
  rintro e w7 ⟨v, D, rfl, hR, hD⟩
  obtain ⟨av, cv, hv⟩ := own_shape (hR.own 0 _ rfl)
  have hv3 : D.length = 3 := by rw [← A7.out, ← hD, List.length_map]
  have hv4 : v = .slice av 3 cv := by rw [← hv3]; exact hv
  subst hv4
  have hb7 := Hid.mk' hR.bel
  clear hR hD hv
  go_wp2
  go_ret
  exact ⟨rfl, bT (bT (bAlloc (Below.refl _ _) _) hb8) hb7.out⟩
end Go.Proofs.Ytkdkkbfbdjeoiaa
