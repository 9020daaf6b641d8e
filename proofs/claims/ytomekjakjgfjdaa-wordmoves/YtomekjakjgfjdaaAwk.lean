/- The contracts of quoinlaw08's alive and keys. -/
import Derived.Test.YtomekjakjgfjdaaMove
import Derived.Test.YtomekjakjgfjdaaTg
import Derived.Lib.SlBytesConst
namespace Go.Proofs.Ytomekjakjgfjdaa
open Go.RowKit

/-- the text of the document's examples -/
def T8 : List UInt8 := [105, 102, 32, 40, 120, 41, 32, 103, 111, 10, 10, 101, 110, 100]
theorem t8_tx (w : World) (m : Nat × Nat) : Tx (w.alloc (.cells #[.int .u8 105, .int .u8 102, .int .u8 32, .int .u8 40, .int .u8 120, .int .u8 41, .int .u8 32, .int .u8 103, .int .u8 111, .int .u8 10, .int .u8 10, .int .u8 101, .int .u8 110, .int .u8 100] 5 m)) (some ⟨w.heap.size, 0, none⟩) 14 14 T8 := by
  refine ⟨rfl, Nat.le_refl _, by omega, (fun h => by cases h), fun a ha j hj => ?_⟩
  obtain rfl : (⟨w.heap.size, 0, none⟩ : Addr) = a := by simpa using ha
  rw [add_none, Nat.zero_add, World.cell?_alloc_mark]
  have : j = 0 ∨ j = 1 ∨ j = 2 ∨ j = 3 ∨ j = 4 ∨ j = 5 ∨ j = 6 ∨ j = 7 ∨ j = 8 ∨ j = 9 ∨ j = 10 ∨ j = 11 ∨ j = 12 ∨ j = 13 := by omega
  rcases this with rfl | rfl | rfl | rfl | rfl | rfl | rfl | rfl | rfl | rfl | rfl | rfl | rfl | rfl <;> rfl
theorem k_w : kn { data := #[119] } = 1 := by decide +kernel
theorem k_e : kn { data := #[101] } = 5 := by decide +kernel
theorem k_ge : kn { data := #[103, 101] } = 7 := by decide +kernel
theorem t8a : mv T8 7 2 { data := #[119] } = ⟨7, 11, 1, 0⟩ := by
  have e := mv_goes (l := T8) (p := 7) (q := 11) (cnt := 2) (s := { data := #[119] }) (by decide) (by decide) (by decide) (by rw [k_w]; decide) (by rw [k_w]; decide +kernel) (by decide)
  rw [k_w] at e
  exact e
theorem t8b : mv T8 10 0 { data := #[103, 101] } = ⟨10, 8, 2, 0⟩ := by
  have e := mv_goes (l := T8) (p := 10) (q := 8) (cnt := 0) (s := { data := #[103, 101] }) (by decide) (by decide) (by decide) (by rw [k_ge]; decide) (by rw [k_ge]; decide +kernel) (by decide)
  rw [k_ge] at e
  exact e
theorem t8c : mv T8 13 1 { data := #[101] } = ⟨0, 0, 0, 70⟩ :=
  mv_stay (l := T8) (p := 13) (cnt := 1) (s := { data := #[101] }) (by decide) (by decide) (by decide) (by rw [k_e]; decide) (by rw [k_e]; decide +kernel)

set_option maxRecDepth 4000 in
set_option maxHeartbeats 2000000 in
theorem alive_any (w : World) : Calls Try.prog 8 #[] w fun e w' => e = .returned (.bool true) ∧ Below w.heap.size w w' := by
  have HT := Hid.mk' (t8_tx w)
  have kc := fun (w : World) (C : Array Value) (n c : Nat) => Lib.run_convert_bytes_const (P := Try.prog) w 22 5 C n c Try.underlying22 Try.underlying5
  have A1 := Hid.mk' t8a
  have A2 := Hid.mk' t8b
  have A3 := Hid.mk' t8c
  go_enter Try.func8, Try.ntmps8
  go_wp2_with fail
  refine (move_any _ _ _ 7 2 T8 _ _ (HT.out _)).mono ?_
  rintro e w1 ⟨rfl, hb1⟩
  rw [A1.out, mvE_def]
  have T1 := Hid.mk' ((HT.out _).keep hb1)
  have B1 := Hid.mk' (bT (bAlloc (Below.refl _ _) _) hb1)
  clear hb1 HT
  dsimp only
  go_wp2_with fail
  refine (move_any _ _ _ 10 0 T8 _ _ (Hid.mk' (T1.out.keep (bAlloc (Below.refl _ _) _)))).mono ?_
  rintro e w2 ⟨rfl, hb2⟩
  rw [A2.out, mvE_def]
  have c1 : w2.cell? ⟨w1.heap.size, 1, none⟩ = some (.int .i64 11) := by rw [(bcell hb2).1 _ _ (by simp)]; simp [go_sem]
  have c2 : w2.cell? ⟨w1.heap.size, 2, none⟩ = some (.int .i64 1) := by rw [(bcell hb2).1 _ _ (by simp)]; simp [go_sem]
  have hz2 : w1.heap.size < w2.heap.size := by have := hb2.size; simp at this; omega
  have T2 := Hid.mk' ((T1.out.keep (bAlloc (Below.refl _ _) _)).keep hb2)
  have B2 := Hid.mk' (bT (bAlloc B1.out _) hb2)
  clear hb2 T1 B1
  dsimp only
  go_wp2_with fail
  refine (move_any _ _ _ 13 1 T8 _ _ (Hid.mk' (T2.out.keep (bAlloc (Below.refl _ _) _)))).mono ?_
  rintro e w3 ⟨rfl, hb3⟩
  rw [A3.out, mvE_def]
  have c3 : w3.cell? ⟨w1.heap.size, 1, none⟩ = some (.int .i64 11) := by rw [(bcell hb3).1 _ _ (by simp; omega)]; simp [go_sem, c1, hz2]
  have c4 : w3.cell? ⟨w1.heap.size, 2, none⟩ = some (.int .i64 1) := by rw [(bcell hb3).1 _ _ (by simp; omega)]; simp [go_sem, c2, hz2]
  have d1 : w3.cell? ⟨w2.heap.size, 1, none⟩ = some (.int .i64 8) := by rw [(bcell hb3).1 _ _ (by simp)]; simp [go_sem]
  have d2 : w3.cell? ⟨w2.heap.size, 2, none⟩ = some (.int .i64 2) := by rw [(bcell hb3).1 _ _ (by simp)]; simp [go_sem]
  have hz3 : w2.heap.size < w3.heap.size := by have := hb3.size; simp at this; omega
  have hz4 : w1.heap.size < w3.heap.size := by omega
  have B3 := Hid.mk' (bT (bAlloc B2.out _) hb3)
  clear hb3 T2 B2 c1 c2
  dsimp only
  go_wp2
  go_ret
  exact ⟨rfl, bAlloc B3.out _⟩

/-- one of the eight keys -/
def kS (s : ByteArray) : ByteArray := if kn s = 0 then { data := #[119] } else s
theorem kS_ne (s : ByteArray) : kn (kS s) ≠ 0 := by
  unfold kS
  split
  · rw [k_w]; decide
  · assumption
set_option maxHeartbeats 1000000 in
theorem keys_0 (s : ByteArray) (w : World) (h : kn s = 0) : Calls Try.prog 11 #[.string s] w fun e w' => e = .returned (.string (kS s)) ∧ w' = w := by
  have HS : Hid (kS s = { data := #[119] }) := by unfold Hid kS; rw [h]; rfl
  obtain ⟨r1, r2, r3, r4, r5, r6, r7, r8⟩ := kn_rules s 0 h
  clear h
  go_enter Try.func11, Try.ntmps11
  go_wp2
  go_ret
  exact ⟨by rw [HS.out]; rfl, rfl⟩
set_option maxHeartbeats 1000000 in
theorem keys_1 (s : ByteArray) (w : World) (h : kn s = 1) : Calls Try.prog 11 #[.string s] w fun e w' => e = .returned (.string (kS s)) ∧ w' = w := by
  have HS : Hid (kS s = s) := by unfold Hid kS; rw [h]; rfl
  obtain ⟨r1, r2, r3, r4, r5, r6, r7, r8⟩ := kn_rules s 1 h
  clear h
  go_enter Try.func11, Try.ntmps11
  go_wp2
  go_ret
  exact ⟨by rw [HS.out]; rfl, rfl⟩
set_option maxHeartbeats 1000000 in
theorem keys_2 (s : ByteArray) (w : World) (h : kn s = 2) : Calls Try.prog 11 #[.string s] w fun e w' => e = .returned (.string (kS s)) ∧ w' = w := by
  have HS : Hid (kS s = s) := by unfold Hid kS; rw [h]; rfl
  obtain ⟨r1, r2, r3, r4, r5, r6, r7, r8⟩ := kn_rules s 2 h
  clear h
  go_enter Try.func11, Try.ntmps11
  go_wp2
  go_ret
  exact ⟨by rw [HS.out]; rfl, rfl⟩
set_option maxHeartbeats 1000000 in
theorem keys_3 (s : ByteArray) (w : World) (h : kn s = 3) : Calls Try.prog 11 #[.string s] w fun e w' => e = .returned (.string (kS s)) ∧ w' = w := by
  have HS : Hid (kS s = s) := by unfold Hid kS; rw [h]; rfl
  obtain ⟨r1, r2, r3, r4, r5, r6, r7, r8⟩ := kn_rules s 3 h
  clear h
  go_enter Try.func11, Try.ntmps11
  go_wp2
  go_ret
  exact ⟨by rw [HS.out]; rfl, rfl⟩
set_option maxHeartbeats 1000000 in
theorem keys_4 (s : ByteArray) (w : World) (h : kn s = 4) : Calls Try.prog 11 #[.string s] w fun e w' => e = .returned (.string (kS s)) ∧ w' = w := by
  have HS : Hid (kS s = s) := by unfold Hid kS; rw [h]; rfl
  obtain ⟨r1, r2, r3, r4, r5, r6, r7, r8⟩ := kn_rules s 4 h
  clear h
  go_enter Try.func11, Try.ntmps11
  go_wp2
  go_ret
  exact ⟨by rw [HS.out]; rfl, rfl⟩
set_option maxHeartbeats 1000000 in
theorem keys_5 (s : ByteArray) (w : World) (h : kn s = 5) : Calls Try.prog 11 #[.string s] w fun e w' => e = .returned (.string (kS s)) ∧ w' = w := by
  have HS : Hid (kS s = s) := by unfold Hid kS; rw [h]; rfl
  obtain ⟨r1, r2, r3, r4, r5, r6, r7, r8⟩ := kn_rules s 5 h
  clear h
  go_enter Try.func11, Try.ntmps11
  go_wp2
  go_ret
  exact ⟨by rw [HS.out]; rfl, rfl⟩
set_option maxHeartbeats 1000000 in
theorem keys_6 (s : ByteArray) (w : World) (h : kn s = 6) : Calls Try.prog 11 #[.string s] w fun e w' => e = .returned (.string (kS s)) ∧ w' = w := by
  have HS : Hid (kS s = s) := by unfold Hid kS; rw [h]; rfl
  obtain ⟨r1, r2, r3, r4, r5, r6, r7, r8⟩ := kn_rules s 6 h
  clear h
  go_enter Try.func11, Try.ntmps11
  go_wp2
  go_ret
  exact ⟨by rw [HS.out]; rfl, rfl⟩
set_option maxHeartbeats 1000000 in
theorem keys_7 (s : ByteArray) (w : World) (h : kn s = 7) : Calls Try.prog 11 #[.string s] w fun e w' => e = .returned (.string (kS s)) ∧ w' = w := by
  have HS : Hid (kS s = s) := by unfold Hid kS; rw [h]; rfl
  obtain ⟨r1, r2, r3, r4, r5, r6, r7, r8⟩ := kn_rules s 7 h
  clear h
  go_enter Try.func11, Try.ntmps11
  go_wp2
  go_ret
  exact ⟨by rw [HS.out]; rfl, rfl⟩
set_option maxHeartbeats 1000000 in
theorem keys_8 (s : ByteArray) (w : World) (h : kn s = 8) : Calls Try.prog 11 #[.string s] w fun e w' => e = .returned (.string (kS s)) ∧ w' = w := by
  have HS : Hid (kS s = s) := by unfold Hid kS; rw [h]; rfl
  obtain ⟨r1, r2, r3, r4, r5, r6, r7, r8⟩ := kn_rules s 8 h
  clear h
  go_enter Try.func11, Try.ntmps11
  go_wp2
  go_ret
  exact ⟨by rw [HS.out]; rfl, rfl⟩
theorem keys_any (s : ByteArray) (w : World) : Calls Try.prog 11 #[.string s] w fun e w' => e = .returned (.string (kS s)) ∧ w' = w := by
  refine kn_cases (P := fun k => kn s = k → Calls Try.prog 11 #[.string s] w fun e w' => e = .returned (.string (kS s)) ∧ w' = w) (kn s) (kn_le s) ?_ ?_ ?_ ?_ ?_ ?_ ?_ ?_ ?_ rfl
  · exact fun h => keys_0 s w h
  · exact fun h => keys_1 s w h
  · exact fun h => keys_2 s w h
  · exact fun h => keys_3 s w h
  · exact fun h => keys_4 s w h
  · exact fun h => keys_5 s w h
  · exact fun h => keys_6 s w h
  · exact fun h => keys_7 s w h
  · exact fun h => keys_8 s w h
end Go.Proofs.Ytomekjakjgfjdaa
