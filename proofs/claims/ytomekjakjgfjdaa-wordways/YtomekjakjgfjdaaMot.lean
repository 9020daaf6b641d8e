/- The contracts of word's motionOf and leads, by the key's number. -/
import Derived.Test.YtomekjakjgfjdaaMv
import Derived.Test.YtomekjakjgfjdaaLa
import Derived.Test.YtomekjakjgfjdaaLb
import Derived.Test.YtomekjakjgfjdaaLc
import Derived.Test.YtomekjakjgfjdaaLd
import Derived.Laws.EntriesVeiled
namespace Go.Proofs.Ytomekjakjgfjdaa
open Go.RowKit

set_option maxHeartbeats 1000000 in
theorem motion_0 (s : ByteArray) (w : World) (h : kn s = 0) : Calls Try.prog 19 #[.string s] w fun e w' => e = .returned (.tuple #[mot 0, .bool false]) ∧ Below w.heap.size w w' := by
  obtain ⟨r1, r2, r3, r4, r5, r6, r7, r8⟩ := kn_rules s 0 h
  clear h
  go_enter Try.func19, Try.ntmps19
  go_wp2
  exact bodyPost_ret (v := .tuple #[mot 0, .bool false]) (by simp [results, Try.results19, go_sem, mot, mW, mF, mH, mK, mB]) rfl ⟨rfl, by repeat (first | exact bAlloc (Below.refl _ _) _ | refine Below.setCell ?_ (Nat.le_refl _) _)⟩
set_option maxHeartbeats 1000000 in
theorem motion_1 (s : ByteArray) (w : World) (h : kn s = 1) : Calls Try.prog 19 #[.string s] w fun e w' => e = .returned (.tuple #[mot 1, .bool true]) ∧ Below w.heap.size w w' := by
  obtain ⟨r1, r2, r3, r4, r5, r6, r7, r8⟩ := kn_rules s 1 h
  clear h
  go_enter Try.func19, Try.ntmps19
  go_wp2
  exact bodyPost_ret (v := .tuple #[mot 1, .bool true]) (by simp [results, Try.results19, go_sem, mot, mW, mF, mH, mK, mB]) rfl ⟨rfl, by repeat (first | exact bAlloc (Below.refl _ _) _ | refine Below.setCell ?_ (Nat.le_refl _) _)⟩
set_option maxHeartbeats 1000000 in
theorem motion_2 (s : ByteArray) (w : World) (h : kn s = 2) : Calls Try.prog 19 #[.string s] w fun e w' => e = .returned (.tuple #[mot 2, .bool true]) ∧ Below w.heap.size w w' := by
  obtain ⟨r1, r2, r3, r4, r5, r6, r7, r8⟩ := kn_rules s 2 h
  clear h
  go_enter Try.func19, Try.ntmps19
  go_wp2
  exact bodyPost_ret (v := .tuple #[mot 2, .bool true]) (by simp [results, Try.results19, go_sem, mot, mW, mF, mH, mK, mB]) rfl ⟨rfl, by repeat (first | exact bAlloc (Below.refl _ _) _ | refine Below.setCell ?_ (Nat.le_refl _) _)⟩
set_option maxHeartbeats 1000000 in
theorem motion_3 (s : ByteArray) (w : World) (h : kn s = 3) : Calls Try.prog 19 #[.string s] w fun e w' => e = .returned (.tuple #[mot 3, .bool true]) ∧ Below w.heap.size w w' := by
  obtain ⟨r1, r2, r3, r4, r5, r6, r7, r8⟩ := kn_rules s 3 h
  clear h
  go_enter Try.func19, Try.ntmps19
  go_wp2
  exact bodyPost_ret (v := .tuple #[mot 3, .bool true]) (by simp [results, Try.results19, go_sem, mot, mW, mF, mH, mK, mB]) rfl ⟨rfl, by repeat (first | exact bAlloc (Below.refl _ _) _ | refine Below.setCell ?_ (Nat.le_refl _) _)⟩
set_option maxHeartbeats 1000000 in
theorem motion_4 (s : ByteArray) (w : World) (h : kn s = 4) : Calls Try.prog 19 #[.string s] w fun e w' => e = .returned (.tuple #[mot 4, .bool true]) ∧ Below w.heap.size w w' := by
  obtain ⟨r1, r2, r3, r4, r5, r6, r7, r8⟩ := kn_rules s 4 h
  clear h
  go_enter Try.func19, Try.ntmps19
  go_wp2
  exact bodyPost_ret (v := .tuple #[mot 4, .bool true]) (by simp [results, Try.results19, go_sem, mot, mW, mF, mH, mK, mB]) rfl ⟨rfl, by repeat (first | exact bAlloc (Below.refl _ _) _ | refine Below.setCell ?_ (Nat.le_refl _) _)⟩
set_option maxHeartbeats 1000000 in
theorem motion_5 (s : ByteArray) (w : World) (h : kn s = 5) : Calls Try.prog 19 #[.string s] w fun e w' => e = .returned (.tuple #[mot 5, .bool true]) ∧ Below w.heap.size w w' := by
  obtain ⟨r1, r2, r3, r4, r5, r6, r7, r8⟩ := kn_rules s 5 h
  clear h
  go_enter Try.func19, Try.ntmps19
  go_wp2
  exact bodyPost_ret (v := .tuple #[mot 5, .bool true]) (by simp [results, Try.results19, go_sem, mot, mW, mF, mH, mK, mB]) rfl ⟨rfl, by repeat (first | exact bAlloc (Below.refl _ _) _ | refine Below.setCell ?_ (Nat.le_refl _) _)⟩
set_option maxHeartbeats 1000000 in
theorem motion_6 (s : ByteArray) (w : World) (h : kn s = 6) : Calls Try.prog 19 #[.string s] w fun e w' => e = .returned (.tuple #[mot 6, .bool true]) ∧ Below w.heap.size w w' := by
  obtain ⟨r1, r2, r3, r4, r5, r6, r7, r8⟩ := kn_rules s 6 h
  clear h
  go_enter Try.func19, Try.ntmps19
  go_wp2
  exact bodyPost_ret (v := .tuple #[mot 6, .bool true]) (by simp [results, Try.results19, go_sem, mot, mW, mF, mH, mK, mB]) rfl ⟨rfl, by repeat (first | exact bAlloc (Below.refl _ _) _ | refine Below.setCell ?_ (Nat.le_refl _) _)⟩
set_option maxHeartbeats 1000000 in
theorem motion_7 (s : ByteArray) (w : World) (h : kn s = 7) : Calls Try.prog 19 #[.string s] w fun e w' => e = .returned (.tuple #[mot 7, .bool true]) ∧ Below w.heap.size w w' := by
  obtain ⟨r1, r2, r3, r4, r5, r6, r7, r8⟩ := kn_rules s 7 h
  clear h
  go_enter Try.func19, Try.ntmps19
  go_wp2
  exact bodyPost_ret (v := .tuple #[mot 7, .bool true]) (by simp [results, Try.results19, go_sem, mot, mW, mF, mH, mK, mB]) rfl ⟨rfl, by repeat (first | exact bAlloc (Below.refl _ _) _ | refine Below.setCell ?_ (Nat.le_refl _) _)⟩
set_option maxHeartbeats 1000000 in
theorem motion_8 (s : ByteArray) (w : World) (h : kn s = 8) : Calls Try.prog 19 #[.string s] w fun e w' => e = .returned (.tuple #[mot 8, .bool true]) ∧ Below w.heap.size w w' := by
  obtain ⟨r1, r2, r3, r4, r5, r6, r7, r8⟩ := kn_rules s 8 h
  clear h
  go_enter Try.func19, Try.ntmps19
  go_wp2
  exact bodyPost_ret (v := .tuple #[mot 8, .bool true]) (by simp [results, Try.results19, go_sem, mot, mW, mF, mH, mK, mB]) rfl ⟨rfl, by repeat (first | exact bAlloc (Below.refl _ _) _ | refine Below.setCell ?_ (Nat.le_refl _) _)⟩
theorem motion_any (s : ByteArray) (w : World) : Calls Try.prog 19 #[.string s] w fun e w' => e = .returned (.tuple #[mot (kn s), .bool (decide (kn s ≠ 0))]) ∧ Below w.heap.size w w' := by
  refine kn_cases (P := fun k => kn s = k → Calls Try.prog 19 #[.string s] w fun e w' => e = .returned (.tuple #[mot k, .bool (decide (k ≠ 0))]) ∧ Below w.heap.size w w') (kn s) (kn_le s) ?_ ?_ ?_ ?_ ?_ ?_ ?_ ?_ ?_ rfl
  · exact fun h => motion_0 s w h
  · exact fun h => motion_1 s w h
  · exact fun h => motion_2 s w h
  · exact fun h => motion_3 s w h
  · exact fun h => motion_4 s w h
  · exact fun h => motion_5 s w h
  · exact fun h => motion_6 s w h
  · exact fun h => motion_7 s w h
  · exact fun h => motion_8 s w h
theorem mF_cases (k : Nat) (h : k ≤ 8) : mF k = Value.nilFunc ∨ ∃ f, mF k = .func (.func f) #[] #[] := by
  refine kn_cases (P := fun k => mF k = Value.nilFunc ∨ ∃ f, mF k = .func (.func f) #[] #[]) k h (.inl rfl) ?_ ?_ ?_ ?_ ?_ ?_ ?_ ?_ <;> exact .inr ⟨_, rfl⟩
theorem mF_func (k : Nat) (h : k ≤ 8) (h0 : k ≠ 0) : ∃ f, mF k = .func (.func f) #[] #[] := by
  revert h0
  refine kn_cases (P := fun k => k ≠ 0 → ∃ f, mF k = .func (.func f) #[] #[]) k h (fun h => absurd rfl h) ?_ ?_ ?_ ?_ ?_ ?_ ?_ ?_ <;> exact fun _ => ⟨_, rfl⟩
theorem leads_any (ao : Option Addr) (n c p m k : Nat) (l : List UInt8) (w : World) (hk : k ≤ 8) (h0 : k ≠ 0) (hp : p ≤ n) (hN : m ≤ 9999) (HT : Hid (Tx w ao n c l)) :
    Calls Try.prog 20 #[mot k, .slice ao n c, .int .i64 p, .int .i64 m] w fun e w' => e = .returned (.int .i64 (tgt l p m k : Nat)) ∧ Below w.heap.size w w' := by
  have hl := HT.out.len
  subst hl
  revert h0
  refine kn_cases (P := fun k => k ≠ 0 → Calls Try.prog 20 #[mot k, .slice ao l.length c, .int .i64 p, .int .i64 m] w fun e w' => e = .returned (.int .i64 (tgt l p m k : Nat)) ∧ Below w.heap.size w w') k hk ?_ ?_ ?_ ?_ ?_ ?_ ?_ ?_ ?_
  · exact fun h => absurd rfl h
  · exact fun _ => leads_25u ao l.length c p m false l w hp hN HT
  · exact fun _ => leads_25u ao l.length c p m true l w hp hN HT
  · exact fun _ => leads_25d ao l.length c p m false l w hp hN HT
  · exact fun _ => leads_25d ao l.length c p m true l w hp hN HT
  · exact fun _ => leads_26u ao l.length c p m false l w hp hN HT
  · exact fun _ => leads_26u ao l.length c p m true l w hp hN HT
  · exact fun _ => leads_27d ao l.length c p m false l w hp hN HT
  · exact fun _ => leads_27d ao l.length c p m true l w hp hN HT
end Go.Proofs.Ytomekjakjgfjdaa
