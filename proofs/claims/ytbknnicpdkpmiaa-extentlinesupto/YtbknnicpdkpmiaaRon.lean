/- The reference's Of refused. -/
import Derived.Test.YtbknnicpdkpmiaaOf
namespace Go.Proofs.Ytbknnicpdkpmiaa
open Go.RowKit

set_option maxRecDepth 8000
set_option maxHeartbeats 2000000 in
theorem rof_no_le (ao : Option Addr) (n c : Nat) (i j k : Int) (s : ByteArray) (w : World) (hij : i ≤ j) (h : i < 0 ∨ (n : Int) < j ∨ kdB k = false ∨ opB (opn s) = false) :
    Calls Try.prog 9 #[.slice ao n c, .agg #[.int .i64 i, .int .i64 j, .int .i64 k], .string s] w fun e w' => e = rt rno ∧ Below w.heap.size w w' := by
  have hm1 : min i j = i := by omega
  have hm2 : max i j = j := by omega
  have CK := Hid.mk' (known_any s)
  by_cases h1 : i < 0
  · clear h
    go_enter Try.func9, Try.ntmps9
    go_wp2_with fail
    go_region
    all_goals go_wp2_with (go_at_call 17; refine (CK.out _).mono ?_; rintro e w' ⟨rfl, hw⟩; have hq := hw.symm; subst hq; clear hw)
    all_goals exact bodyPost_ret (v := .tuple #[.agg #[.int .i64 (0), .int .i64 (0), .bool false, .bool false], .int .i64 2]) (by simp [results, Try.results9, go_sem]) rfl ⟨rfl, by first | exact bAlloc (bAlloc (Below.refl _ _) _) _ | exact (bAlloc (bAlloc (Below.refl _ _) _) _).drew | exact bset4' (bAlloc (bAlloc (Below.refl _ _) _) _).drew _ _ _ _⟩
  by_cases h2 : (n : Int) < j
  · clear h
    go_enter Try.func9, Try.ntmps9
    go_wp2_with fail
    go_region
    all_goals go_wp2_with (go_at_call 17; refine (CK.out _).mono ?_; rintro e w' ⟨rfl, hw⟩; have hq := hw.symm; subst hq; clear hw)
    all_goals exact bodyPost_ret (v := .tuple #[.agg #[.int .i64 (0), .int .i64 (0), .bool false, .bool false], .int .i64 2]) (by simp [results, Try.results9, go_sem]) rfl ⟨rfl, by first | exact bAlloc (bAlloc (Below.refl _ _) _) _ | exact (bAlloc (bAlloc (Below.refl _ _) _) _).drew | exact bset4' (bAlloc (bAlloc (Below.refl _ _) _) _).drew _ _ _ _⟩
  by_cases h3 : k < 1
  · clear h
    go_enter Try.func9, Try.ntmps9
    go_wp2_with fail
    go_region
    all_goals go_wp2_with (go_at_call 17; refine (CK.out _).mono ?_; rintro e w' ⟨rfl, hw⟩; have hq := hw.symm; subst hq; clear hw)
    all_goals exact bodyPost_ret (v := .tuple #[.agg #[.int .i64 (0), .int .i64 (0), .bool false, .bool false], .int .i64 2]) (by simp [results, Try.results9, go_sem]) rfl ⟨rfl, by first | exact bAlloc (bAlloc (Below.refl _ _) _) _ | exact (bAlloc (bAlloc (Below.refl _ _) _) _).drew | exact bset4' (bAlloc (bAlloc (Below.refl _ _) _) _).drew _ _ _ _⟩
  by_cases h4 : 3 < k
  · clear h
    go_enter Try.func9, Try.ntmps9
    go_wp2_with fail
    go_region
    all_goals go_wp2_with (go_at_call 17; refine (CK.out _).mono ?_; rintro e w' ⟨rfl, hw⟩; have hq := hw.symm; subst hq; clear hw)
    all_goals exact bodyPost_ret (v := .tuple #[.agg #[.int .i64 (0), .int .i64 (0), .bool false, .bool false], .int .i64 2]) (by simp [results, Try.results9, go_sem]) rfl ⟨rfl, by first | exact bAlloc (bAlloc (Below.refl _ _) _) _ | exact (bAlloc (bAlloc (Below.refl _ _) _) _).drew | exact bset4' (bAlloc (bAlloc (Below.refl _ _) _) _).drew _ _ _ _⟩
  have h5 : opB (opn s) = false := by
    rcases h with h | h | h | h
    · omega
    · omega
    · unfold kdB at h; have := of_decide_eq_false h; omega
    · exact h
  rw [h5] at CK
  clear h h5
  go_enter Try.func9, Try.ntmps9
  go_wp2_with fail
  go_region
  all_goals go_wp2_with (go_at_call 17; refine (CK.out _).mono ?_; rintro e w' ⟨rfl, hw⟩; have hq := hw.symm; subst hq; clear hw)
  all_goals exact bodyPost_ret (v := .tuple #[.agg #[.int .i64 (0), .int .i64 (0), .bool false, .bool false], .int .i64 2]) (by simp [results, Try.results9, go_sem]) rfl ⟨rfl, by first | exact bAlloc (bAlloc (Below.refl _ _) _) _ | exact (bAlloc (bAlloc (Below.refl _ _) _) _).drew | exact bset4' (bAlloc (bAlloc (Below.refl _ _) _) _).drew _ _ _ _⟩
set_option maxHeartbeats 2000000 in
theorem rof_no_ge (ao : Option Addr) (n c : Nat) (i j k : Int) (s : ByteArray) (w : World) (hij : j < i) (h : j < 0 ∨ (n : Int) < i ∨ kdB k = false ∨ opB (opn s) = false) :
    Calls Try.prog 9 #[.slice ao n c, .agg #[.int .i64 i, .int .i64 j, .int .i64 k], .string s] w fun e w' => e = rt rno ∧ Below w.heap.size w w' := by
  have hm1 : min i j = j := by omega
  have hm2 : max i j = i := by omega
  have CK := Hid.mk' (known_any s)
  by_cases h1 : j < 0
  · clear h
    go_enter Try.func9, Try.ntmps9
    go_wp2_with fail
    go_region
    all_goals go_wp2_with (go_at_call 17; refine (CK.out _).mono ?_; rintro e w' ⟨rfl, hw⟩; have hq := hw.symm; subst hq; clear hw)
    all_goals exact bodyPost_ret (v := .tuple #[.agg #[.int .i64 (0), .int .i64 (0), .bool false, .bool false], .int .i64 2]) (by simp [results, Try.results9, go_sem]) rfl ⟨rfl, by first | exact bAlloc (bAlloc (Below.refl _ _) _) _ | exact (bAlloc (bAlloc (Below.refl _ _) _) _).drew | exact bset4' (bAlloc (bAlloc (Below.refl _ _) _) _).drew _ _ _ _⟩
  by_cases h2 : (n : Int) < i
  · clear h
    go_enter Try.func9, Try.ntmps9
    go_wp2_with fail
    go_region
    all_goals go_wp2_with (go_at_call 17; refine (CK.out _).mono ?_; rintro e w' ⟨rfl, hw⟩; have hq := hw.symm; subst hq; clear hw)
    all_goals exact bodyPost_ret (v := .tuple #[.agg #[.int .i64 (0), .int .i64 (0), .bool false, .bool false], .int .i64 2]) (by simp [results, Try.results9, go_sem]) rfl ⟨rfl, by first | exact bAlloc (bAlloc (Below.refl _ _) _) _ | exact (bAlloc (bAlloc (Below.refl _ _) _) _).drew | exact bset4' (bAlloc (bAlloc (Below.refl _ _) _) _).drew _ _ _ _⟩
  by_cases h3 : k < 1
  · clear h
    go_enter Try.func9, Try.ntmps9
    go_wp2_with fail
    go_region
    all_goals go_wp2_with (go_at_call 17; refine (CK.out _).mono ?_; rintro e w' ⟨rfl, hw⟩; have hq := hw.symm; subst hq; clear hw)
    all_goals exact bodyPost_ret (v := .tuple #[.agg #[.int .i64 (0), .int .i64 (0), .bool false, .bool false], .int .i64 2]) (by simp [results, Try.results9, go_sem]) rfl ⟨rfl, by first | exact bAlloc (bAlloc (Below.refl _ _) _) _ | exact (bAlloc (bAlloc (Below.refl _ _) _) _).drew | exact bset4' (bAlloc (bAlloc (Below.refl _ _) _) _).drew _ _ _ _⟩
  by_cases h4 : 3 < k
  · clear h
    go_enter Try.func9, Try.ntmps9
    go_wp2_with fail
    go_region
    all_goals go_wp2_with (go_at_call 17; refine (CK.out _).mono ?_; rintro e w' ⟨rfl, hw⟩; have hq := hw.symm; subst hq; clear hw)
    all_goals exact bodyPost_ret (v := .tuple #[.agg #[.int .i64 (0), .int .i64 (0), .bool false, .bool false], .int .i64 2]) (by simp [results, Try.results9, go_sem]) rfl ⟨rfl, by first | exact bAlloc (bAlloc (Below.refl _ _) _) _ | exact (bAlloc (bAlloc (Below.refl _ _) _) _).drew | exact bset4' (bAlloc (bAlloc (Below.refl _ _) _) _).drew _ _ _ _⟩
  have h5 : opB (opn s) = false := by
    rcases h with h | h | h | h
    · omega
    · omega
    · unfold kdB at h; have := of_decide_eq_false h; omega
    · exact h
  rw [h5] at CK
  clear h h5
  go_enter Try.func9, Try.ntmps9
  go_wp2_with fail
  go_region
  all_goals go_wp2_with (go_at_call 17; refine (CK.out _).mono ?_; rintro e w' ⟨rfl, hw⟩; have hq := hw.symm; subst hq; clear hw)
  all_goals exact bodyPost_ret (v := .tuple #[.agg #[.int .i64 (0), .int .i64 (0), .bool false, .bool false], .int .i64 2]) (by simp [results, Try.results9, go_sem]) rfl ⟨rfl, by first | exact bAlloc (bAlloc (Below.refl _ _) _) _ | exact (bAlloc (bAlloc (Below.refl _ _) _) _).drew | exact bset4' (bAlloc (bAlloc (Below.refl _ _) _) _).drew _ _ _ _⟩

end Go.Proofs.Ytbknnicpdkpmiaa
