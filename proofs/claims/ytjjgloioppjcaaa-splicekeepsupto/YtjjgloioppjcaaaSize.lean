/- The contracts of allRight and Size, the program's and the reference's. -/
import Derived.Test.YtjjgloioppjcaaaKit
namespace Go.Proofs.Ytjjgloioppjcaaa
open Go.RowKit

set_option maxHeartbeats 1000000 in
theorem allRight_any (ao : Option Addr) (n c : Nat) (L : List Sp) (w : World) (hn : n = L.length) (hz : n ≤ 140737488355328) (hg : Hid (Rng L)) (hr : Hid (L = [] ∨ ∃ b off, ao = some ⟨b, off, none⟩ ∧ Row w b off L)) :
    Calls Try.prog 28 #[.slice ao n c] w fun e w' => e = .returned (.bool (okL L)) ∧ Below w.heap.size w w' := by
  subst hn
  go_enter Try.func28, Try.ntmps28
  go_wp2
  go_loopw [7] (fun i wr => ∃ j : Nat, j ≤ L.length ∧ i = .int .i64 j ∧ okL (L.take j) = true ∧ Below w.heap.size w wr) (fun i _ => L.length - (intOf i).toNat)
  case atStart => exact ⟨0, Nat.zero_le _, rfl, rfl, Below.refl _ _⟩
  case round =>
    obtain ⟨j, hj, rfl, hok, hb⟩ := hrel
    have HB : Hid (Below w.heap.size w wr) := hb
    have HK : Hid (okL (L.take j) = true) := hok
    clear hb hok
    by_cases hlt : j < L.length
    · rcases hr.out with hn | ⟨b, off, rfl, hrw⟩
      · rw [hn] at hlt; simp at hlt
      rcases hp : L[j]? with _ | ⟨s, o, l⟩
      · have := List.getElem?_eq_none_iff.1 hp; omega
      obtain ⟨r0, r1, r2⟩ := row3 (hrw.keep HB.out) hp
      have hj0 : (0 : Int) ≤ (j : Int) := by omega
      have hjl : (j : Int) < (L.length : Int) := by omega
      have hl : l ≤ 9223372036854775807 := hg.out ⟨s, o, l⟩ (List.mem_of_getElem? hp)
      have HP : Hid (L[j]? = some ⟨s, o, l⟩) := hp
      clear hr hrw hp
      cases hf : rgt ⟨s, o, l⟩ with
      | false =>
        go_wp2_with (go_at_call 36; refine (right_any s o l _ hl).mono ?_; rintro e w' ⟨rfl, rfl⟩; rw [hf])
        go_ret
        exact ⟨ret_bool (okL_not HP.out hf).symm, bAlloc (bAlloc HB.out _) _⟩
      | true =>
        go_wp2_with (go_at_call 36; refine (right_any s o l _ hl).mono ?_; rintro e w' ⟨rfl, rfl⟩; rw [hf])
        go_roundw
        case rel => exact ⟨j + 1, by omega, by go_num, by rw [okL_take HP.out, HK.out, hf]; rfl, bAlloc (bAlloc HB.out _) _⟩
        case measure => simp [intOf]; omega
    · obtain rfl : j = L.length := by omega
      rw [List.take_length] at HK
      go_wp2
      go_ret
      exact ⟨ret_bool HK.out.symm, HB.out⟩

set_option maxHeartbeats 1000000 in
theorem refAllRight_any (ao : Option Addr) (n c : Nat) (L : List Sp) (w : World) (hn : n = L.length) (hz : n ≤ 140737488355328) (hr : Hid (L = [] ∨ ∃ b off, ao = some ⟨b, off, none⟩ ∧ Row w b off L)) :
    Calls Try.prog 26 #[.slice ao n c] w fun e w' => e = .returned (.bool (okL L)) ∧ Below w.heap.size w w' := by
  subst hn
  go_enter Try.func26, Try.ntmps26
  go_wp2
  go_loopw [3] (fun i wr => ∃ j : Nat, j ≤ L.length ∧ i = .int .i64 j ∧ okL (L.take j) = true ∧ Below w.heap.size w wr) (fun i _ => L.length - (intOf i).toNat)
  case atStart => exact ⟨0, Nat.zero_le _, rfl, rfl, Below.refl _ _⟩
  case round =>
    obtain ⟨j, hj, rfl, hok, hb⟩ := hrel
    have HB : Hid (Below w.heap.size w wr) := hb
    have HK : Hid (okL (L.take j) = true) := hok
    clear hb hok
    by_cases hlt : j < L.length
    · rcases hr.out with hn | ⟨b, off, rfl, hrw⟩
      · rw [hn] at hlt; simp at hlt
      rcases hp : L[j]? with _ | ⟨s, o, l⟩
      · have := List.getElem?_eq_none_iff.1 hp; omega
      obtain ⟨r0, r1, r2⟩ := row3 (hrw.keep HB.out) hp
      have hj0 : (0 : Int) ≤ (j : Int) := by omega
      have hjl : (j : Int) < (L.length : Int) := by omega
      have HP : Hid (L[j]? = some ⟨s, o, l⟩) := hp
      clear hr hrw hp
      cases hf : rgt ⟨s, o, l⟩ with
      | false =>
        go_wp2_with (go_at_call 35; refine (refRight_any s o l _).mono ?_; rintro e w' ⟨rfl, rfl⟩; rw [hf])
        go_ret
        exact ⟨ret_bool (okL_not HP.out hf).symm, bAlloc HB.out _⟩
      | true =>
        go_wp2_with (go_at_call 35; refine (refRight_any s o l _).mono ?_; rintro e w' ⟨rfl, rfl⟩; rw [hf])
        go_roundw
        case rel => exact ⟨j + 1, by omega, by go_num, by rw [okL_take HP.out, HK.out, hf]; rfl, bAlloc HB.out _⟩
        case measure => simp [intOf]; omega
    · obtain rfl : j = L.length := by omega
      rw [List.take_length] at HK
      go_wp2
      go_ret
      exact ⟨ret_bool HK.out.symm, HB.out⟩

theorem wrap_add (a b : Int) : IntKind.i64.wrap (IntKind.i64.wrap a + b) = IntKind.i64.wrap (a + b) := by
  rw [IntKind.wrap_i64, IntKind.wrap_i64, IntKind.wrap_i64]; omega

set_option maxHeartbeats 1000000 in
theorem Size_any (ao : Option Addr) (n c : Nat) (L : List Sp) (w : World) (hn : n = L.length) (hz : n ≤ 140737488355328) (hg : Hid (Rng L)) (hr : Hid (L = [] ∨ ∃ b off, ao = some ⟨b, off, none⟩ ∧ Row w b off L)) :
    Calls Try.prog 14 #[.slice ao n c] w fun e w' => e = .returned (.int .i64 (sizeW L)) ∧ Below w.heap.size w w' := by
  subst hn
  cases hok : okL L with
  | false =>
    go_enter Try.func14, Try.ntmps14
    go_wp2_with (go_at_call 28; refine (allRight_any ao _ c L _ rfl hz hg hr).mono ?_; rintro e w9 ⟨rfl, hb9⟩; rw [hok])
    go_ret
    exact ⟨by simp [sizeW, hok], hb9⟩
  | true =>
    have HO : Hid (okL L = true) := hok
    clear hok
    go_enter Try.func14, Try.ntmps14
    go_wp2_with (go_at_call 28; refine (allRight_any ao _ c L _ rfl hz hg hr).mono ?_; rintro e w9 ⟨rfl, hb9⟩; rw [HO.out])
    have HB9 : Hid (Below w.heap.size w w9) := hb9
    clear hb9
    go_loopw [3, 11] (fun z i wr => ∃ j : Nat, j ≤ L.length ∧ i = .int .i64 j ∧ z = .int .i64 (IntKind.i64.wrap (sumL (L.take j))) ∧ Below w.heap.size w wr) (fun _ i _ => L.length - (intOf i).toNat)
    case atStart => exact ⟨0, Nat.zero_le _, rfl, rfl, HB9.out⟩
    case round =>
      obtain ⟨j, hj, rfl, rfl, hb⟩ := hrel
      have HB : Hid (Below w.heap.size w wr) := hb
      clear hb HB9
      by_cases hlt : j < L.length
      · rcases hr.out with hn | ⟨b, off, rfl, hrw⟩
        · rw [hn] at hlt; simp at hlt
        rcases hp : L[j]? with _ | ⟨s, o, l⟩
        · have := List.getElem?_eq_none_iff.1 hp; omega
        obtain ⟨r0, r1, r2⟩ := row3 (hrw.keep HB.out) hp
        have hj0 : (0 : Int) ≤ (j : Int) := by omega
        have hjl : (j : Int) < (L.length : Int) := by omega
        have HP : Hid (L[j]? = some ⟨s, o, l⟩) := hp
        clear hr hrw hp
        generalize hS : sumL (L.take j) = S
        have HS : Hid (sumL (L.take j) = S) := hS
        clear hS
        generalize hT : IntKind.i64.wrap S = T
        have HT : Hid (IntKind.i64.wrap S = T) := hT
        clear hT
        go_wp2
        go_roundw
        case rel => exact ⟨j + 1, by omega, by go_num, by rw [sumL_take HP.out, HS.out, ← wrap_add, HT.out]; first | rfl | simp only [IntKind.wrap_i64, wrap64], bAlloc HB.out _⟩
        case measure => simp [intOf]; omega
      · obtain rfl : j = L.length := by omega
        rw [List.take_length]
        generalize hT : IntKind.i64.wrap (sumL L) = T
        have HT : Hid (IntKind.i64.wrap (sumL L) = T) := hT
        clear hT
        go_wp2
        go_ret
        exact ⟨by rw [sizeW, if_pos HO.out, HT.out]; rfl, HB.out⟩

set_option maxHeartbeats 1000000 in
theorem refSize_any (ao : Option Addr) (n c : Nat) (L : List Sp) (w : World) (hn : n = L.length) (hz : n ≤ 140737488355328) (hr : Hid (L = [] ∨ ∃ b off, ao = some ⟨b, off, none⟩ ∧ Row w b off L)) :
    Calls Try.prog 11 #[.slice ao n c] w fun e w' => e = .returned (.int .i64 (sizeW L)) ∧ Below w.heap.size w w' := by
  subst hn
  cases hok : okL L with
  | false =>
    go_enter Try.func11, Try.ntmps11
    go_wp2_with (go_at_call 26; refine (refAllRight_any ao _ c L _ rfl hz hr).mono ?_; rintro e w9 ⟨rfl, hb9⟩; rw [hok])
    go_ret
    exact ⟨by simp [sizeW, hok], hb9⟩
  | true =>
    have HO : Hid (okL L = true) := hok
    clear hok
    go_enter Try.func11, Try.ntmps11
    go_wp2_with (go_at_call 26; refine (refAllRight_any ao _ c L _ rfl hz hr).mono ?_; rintro e w9 ⟨rfl, hb9⟩; rw [HO.out])
    have HB9 : Hid (Below w.heap.size w w9) := hb9
    clear hb9
    go_loopw [3, 4] (fun z i wr => ∃ j : Nat, j ≤ L.length ∧ i = .int .i64 j ∧ z = .int .i64 (IntKind.i64.wrap (sumL (L.take j))) ∧ Below w.heap.size w wr) (fun _ i _ => L.length - (intOf i).toNat)
    case atStart => exact ⟨0, Nat.zero_le _, rfl, rfl, HB9.out⟩
    case round =>
      obtain ⟨j, hj, rfl, rfl, hb⟩ := hrel
      have HB : Hid (Below w.heap.size w wr) := hb
      clear hb HB9
      by_cases hlt : j < L.length
      · rcases hr.out with hn | ⟨b, off, rfl, hrw⟩
        · rw [hn] at hlt; simp at hlt
        rcases hp : L[j]? with _ | ⟨s, o, l⟩
        · have := List.getElem?_eq_none_iff.1 hp; omega
        obtain ⟨r0, r1, r2⟩ := row3 (hrw.keep HB.out) hp
        have hj0 : (0 : Int) ≤ (j : Int) := by omega
        have hjl : (j : Int) < (L.length : Int) := by omega
        have HP : Hid (L[j]? = some ⟨s, o, l⟩) := hp
        clear hr hrw hp
        generalize hS : sumL (L.take j) = S
        have HS : Hid (sumL (L.take j) = S) := hS
        clear hS
        generalize hT : IntKind.i64.wrap S = T
        have HT : Hid (IntKind.i64.wrap S = T) := hT
        clear hT
        go_wp2
        go_roundw
        case rel => exact ⟨j + 1, by omega, by go_num, by rw [sumL_take HP.out, HS.out, ← wrap_add, HT.out]; first | rfl | simp only [IntKind.wrap_i64, wrap64], HB.out⟩
        case measure => simp [intOf]; omega
      · obtain rfl : j = L.length := by omega
        rw [List.take_length]
        generalize hT : IntKind.i64.wrap (sumL L) = T
        have HT : Hid (IntKind.i64.wrap (sumL L) = T) := hT
        clear hT
        go_wp2
        go_ret
        exact ⟨by rw [sizeW, if_pos HO.out, HT.out]; rfl, HB.out⟩
end Go.Proofs.Ytjjgloioppjcaaa
