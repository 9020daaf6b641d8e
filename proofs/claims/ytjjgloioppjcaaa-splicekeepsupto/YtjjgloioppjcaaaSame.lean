/- The contracts of the laws' same and awake. -/
import Derived.Test.YtjjgloioppjcaaaPack
namespace Go.Proofs.Ytjjgloioppjcaaa
open Go.RowKit

theorem rdb_row {w : World} {ao : Option Addr} {n c : Nat} {L : List Sp} (h : Rdb w (.slice ao n c) L) : L = [] ∨ ∃ b off, ao = some ⟨b, off, none⟩ ∧ Row w b off L := by
  obtain ⟨ao', n', c', e1, _, _, h4⟩ := h
  simp at e1; rw [e1.1]; exact h4

set_option maxRecDepth 100000 in
set_option maxHeartbeats 2000000 in
theorem same_any (a1 : Option Addr) (c1 : Nat) (a2 : Option Addr) (c2 : Nat) (L : List Sp) (w : World) (hz : L.length * 24 ≤ 140737488355328) (h1 : Hid (Rdb w (.slice a1 L.length c1) L)) (h2 : Hid (Rdb w (.slice a2 L.length c2) L)) :
    Calls Try.prog 12 #[.slice a1 L.length c1, .slice a2 L.length c2] w fun e w' => e = .returned (.bool true) ∧ Below w.heap.size w w' := by
  have H1 := Hid.mk' (rdb_row h1.out)
  have H2 := Hid.mk' (rdb_row h2.out)
  clear h1 h2
  go_enter Try.func12, Try.ntmps12
  go_wp2
  go_loopw [5] (fun i wq => ∃ m : Nat, m ≤ L.length ∧ i = .int .i64 m ∧ Below w.heap.size w wq) (fun i _ => L.length - (intOf i).toNat)
  case atStart => exact ⟨0, Nat.zero_le _, rfl, Below.refl _ _⟩
  case round =>
    obtain ⟨m, hm, rfl, hb⟩ := hrel
    have HB := Hid.mk' hb
    clear hb
    by_cases hmt : m < L.length
    · rcases H1.out with hn | ⟨b1, off1, rfl, hr1⟩
      · rw [hn] at hmt; simp at hmt
      rcases H2.out with hn | ⟨b2, off2, rfl, hr2⟩
      · rw [hn] at hmt; simp at hmt
      rcases hp : L[m]? with _ | ⟨s, o, l⟩
      · have := List.getElem?_eq_none_iff.1 hp; omega
      obtain ⟨r0, r1, r2⟩ := row3 (hr1.keep HB.out) hp
      obtain ⟨q0, q1, q2⟩ := row3 (hr2.keep HB.out) hp
      have hm0 : (0 : Int) ≤ (m : Int) := by omega
      have hml : (m : Int) < (L.length : Int) := by omega
      clear hr1 hr2 hp H1 H2
      go_wp2
      go_region
      go_wp2
      go_roundw
      case rel => exact ⟨m + 1, by omega, by go_num, HB.out.drew⟩
      case measure => simp [intOf]; omega
    · obtain rfl : m = L.length := by omega
      go_wp2
      go_ret
      exact ⟨rfl, HB.out⟩

/-- two lists of the call's own -/
theorem same_own {w : World} {B B' : Nat} {v v' : Value} {L : List Sp} (hz : L.length * 24 ≤ 140737488355328) (h1 : w.ownsRow B 39 3 v L.length (cells L)) (h2 : w.ownsRow B' 39 3 v' L.length (cells L)) :
    Calls Try.prog 12 #[v, v'] w fun e w' => e = .returned (.bool true) ∧ Below w.heap.size w w' := by
  obtain ⟨a1, c1, rfl⟩ := own_shape h1
  obtain ⟨a2, c2, rfl⟩ := own_shape h2
  exact same_any a1 c1 a2 c2 L w hz (own_rdb h1) (own_rdb h2)
theorem rdb_shape {w : World} {v : Value} {L : List Sp} (h : Rdb w v L) : ∃ ao c, v = .slice ao L.length c := by
  obtain ⟨ao, n, c, rfl, rfl, _⟩ := h
  exact ⟨ao, c, rfl⟩
theorem same_rdb {w : World} {v v' : Value} {L : List Sp} (hz : L.length * 24 ≤ 140737488355328) (h1 : Rdb w v L) (h2 : Rdb w v' L) :
    Calls Try.prog 12 #[v, v'] w fun e w' => e = .returned (.bool true) ∧ Below w.heap.size w w' := by
  obtain ⟨a1, c1, rfl⟩ := rdb_shape h1
  obtain ⟨a2, c2, rfl⟩ := rdb_shape h2
  exact same_any a1 c1 a2 c2 L w hz h1 h2
theorem Size_rdb {w : World} {v : Value} {L : List Sp} (hz : L.length * 24 ≤ 140737488355328) (hg : Rng L) (h1 : Rdb w v L) :
    Calls Try.prog 14 #[v] w fun e w' => e = .returned (.int .i64 (sizeW L)) ∧ Below w.heap.size w w' := by
  obtain ⟨a1, c1, rfl⟩ := rdb_shape h1
  exact Size_any a1 _ c1 L w rfl (by omega) hg (rdb_row h1)
theorem refSize_rdb {w : World} {v : Value} {L : List Sp} (hz : L.length * 24 ≤ 140737488355328) (h1 : Rdb w v L) :
    Calls Try.prog 11 #[v] w fun e w' => e = .returned (.int .i64 (sizeW L)) ∧ Below w.heap.size w w' := by
  obtain ⟨a1, c1, rfl⟩ := rdb_shape h1
  exact refSize_any a1 _ c1 L w rfl (by omega) (rdb_row h1)
theorem Pack_rdb {w : World} {v : Value} {L : List Sp} (hz : L.length * 24 ≤ 140737488355328) (hg : Rng L) (h1 : Rdb w v L) :
    Calls Try.prog 13 #[v] w fun e w' => Gave w.heap.size w (packA L) e w' := by
  obtain ⟨a1, c1, rfl⟩ := rdb_shape h1
  exact Pack_any a1 c1 L w hz hg h1
theorem refPack_rdb {w : World} {v : Value} {L : List Sp} (hz : L.length * 24 ≤ 140737488355328) (h1 : Rdb w v L) :
    Calls Try.prog 10 #[v] w fun e w' => Gave w.heap.size w (packA L) e w' := by
  obtain ⟨a1, c1, rfl⟩ := rdb_shape h1
  exact refPack_any a1 c1 L w hz h1

def aw3 : List Sp := [⟨0, 0, 2⟩, ⟨0, 2, 3⟩, ⟨1, 0, 0⟩]
def aw1 : List Sp := [⟨0, 0, 5⟩]
theorem aw_pack : packA aw3 = aw1 := by
  have h : okL aw3 = true := by decide
  rw [packA, if_pos h]
  have e1 : putL [] ⟨0, 0, 2⟩ = [⟨0, 0, 2⟩] := putL_nil (by decide)
  have e2 : putL [⟨0, 0, 2⟩] ⟨0, 2, 3⟩ = [⟨0, 0, 5⟩] := putL_join (A := []) (by decide) (by decide)
  have e3 : putL [⟨0, 0, 5⟩] ⟨1, 0, 0⟩ = [⟨0, 0, 5⟩] := putL_zero rfl
  simp only [packL, aw3, List.foldl_cons, List.foldl_nil, e1, e2, e3, aw1]
theorem aw_rd3 (w : World) : Rdb (w.alloc (.cells #[.int .i64 0, .int .i64 0, .int .i64 2, .int .i64 0, .int .i64 2, .int .i64 3, .int .i64 1, .int .i64 0, .int .i64 0] 39)) (.slice (some ⟨w.heap.size, 0, none⟩) 3 3) aw3 := by
  refine ⟨_, _, _, rfl, rfl, Nat.le_refl _, .inr ⟨_, _, rfl, fun j p hj => ?_⟩⟩
  match j with
  | 0 => simp [aw3] at hj; subst hj; simp
  | 1 => simp [aw3] at hj; subst hj; simp
  | 2 => simp [aw3] at hj; subst hj; simp
  | (j + 3) => simp [aw3] at hj
theorem aw_rd1 (w : World) : Rdb (w.alloc (.cells #[.int .i64 0, .int .i64 0, .int .i64 5] 39)) (.slice (some ⟨w.heap.size, 0, none⟩) 1 1) aw1 := by
  refine ⟨_, _, _, rfl, rfl, Nat.le_refl _, .inr ⟨_, _, rfl, fun j p hj => ?_⟩⟩
  match j with
  | 0 => simp [aw1] at hj; subst hj; simp
  | (j + 1) => simp [aw1] at hj
theorem aw_size : sizeW aw1 = 5 := by
  have h : okL aw1 = true := by decide
  rw [sizeW, if_pos h]; decide

set_option maxRecDepth 100000 in
set_option maxHeartbeats 2000000 in
theorem awake_any (w : World) : Calls Try.prog 9 #[] w fun e w' => e = .returned (.bool true) ∧ Below w.heap.size w w' := by
  go_enter Try.func9, Try.ntmps9
  go_wp2_with (first | (go_at_call 13; (have Q := Pack_rdb (by decide) (okL_rng (by decide)) (aw_rd3 w)); rw [aw_pack] at Q; refine Q.mono ?_; clear Q; rintro e w9 ⟨v9, rfl, hown9, hb9, _⟩; (have H9 : Hid (w9.ownsRow w.heap.size 39 3 v9 1 (cells aw1) ∧ Below w.heap.size w w9) := ⟨own_lower hown9 (by simp), bA hb9⟩); clear hown9 hb9)
                     | (go_at_call 12; (have Q := same_rdb (L := aw1) (by decide) ((own_rdb H9.out.1).keep (bAlloc (Below.refl _ _) _)) (aw_rd1 w9)); refine Q.mono ?_; clear Q; rintro e w8 ⟨rfl, hb8⟩; have H8 : Hid (Rdb w8 v9 aw1 ∧ Below w9.heap.size w9 w8) := ⟨((own_rdb H9.out.1).keep (bAlloc (Below.refl _ _) _)).keep hb8, bA hb8⟩; clear hb8)
                     | (go_at_call 14; (have Q := Size_rdb (L := aw1) (by decide) (okL_rng (by decide)) H8.out.1); rw [aw_size] at Q; refine Q.mono ?_; clear Q; rintro e w7 ⟨rfl, hb7⟩; have H7 := Hid.mk' hb7; clear hb7))
  go_ret
  exact ⟨rfl, bT (bT H9.out.2 H8.out.2) H7.out⟩
end Go.Proofs.Ytjjgloioppjcaaa
