/- The law's sameRows and place. -/
import Derived.Test.YtcaegdfbbjfgpaaAm09
import Derived.Test.YtcaegdfbbjfgpaaAm04
namespace Go.Proofs.Ytcaegdfbbjfgpaa
open Go.RowKit

set_option maxRecDepth 100000 in
set_option maxHeartbeats 4000000 in
theorem sameRows_any (v1 v2 : Value) (L : List Rw) (w : World) (hz : L.length ≤ 1048576) (h1 : Hid (Rdr w v1 L)) (h2 : Hid (Rdr w v2 L)) :
    Calls Try.prog 12 #[v1, v2] w fun e w' => e = .returned (.bool true) ∧ Below w.heap.size w w' := by
  obtain ⟨a1, n, c1, rfl, hn1, -, H1⟩ := h1.out
  obtain ⟨a2, n2, c2, rfl, hn2, -, H2⟩ := h2.out
  obtain rfl : n2 = n := by omega
  have HH1 := Hid.mk' H1
  have HH2 := Hid.mk' H2
  have HN := Hid.mk' hn1
  clear H1 H2 hn2 hn1 h1 h2
  go_enter Try.func12, Try.ntmps12
  go_wp2
  go_loopw [5] (fun i wq => ∃ m : Nat, m ≤ n2 ∧ i = .int .i64 m ∧ Below w.heap.size w wq) (fun i _ => n2 - (intOf i).toNat)
  case atStart => exact ⟨0, Nat.zero_le _, rfl, Below.refl _ _⟩
  case round =>
    obtain ⟨m, hm, rfl, hb⟩ := hrel
    have HB : Hid (Below w.heap.size w wr) := hb
    clear hb
    by_cases hmt : m < n2
    · have hl := HN.out
      obtain ⟨p, hp⟩ : ∃ p, L[m]? = some p := ⟨_, List.getElem?_eq_getElem (by omega)⟩
      rcases HH1.out with e | ⟨g1, o1, rfl, R1⟩
      · rw [e] at hp; simp at hp
      rcases HH2.out with e | ⟨g2, o2, rfl, R2⟩
      · rw [e] at hp; simp at hp
      obtain ⟨r0, r1, r2, r3, r4, r5, r6, r7, r8, r9⟩ := R1.keep HB.out m p hp
      obtain ⟨q0, q1, q2, q3, q4, q5, q6, q7, q8, q9⟩ := R2.keep HB.out m p hp
      obtain ⟨⟨s, o, l, nn⟩, b1, b2, b3, x1, x2, x3⟩ := p
      simp only at r0 r1 r2 r3 r4 r5 r6 r7 r8 r9 q0 q1 q2 q3 q4 q5 q6 q7 q8 q9
      have hm0 : (0 : Int) ≤ (m : Int) := by omega
      have hml : (m : Int) < (n2 : Int) := by omega
      have hmz : (m : Int) ≤ 1048576 := by omega
      clear hp hl R1 R2
      go_wp2
      go_region
      go_wp2
      go_roundw
      case rel => exact ⟨m + 1, by omega, by go_num, HB.out.drew⟩
      case measure => simp [intOf]; omega
    · obtain rfl : m = n2 := by omega
      go_wp2
      go_ret
      exact ⟨rfl, HB.out⟩
/-- what place answers -/
def pk (x : Int) (n : Nat) : Nat := if x < 0 then ((-(x + 1)).tmod n).toNat else (x % n).toNat
theorem pk_lt (x : Int) {n : Nat} (hn : 0 < n) : pk x n < n := by
  unfold pk
  split
  · have h1 := Int.tmod_nonneg (n : Int) (a := -(x + 1)) (by omega)
    have h2 := Int.tmod_lt_of_pos (-(x + 1)) (b := (n : Int)) (by omega)
    omega
  · have h1 := Int.emod_nonneg x (b := (n : Int)) (by omega)
    have h2 := Int.emod_lt_of_pos x (b := (n : Int)) (by omega)
    omega
set_option maxHeartbeats 400000 in
theorem place_pk (x : Int) (n : Nat) (w : World) (h1 : -9223372036854775808 ≤ x) (h2 : x ≤ 9223372036854775807) (hn : 0 < n) (hz : n ≤ 1048577) : Calls Try.prog 10 #[.int .i64 x, .int .i64 n] w fun e w' => e = .returned (.int .i64 (pk x n : Nat)) ∧ w' = w := by
  have hne : ((n : Int) == 0) = false := by simp; omega
  rcases (by omega : x < 0 ∨ 0 ≤ x) with h | h
  · go_enter Try.func10, Try.ntmps10
    go_wp2
    go_ret
    have h1 := Int.tmod_nonneg (n : Int) (a := -(x + 1)) (by omega)
    refine ⟨?_, rfl⟩
    show Ending.returned (.int .i64 (-(x + 1).tmod n)) = _
    unfold pk
    rw [if_pos h, Int.toNat_of_nonneg h1, Int.neg_tmod]
  · go_enter Try.func10, Try.ntmps10
    go_wp2
    go_ret
    have h1 := Int.emod_nonneg x (b := (n : Int)) (by omega)
    refine ⟨?_, rfl⟩
    show Ending.returned (.int .i64 (x % n)) = _
    unfold pk
    rw [if_neg (by omega), Int.toNat_of_nonneg h1]
end Go.Proofs.Ytcaegdfbbjfgpaa
