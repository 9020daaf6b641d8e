/- The contract of the laws' packed. -/
import Derived.Test.YtjjgloioppjcaaaSame
namespace Go.Proofs.Ytjjgloioppjcaaa
open Go.RowKit

set_option maxRecDepth 100000 in
set_option maxHeartbeats 4000000 in
theorem packed_any (ao : Option Addr) (c : Nat) (L : List Sp) (w : World) (hz : L.length * 24 ≤ 140737488355328) (hok : Hid (okL L = true)) (hpk : Hid (pk L)) (h1 : Hid (Rdb w (.slice ao L.length c) L)) :
    Calls Try.prog 24 #[.slice ao L.length c] w fun e w' => e = .returned (.bool true) ∧ Below w.heap.size w w' := by
  have H1 := Hid.mk' (rdb_row h1.out)
  clear h1
  go_enter Try.func24, Try.ntmps24
  go_wp2
  go_loopw [3] (fun i wq => ∃ m : Nat, m ≤ L.length ∧ i = .int .i64 m ∧ Below w.heap.size w wq) (fun i _ => L.length - (intOf i).toNat)
  case atStart => exact ⟨0, Nat.zero_le _, rfl, Below.refl _ _⟩
  case round =>
    obtain ⟨m, hm, rfl, hb⟩ := hrel
    have HB := Hid.mk' hb
    clear hb
    by_cases hmt : m < L.length
    · rcases H1.out with hn | ⟨b1, off1, rfl, hr1⟩
      · rw [hn] at hmt; simp at hmt
      rcases hp : L[m]? with _ | ⟨s, o, l⟩
      · have := List.getElem?_eq_none_iff.1 hp; omega
      obtain ⟨r0, r1, r2⟩ := row3 (hr1.keep HB.out) hp
      have hl1 : 1 ≤ l := (pk_at hpk.out).1 m _ hp
      have hl2 : ¬ l < 1 := by omega
      have hm0 : (0 : Int) ≤ (m : Int) := by omega
      have hml : (m : Int) < (L.length : Int) := by omega
      cases m with
      | zero =>
        clear hr1 hp H1
        simp only [Nat.zero_mul, Nat.add_zero] at r0 r1 r2
        go_wp2
        go_region
        go_wp2
        go_roundw
        case rel => exact ⟨1, by omega, by first | rfl | go_num, HB.out.drew⟩
        case measure => simp [intOf]; omega
      | succ k =>
        rcases hq : L[k]? with _ | ⟨s', o', l'⟩
        · have := List.getElem?_eq_none_iff.1 hq; omega
        obtain ⟨q0, q1, q2⟩ := row3 (hr1.keep HB.out) hq
        have hf := (pk_at hpk.out).2 k _ _ hq hp
        have hrg := (rgt_iff _).1 (okL_mem hok.out (List.mem_of_getElem? hq))
        dsimp only at hrg
        obtain ⟨-, hg1, hg2, hg3⟩ := hrg
        have hk0 : (0 : Int) ≤ (k : Int) := by omega
        have hkl : (k : Int) < (L.length : Int) := by omega
        have hk1 : (k : Int) + 1 < (L.length : Int) := by omega
        have hk2 : (0 : Int) ≤ (k : Int) + 1 := by omega
        have hk3 : (0 : Int) < (k : Int) + 1 := by omega
        clear hr1 hp H1 hq
        by_cases hs : s' = s
        · have hne : ¬ o' + l' = o := by intro e; unfold fol at hf; simp [hs, e] at hf
          subst hs
          have hb1 : ((o' + l') == o) = false := by simpa using hne
          clear hf
          go_wp2
          go_region
          go_wp2
          go_roundw
          case rel => exact ⟨k + 1 + 1, by omega, by first | rfl | go_num, HB.out.drew⟩
          case measure => simp [intOf]; omega
        · have hb1 : (s' == s) = false := by simpa using hs
          clear hf
          go_wp2
          go_region
          go_wp2
          go_roundw
          case rel => exact ⟨k + 1 + 1, by omega, by first | rfl | go_num, HB.out.drew⟩
          case measure => simp [intOf]; omega
    · obtain rfl : m = L.length := by omega
      go_wp2
      go_ret
      exact ⟨rfl, HB.out⟩
theorem packed_rdb {w : World} {v : Value} {L : List Sp} (hz : L.length * 24 ≤ 140737488355328) (hok : okL L = true ∧ pk L) (h1 : Rdb w v L) :
    Calls Try.prog 24 #[v] w fun e w' => e = .returned (.bool true) ∧ Below w.heap.size w w' := by
  obtain ⟨a1, c1, rfl⟩ := rdb_shape h1
  exact packed_any a1 c1 L w hz hok.1 hok.2 h1
end Go.Proofs.Ytjjgloioppjcaaa
