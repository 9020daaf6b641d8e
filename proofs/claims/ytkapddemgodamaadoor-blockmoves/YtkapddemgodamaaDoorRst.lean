/- The contract of lines.Rest. -/
import Derived.Test.YtkapddemgodamaaDoorKit
namespace Go.Proofs.YtkapddemgodamaaDoor
open Go.RowKit

/-- where a cursor rests that is brought to a place -/
def rs (l : List UInt8) (i : Nat) : Nat := if (i < l.length ∧ le (at8 l i) = false) ∨ bg l i = i then i else i - 1
/-- a number as a place -/
def cl (l : List UInt8) (i : Int) : Nat := if i < 0 then 0 else if (l.length : Int) < i then l.length else i.toNat
theorem cl_le (l : List UInt8) (i : Int) : cl l i ≤ l.length := by unfold cl; split; omega; split <;> omega
theorem cl_eq (l : List UInt8) (i : Int) : min (max i 0) (l.length : Int) = (cl l i : Int) := by unfold cl; split; omega; split <;> omega

theorem bg_yes {l : List UInt8} {k : Nat} (h : 0 < k) (hp : (((at8 l (k - 1)).toNat : Int) == 10) = true) : bg l k = k := by
  obtain ⟨j, rfl⟩ : ∃ j, k = j + 1 := ⟨k - 1, by omega⟩
  unfold bg
  rw [if_pos (show le (at8 l j) = true from hp)]
theorem bg_no {l : List UInt8} {k : Nat} (h : 0 < k) (hp : (((at8 l (k - 1)).toNat : Int) == 10) = false) : bg l k ≠ k := by
  obtain ⟨j, rfl⟩ : ∃ j, k = j + 1 := ⟨k - 1, by omega⟩
  unfold bg
  rw [if_neg (by rw [show le (at8 l j) = false from hp]; simp)]
  have := bg_le l j
  omega

set_option maxHeartbeats 1000000 in
theorem rest_zero (ao : Option Addr) (c : Nat) (i : Int) (w : World) (h1 : -9223372036854775808 ≤ i) (h2 : i ≤ 9223372036854775807) :
    Calls Tryd.prog 42 #[.slice ao 0 c, .int .i64 i] w fun e w' => e = .returned (.int .i64 0) ∧ w' = w := by
  have hm : min (max i 0) (0 : Int) = 0 := by omega
  go_enter Tryd.func42, Tryd.ntmps42
  go_wp2
  all_goals go_ret
  all_goals exact ⟨rfl, rfl⟩

set_option maxHeartbeats 1000000 in
theorem rest_at (g o n c k : Nat) (i : Int) (l : List UInt8) (w : World) (hi : min (max i 0) (n : Int) = (k : Int)) (hk : k ≤ n) (hl : l.length = n) (hn : 0 < n) (hbig : (n : Int) ≤ 140737488355328) (hc : Hid (∀ j, j < n → w.cell? ⟨g, o + j, none⟩ = some (.int .u8 ((at8 l j).toNat : Int)))) :
    Calls Tryd.prog 42 #[.slice (some ⟨g, o, none⟩) n c, .int .i64 i] w fun e w' => e = .returned (.int .i64 (rs l k)) ∧ w' = w := by
  have hk' : (k : Int) ≤ n := by omega
  have hk0 : (0 : Int) ≤ k := by omega
  by_cases hkn : k < n
  · have c1 := hc.out k hkn
    have hkn' : (k : Int) < n := by omega
    cases h10 : (((at8 l k).toNat : Int) == 10) with
    | false =>
      have HR : Hid (rs l k = k) := by unfold Hid rs; rw [if_pos (.inl ⟨by omega, h10⟩)]
      have hne : (((at8 l k).toNat : Int) != 10) = true := by simp only [bne, h10]; rfl
      by_cases hz : k = 0
      · subst hz
        have c0 : w.cell? ⟨g, o, none⟩ = some (.int .u8 ((at8 l 0).toNat : Int)) := c1
        have hi0 : min (max i 0) (n : Int) = 0 := hi
        clear hi
        go_enter Tryd.func42, Tryd.ntmps42
        go_wp2
        go_ret
        exact ⟨by rw [HR.out]; rfl, rfl⟩
      · have c2 := hc.out (k - 1) (by omega)
        have hz1 : (1 : Int) ≤ (k : Int) := by omega
        have hz2 : (k : Int) - 1 < (n : Int) := by omega
        cases hp : (((at8 l (k - 1)).toNat : Int) == 10) <;>
        · go_enter Tryd.func42, Tryd.ntmps42
          go_wp2
          go_ret
          exact ⟨by rw [HR.out]; rfl, rfl⟩
    | true =>
      have hne : (((at8 l k).toNat : Int) != 10) = false := by simp only [bne, h10]; rfl
      by_cases hz : k = 0
      · have HR : Hid (rs l k = k) := by unfold Hid rs; rw [if_pos (.inr (by rw [hz]; rfl))]
        subst hz
        have c0 : w.cell? ⟨g, o, none⟩ = some (.int .u8 ((at8 l 0).toNat : Int)) := c1
        have hi0 : min (max i 0) (n : Int) = 0 := hi
        clear hi
        go_enter Tryd.func42, Tryd.ntmps42
        go_wp2
        go_ret
        exact ⟨by rw [HR.out]; rfl, rfl⟩
      · have c2 := hc.out (k - 1) (by omega)
        have hz1 : (1 : Int) ≤ (k : Int) := by omega
        have hz2 : (k : Int) - 1 < (n : Int) := by omega
        cases hp : (((at8 l (k - 1)).toNat : Int) == 10) with
        | true =>
          have HR : Hid (rs l k = k) := by unfold Hid rs; rw [if_pos (.inr (bg_yes (by omega) hp))]
          go_enter Tryd.func42, Tryd.ntmps42
          go_wp2
          go_ret
          exact ⟨by rw [HR.out]; rfl, rfl⟩
        | false =>
          have HR : Hid ((rs l k : Int) = (k : Int) - 1) := by unfold Hid rs; rw [if_neg (fun h => by rcases h with h | h; (rw [show le (at8 l k) = true from h10] at h; simp at h); exact bg_no (by omega) hp h)]; omega
          go_enter Tryd.func42, Tryd.ntmps42
          go_wp2
          go_ret
          exact ⟨by rw [HR.out]; rfl, rfl⟩
  · obtain rfl : k = n := by omega
    have c2 := hc.out (k - 1) (by omega)
    have hz : ¬ k = 0 := by omega
    have hz1 : (1 : Int) ≤ (k : Int) := by omega
    have hz2 : (k : Int) - 1 < (k : Int) := by omega
    cases hp : (((at8 l (k - 1)).toNat : Int) == 10) with
    | true =>
      have HR : Hid (rs l k = k) := by unfold Hid rs; rw [if_pos (.inr (bg_yes (by omega) hp))]
      go_enter Tryd.func42, Tryd.ntmps42
      go_wp2
      go_ret
      exact ⟨by rw [HR.out]; rfl, rfl⟩
    | false =>
      have HR : Hid ((rs l k : Int) = (k : Int) - 1) := by unfold Hid rs; rw [if_neg (fun h => by rcases h with h | h; omega; exact bg_no (by omega) hp h)]; omega
      go_enter Tryd.func42, Tryd.ntmps42
      go_wp2
      go_ret
      exact ⟨by rw [HR.out]; rfl, rfl⟩

theorem rest_any (ao : Option Addr) (n c : Nat) (i : Int) (l : List UInt8) (w : World) (h1 : -9223372036854775808 ≤ i) (h2 : i ≤ 9223372036854775807) (HT : Hid (Tx w ao n c l)) :
    Calls Tryd.prog 42 #[.slice ao n c, .int .i64 i] w fun e w' => e = .returned (.int .i64 (rs l (cl l i))) ∧ w' = w := by
  have hl := HT.out.len
  have hcl := cl_le l i
  rcases Nat.eq_zero_or_pos n with h0 | h0
  · subst h0
    have e : rs l (cl l i) = 0 := by
      have : cl l i = 0 := by omega
      rw [this]; unfold rs; rw [if_pos (.inr rfl)]
    rw [e]
    exact rest_zero ao c i w h1 h2
  · obtain ⟨g, o, rfl, hc⟩ := HT.out.at h0
    refine rest_at g o n c (cl l i) i l w (by rw [← hl]; exact cl_eq l i) (by omega) hl h0 (by have := HT.out.big; omega) hc
theorem cl_nat {l : List UInt8} {k : Nat} (h : k ≤ l.length) : cl l (k : Int) = k := by
  unfold cl; rw [if_neg (by omega), if_neg (by omega)]; simp
end Go.Proofs.YtkapddemgodamaaDoor
