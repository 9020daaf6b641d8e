/- mayBetter. -/
import Derived.Test.YtimbnbkgdbhaeaaFre
namespace Go.Proofs.Ytimbnbkgdbhaeaa
open Go.RowKit
/-- is one of the first n at most a? -/
def mb (g : Nat → Nat) (a : Nat) : Nat → Bool
  | 0 => false
  | n + 1 => mb g a n || decide (g n ≤ a)
theorem mb_false {g : Nat → Nat} {a : Nat} : ∀ {n : Nat}, mb g a n = false → ∀ k, k < n → a < g k
  | 0, _, k, hk => by omega
  | n + 1, h, k, hk => by
    unfold mb at h
    rw [Bool.or_eq_false_iff] at h
    by_cases e : k = n
    · subst e; have := h.2; simp at this; omega
    · exact mb_false h.1 k (by omega)
theorem mb_true {g : Nat → Nat} {a k : Nat} : ∀ {n : Nat}, k < n → g k ≤ a → mb g a n = true
  | 0, hk, _ => by omega
  | n + 1, hk, h => by
    unfold mb
    rw [Bool.or_eq_true]
    by_cases e : k = n
    · subst e; exact .inr (by simpa using h)
    · exact .inl (mb_true (by omega) h)
set_option maxRecDepth 8000 in
set_option maxHeartbeats 8000000 in
theorem may_any (w W0 W : World) (Sb gb gn : Nat) (at_ : Option Addr) (ct : Nat) (ao : Option Addr) (nl cl : Nat) (l : List Th) (g h : Nat → Nat) (a : Nat) (hl : l.length ≤ 256) (H : Hid (Se w W0 W Sb gb gn at_ ct ao nl cl l g h)) :
    Calls Try.prog 35 #[.pointer (some ⟨Sb, 0, none⟩), .int .i64 (a : Int)] W fun e W' => e = .returned (.bool (mb g a l.length)) ∧ Below W.heap.size W W' := by
  have c0 : W.cell? ⟨Sb, 0, none⟩ = some (.slice at_ l.length ct) := H.out.blk.cell (j := 0) rfl
  have c2 : W.cell? ⟨Sb, 2, none⟩ = some (.slice (some ⟨gb, 0, none⟩) (l.length + 1) (l.length + 1)) := H.out.blk.cell (j := 2) rfl
  have hl2 : (l.length : Int) ≤ 256 := by omega
  have hl3 : (l.length : Int) ≤ (l.length : Int) + 1 := by omega
  obtain ⟨R, HR⟩ : ∃ R, Hid (mb g a l.length = R) := ⟨_, rfl⟩
  go_enter Try.func35, Try.ntmps35
  go_wp2_with fail
  go_quiet (fail)
  go_wp2_with fail
  go_loopg [6, 18] l.length (fun m x6 x18 wx => ∃ k : Nat, x18 = .int .i64 (k : Int) ∧ k + m = l.length ∧ Hid (Below W.heap.size W wx) ∧ Hid (mb g a k = false))
  case atStart => exact ⟨0, rfl, by omega, bDrewN _ _, rfl⟩
  case round =>
    obtain ⟨k, rfl, hk, HB, HM⟩ := hrel
    cases gk with
    | zero =>
      have hkn : ¬ ((k : Int) < (l.length : Int)) := by omega
      have HRR : Hid (mb g a l.length = false) := by unfold Hid; rw [← show k = l.length by omega]; exact HM.out
      go_wp2
      go_ret
      exact ⟨by rw [HRR.out]; rfl, HB.out⟩
    | succ m =>
      have hkn : (k : Int) < (l.length : Int) := by omega
      have r0 := keepC HB.out (H.out.bg.cell (nva_at _ (j := k) (by omega)))
      by_cases hx : g k ≤ a
      · have hx' : (g k : Int) ≤ (a : Int) := by omega
        have HRR : Hid (mb g a l.length = true) := mb_true (k := k) (by omega) hx
        go_wp2
        go_ret
        exact ⟨by rw [HRR.out]; rfl, HB.out⟩
      · have hx' : ¬ ((g k : Int) ≤ (a : Int)) := by omega
        have HMM : Hid (mb g a (k + 1) = false) := by unfold Hid mb; rw [HM.out, decide_eq_false hx]; rfl
        go_wp2
        go_roundg m
        case measure => omega
        case rel => exact ⟨k + 1, by go_num, by omega, HB.out, HMM.out⟩
end Go.Proofs.Ytimbnbkgdbhaeaa
