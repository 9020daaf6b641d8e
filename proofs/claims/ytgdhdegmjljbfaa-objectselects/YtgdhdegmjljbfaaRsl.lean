/- The reference's Select. -/
import Derived.Test.YtgdhdegmjljbfaaRpg
import Derived.Test.YtgdhdegmjljbfaaRbk
import Derived.Test.YtgdhdegmjljbfaaRqd
namespace Go.Proofs.Ytgdhdegmjljbfaa
open Go.RowKit
theorem wl_hold (l : List UInt8) (p : Nat) (big : Bool) (hp : p ≤ l.length) : ∀ x, (wl l p big)[ix (wl l p big) p]? = some x → x.1 ≤ p := by
  intro x hx
  have hb := bg_le l p
  have hpe := place_en (t := l) (i := p) hp
  have hM : lm l p = en l (bg l p) - bg l p := rfl
  have hWL : wl l p big = rl (kn (lq l p) big) (lm l p) (fun x => bg l p + x) (fun x => bl (at8 (lq l p) x)) := rfl
  rcases Nat.lt_or_ge p (en l (bg l p)) with hin | hin
  · obtain ⟨i0, r1, r2, r3⟩ := run_of (K := kn (lq l p) big) (n := lm l p) (q := p - bg l p) (by omega)
    have hix : ix (wl l p big) p = i0 := by
      rw [hWL]; exact ix_run (fun x y h _ => by show bg l p + x ≤ bg l p + y; omega) r1 (by show bg l p + _ ≤ p; omega) (by show p < bg l p + _; omega)
    rw [hix, hWL, rl_at _ _ r1] at hx
    injection hx with hx
    subst hx
    show bg l p + _ ≤ p
    omega
  · have hix : ix (wl l p big) p = rm (kn (lq l p) big) (lm l p) := by
      rw [hWL]; exact ix_end (fun x hx => by show bg l p + x ≤ p; omega)
    rw [hix, List.getElem?_eq_none (by rw [hWL, rl_len]; exact Nat.le_refl _)] at hx
    cases hx
theorem wl_apart (l : List UInt8) (p : Nat) (big : Bool) : ∀ j, gp (wl l p big) j = true → gp (wl l p big) (j + 1) = false := fun j h =>
  rl_apart _ _ (fun x y h1 h2 => by
    have e1 := kd_bl (at8 (lq l p) x) big
    have e2 := kd_bl (at8 (lq l p) y) big
    rw [h1] at e1
    rw [h2] at e2
    have e3 : kd ((at8 (lq l p) x).toNat : Int) big = 0 := by simpa using e1
    have e4 : kd ((at8 (lq l p) y).toNat : Int) big = 0 := by simpa using e2
    unfold kn
    rw [e3, e4]) h
/-- an answer by its two places -/
def sr (r : Option (Nat × Nat)) : Ending := match r with
  | none => tg 0 0 0 130
  | some x => tg (x.1 : Int) (x.2 : Int) 1 0
theorem sel_sr (l : List UInt8) (q n : Nat) (k : Int) (a : Bool) (h : ¬ k = 112) : sel l q n k a = sr (bnd l q n k a) := by
  unfold sel sr
  cases bnd l q n k a with
  | none => rfl
  | some x => simp only; rw [if_neg h]
theorem op9_op {k : Int} (h : isB k) : op9 k = op k ∧ cp9 k = cp k ∧ (op9 k != 0) = true := by
  rcases h with rfl | rfl | rfl | rfl | rfl | rfl | rfl | rfl <;> decide
theorem op9_no {k : Int} (h : ¬ isB k) : op9 k = 0 := by
  unfold isB at h
  unfold op9; rw [if_neg (by omega), if_neg (by omega), if_neg (by omega)]
end Go.Proofs.Ytgdhdegmjljbfaa
