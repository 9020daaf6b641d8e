/- The contracts of quoinref10's small functions: blank, closing, finished, begins. -/
import Derived.Test.YtkapddemgodamaaDoorBsn
namespace Go.Proofs.YtkapddemgodamaaDoor
open Go.RowKit

def blk (b : Int) : Bool := (b == 32) || (b == 9)
def clo (b : Int) : Bool := (b == 41) || (b == 93) || (b == 34) || (b == 39)
set_option maxHeartbeats 1000000 in
theorem blank_any (b : Int) (w : World) : Calls Tryd.prog 28 #[.int .u8 b] w fun e w' => e = .returned (.bool (blk b)) ∧ w' = w := by
  have HW : Hid (blk b = ((b == 32) || (b == 9))) := rfl
  generalize blk b = r at *
  cases h1 : b == 32 <;> cases h2 : b == 9 <;> rw [h1, h2] at HW
  all_goals
    go_enter Tryd.func28, Tryd.ntmps28
    go_wp2
    go_ret
    exact ⟨by rw [HW.out]; rfl, rfl⟩
set_option maxHeartbeats 1000000 in
theorem closing_any (b : Int) (w : World) : Calls Tryd.prog 40 #[.int .u8 b] w fun e w' => e = .returned (.bool (clo b)) ∧ w' = w := by
  have HW : Hid (clo b = ((b == 41) || (b == 93) || (b == 34) || (b == 39))) := rfl
  generalize clo b = r at *
  cases h1 : b == 41
  · cases h2 : b == 93
    · cases h3 : b == 34
      · rw [h1, h2, h3] at HW
        go_enter Tryd.func40, Tryd.ntmps40
        go_wp2
        go_ret
        exact ⟨by rw [HW.out]; rfl, rfl⟩
      · rw [h1, h2, h3] at HW
        have HW' : Hid (r = true) := by unfold Hid; rw [HW.out]; rfl
        go_enter Tryd.func40, Tryd.ntmps40
        go_wp2
        go_ret
        exact ⟨by rw [HW'.out]; rfl, rfl⟩
    · rw [h1, h2] at HW
      have HW' : Hid (r = true) := by unfold Hid; rw [HW.out]; rfl
      go_enter Tryd.func40, Tryd.ntmps40
      go_wp2
      go_ret
      exact ⟨by rw [HW'.out]; rfl, rfl⟩
  · rw [h1] at HW
    have HW' : Hid (r = true) := by unfold Hid; rw [HW.out]; rfl
    go_enter Tryd.func40, Tryd.ntmps40
    go_wp2
    go_ret
    exact ⟨by rw [HW'.out]; rfl, rfl⟩

/-- how far the brackets and quotes go back from i -/
def cl0 (l : List UInt8) : Nat → Nat
  | 0 => 0
  | k + 1 => if clo (bi l k) = true then cl0 l k else k + 1
def mk3 (b : Int) : Bool := (b == 46) || (b == 33) || (b == 63)
/-- a sentence's end lies ahead of p -/
def fin (l : List UInt8) (p : Nat) : Bool := decide (0 < cl0 l p) && mk3 (bi l (cl0 l p - 1))
theorem cl0_le (l : List UInt8) : ∀ k, cl0 l k ≤ k
  | 0 => Nat.le_refl _
  | k + 1 => by unfold cl0; split; have := cl0_le l k; omega; omega
theorem cell_bi' {w : World} {g o n c : Nat} {l : List UInt8} (h : Tx w (some ⟨g, o, none⟩) n c l) {j : Nat} (hj : j < n) : w.cell? ⟨g, o + j, none⟩ = some (.int .u8 (bi l j)) := by
  have := h.cells _ rfl j hj; rwa [add_none] at this

set_option maxHeartbeats 4000000 in
theorem finished_any {ao : Option Addr} {n c p : Nat} {l : List UInt8} {w : World} (hp : p < n) (hg : blk (bi l p) = true ∨ bi l p = 10) (HT : Hid (Tx w ao n c l)) :
    Calls Tryd.prog 36 #[.slice ao n c, .int .i64 p] w fun e w' => e = .returned (.bool (fin l p)) ∧ w' = w := by
  have hl := HT.out.len
  have hbig := HT.out.big
  obtain ⟨g, o, rfl, hcl⟩ := HT.out.at (by omega)
  clear hcl
  have CB : Hid (∀ j, j < n → w.cell? ⟨g, o + j, none⟩ = some (.int .u8 (bi l j))) := fun j hj => cell_bi' HT.out hj
  obtain ⟨r, hr⟩ : ∃ r, r = fin l p := ⟨_, rfl⟩
  rw [← hr]
  obtain ⟨K, hK⟩ : ∃ K, K = cl0 l p := ⟨_, rfl⟩
  have HR : Hid (r = (decide (0 < K) && mk3 (bi l (K - 1)))) := by unfold Hid; rw [hr, hK]; rfl
  have hKp : K ≤ p := by rw [hK]; exact cl0_le l p
  have HK := Hid.mk' hK.symm
  clear hr hK
  have c0 := CB.out p hp
  have h0 : (0 : Int) ≤ (p : Int) := by omega
  have h1 : (p : Int) < (n : Int) := by omega
  have hw : IntKind.i64.wrap ((p : Int) - 1) = (p : Int) - 1 := by rw [IntKind.wrap_i64]; omega
  have C1 := Hid.mk' (blank_any (bi l p) w)
  have hx : (!blk (bi l p) && (bi l p != 10)) = false := by rcases hg with e | e <;> simp [e]
  clear hg
  generalize bi l p = x at *
  generalize hbx : blk x = y at *
  have hy : y = true ∨ (x != 10) = false := by cases y <;> simp_all
  clear hx hbx
  go_enter Tryd.func36, Tryd.ntmps36
  go_wp2_with fail
  refine C1.out.mono ?_
  rintro e w' ⟨rfl, hq⟩
  have hq2 := hq.symm; subst hq2; clear hq
  have key : ∀ z : Bool, y = z → (z = true ∨ (x != 10) = false) := fun z hz => hz ▸ hy
  cases y with
  | true =>
    clear hy key
    go_wp2
    go_loopg [5] p (fun k x5 wx => x5 = .int .i64 ((k : Int) - 1) ∧ k ≤ p ∧ Hid (cl0 l k = K) ∧ w = wx)
    case atStart => exact ⟨rfl, Nat.le_refl _, HK.out, rfl⟩
    case round =>
      obtain ⟨hx5, hkp, HI, rfl⟩ := hrel
      cases gk with
      | zero =>
        rw [show (((0 : Nat) : Int) - 1) = -1 by rfl] at hx5
        subst hx5
        have HF : Hid (r = false) := by unfold Hid; rw [HR.out, ← HI.out]; rfl
        go_wp2
        go_ret
        exact ⟨by rw [HF.out]; rfl, rfl⟩
      | succ k =>
        rw [show (((k + 1 : Nat) : Int) - 1) = (k : Int) by omega] at hx5
        subst hx5
        have k0 : (0 : Int) ≤ (k : Int) := by omega
        have k1 : (k : Int) < (n : Int) := by omega
        have kb : (k : Int) ≤ 140737488355328 := by omega
        have ck := CB.out k (by omega)
        have C2 := Hid.mk' (closing_any (bi l k) w)
        cases hc : clo (bi l k) with
        | true =>
          have HK2 : Hid (cl0 l k = K) := by unfold Hid; have := HI.out; unfold cl0 at this; rw [if_pos hc] at this; exact this
          rw [hc] at C2
          clear hc
          generalize bi l k = z at *
          go_wp2_with (go_at_call 40; refine C2.out.mono ?_; rintro e w' ⟨rfl, hw⟩; have hq := hw.symm; subst hq; clear hw)
          go_roundg k
          case measure => omega
          case rel => exact ⟨by go_num, by omega, HK2.out, rfl⟩
        | false =>
          have HK2 : Hid (k + 1 = K) := by unfold Hid; have := HI.out; unfold cl0 at this; rw [if_neg (by rw [hc]; decide)] at this; exact this
          have HF : Hid (r = mk3 (bi l k)) := by unfold Hid; rw [HR.out, ← HK2.out]; simp
          rw [hc] at C2
          clear hc
          generalize bi l k = z at *
          have HM : Hid (mk3 z = ((z == 46) || (z == 33) || (z == 63))) := rfl
          go_wp2_with (go_at_call 40; refine C2.out.mono ?_; rintro e w' ⟨rfl, hw⟩; have hq := hw.symm; subst hq; clear hw)
          all_goals go_ret
          all_goals (refine ⟨?_, rfl⟩; rw [HF.out, HM.out]; simp_all)
  | false =>
    have hx10 : (x != 10) = false := by rcases hy with e | e; cases e; exact e
    clear hy key
    go_wp2
    go_loopg [5] p (fun k x5 wx => x5 = .int .i64 ((k : Int) - 1) ∧ k ≤ p ∧ Hid (cl0 l k = K) ∧ w = wx)
    case atStart => exact ⟨rfl, Nat.le_refl _, HK.out, rfl⟩
    case round =>
      obtain ⟨hx5, hkp, HI, rfl⟩ := hrel
      cases gk with
      | zero =>
        rw [show (((0 : Nat) : Int) - 1) = -1 by rfl] at hx5
        subst hx5
        have HF : Hid (r = false) := by unfold Hid; rw [HR.out, ← HI.out]; rfl
        go_wp2
        go_ret
        exact ⟨by rw [HF.out]; rfl, rfl⟩
      | succ k =>
        rw [show (((k + 1 : Nat) : Int) - 1) = (k : Int) by omega] at hx5
        subst hx5
        have k0 : (0 : Int) ≤ (k : Int) := by omega
        have k1 : (k : Int) < (n : Int) := by omega
        have kb : (k : Int) ≤ 140737488355328 := by omega
        have ck := CB.out k (by omega)
        have C2 := Hid.mk' (closing_any (bi l k) w)
        cases hc : clo (bi l k) with
        | true =>
          have HK2 : Hid (cl0 l k = K) := by unfold Hid; have := HI.out; unfold cl0 at this; rw [if_pos hc] at this; exact this
          rw [hc] at C2
          clear hc
          generalize bi l k = z at *
          go_wp2_with (go_at_call 40; refine C2.out.mono ?_; rintro e w' ⟨rfl, hw⟩; have hq := hw.symm; subst hq; clear hw)
          go_roundg k
          case measure => omega
          case rel => exact ⟨by go_num, by omega, HK2.out, rfl⟩
        | false =>
          have HK2 : Hid (k + 1 = K) := by unfold Hid; have := HI.out; unfold cl0 at this; rw [if_neg (by rw [hc]; decide)] at this; exact this
          have HF : Hid (r = mk3 (bi l k)) := by unfold Hid; rw [HR.out, ← HK2.out]; simp
          rw [hc] at C2
          clear hc
          generalize bi l k = z at *
          have HM : Hid (mk3 z = ((z == 46) || (z == 33) || (z == 63))) := rfl
          go_wp2_with (go_at_call 40; refine C2.out.mono ?_; rintro e w' ⟨rfl, hw⟩; have hq := hw.symm; subst hq; clear hw)
          all_goals go_ret
          all_goals (refine ⟨?_, rfl⟩; rw [HF.out, HM.out]; simp_all)
end Go.Proofs.YtkapddemgodamaaDoor
