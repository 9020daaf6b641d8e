/- The contract of quoinref10's begins. -/
import Derived.Test.YtkapddemgodamaaDoorRsm
namespace Go.Proofs.YtkapddemgodamaaDoor
open Go.RowKit

def gab (b : Int) : Bool := blk b || (b == 10)
/-- does a sentence begin at b, seen from the place p of the gap ahead of it -/
def bgr (l : List UInt8) (b : Nat) : Nat → Bool
  | 0 => true
  | p + 1 => if gab (bi l p) = true then (if bi l p = 10 ∧ (p = 0 ∨ bi l (p - 1) = 10) then true else bgr l b p) else decide (p + 1 < b) && fin l (p + 1)

set_option maxHeartbeats 8000000 in
theorem begins_any {ao : Option Addr} {n c b : Nat} {l : List UInt8} {w : World} (hb : b < n) (HT : Hid (Tx w ao n c l)) :
    Calls Tryd.prog 29 #[.slice ao n c, .int .i64 b] w fun e w' => e = .returned (.bool (bgr l b b)) ∧ w' = w := by
  have hl := HT.out.len
  have hbig := HT.out.big
  obtain ⟨g, o, rfl, hcl⟩ := HT.out.at (by omega)
  clear hcl
  have CB : Hid (∀ j, j < n → w.cell? ⟨g, o + j, none⟩ = some (.int .u8 (bi l j))) := fun j hj => cell_bi' HT.out hj
  obtain ⟨r, hr⟩ : ∃ r, r = bgr l b b := ⟨_, rfl⟩
  rw [← hr]
  have HR := Hid.mk' hr.symm
  clear hr
  go_enter Tryd.func29, Tryd.ntmps29
  go_wp2
  go_loopg [5] b (fun k x5 wx => x5 = .int .i64 (k : Int) ∧ k ≤ b ∧ Hid (k < b → gab (bi l k) = true) ∧ Hid (bgr l b k = r) ∧ w = wx)
  case atStart => exact ⟨rfl, Nat.le_refl _, fun h => by omega, HR.out, rfl⟩
  case round =>
    obtain ⟨rfl, hkb, HGA, HI, rfl⟩ := hrel
    cases gk with
    | zero =>
      have HF : Hid (r = true) := HI.out.symm
      clear HI
      go_wp2
      go_ret
      exact ⟨by rw [HF.out]; rfl, rfl⟩
    | succ k =>
      have ck := CB.out k (by omega)
      have k0 : (0 : Int) ≤ (k : Int) := by omega
      have k1 : (k : Int) < (n : Int) := by omega
      have kp : (0 : Int) < ((k + 1 : Nat) : Int) := by omega
      have hw1 : IntKind.i64.wrap (((k + 1 : Nat) : Int) - 1) = (k : Int) := by rw [IntKind.wrap_i64]; omega
      have kz : (((k + 1 : Nat) : Int) == 0) = false := by simp; omega
      have C1 := Hid.mk' (blank_any (bi l k) w)
      have HJ := HI.out
      unfold bgr at HJ
      cases hgk : gab (bi l k) with
      | false =>
        rw [if_neg (by rw [hgk]; decide)] at HJ
        have hb1 : blk (bi l k) = false := by unfold gab at hgk; cases h : blk (bi l k) <;> simp_all
        have hb2 : (bi l k == 10) = false := by unfold gab at hgk; cases h : (bi l k == 10) <;> simp_all
        rw [hb1] at C1
        clear hgk hb1
        by_cases hlt : k + 1 < b
        · have hlt' : ((k + 1 : Nat) : Int) < (b : Int) := by omega
          have hgn := HGA.out hlt
          have C2 := Hid.mk' (finished_any (p := k + 1) (by omega) (by unfold gab at hgn; rw [Bool.or_eq_true, beq_iff_eq] at hgn; exact hgn) HT)
          have HF : Hid (r = fin l (k + 1)) := by unfold Hid; rw [← HJ]; simp [hlt]
          clear HJ hgn hlt
          generalize fin l (k + 1) = z at *
          generalize bi l k = y at *
          generalize k + 1 = k2 at *
          go_wp2_with (first | (go_at_call 28; refine C1.out.mono ?_; rintro e w' ⟨rfl, hw⟩; have hq := hw.symm; subst hq; clear hw) | (go_at_call 36; refine C2.out.mono ?_; rintro e w' ⟨rfl, hw⟩; have hq := hw.symm; subst hq; clear hw))
          go_ret
          exact ⟨by rw [HF.out]; rfl, rfl⟩
        · have hlt' : ¬ (((k + 1 : Nat) : Int) < (b : Int)) := by omega
          have HF : Hid (r = false) := by unfold Hid; rw [← HJ]; simp [hlt]
          clear HJ hlt
          generalize bi l k = y at *
          generalize k + 1 = k2 at *
          go_wp2_with (first | (go_at_call 28; refine C1.out.mono ?_; rintro e w' ⟨rfl, hw⟩; have hq := hw.symm; subst hq; clear hw) | fail)
          go_ret
          exact ⟨by rw [HF.out]; rfl, rfl⟩
      | true =>
        rw [if_pos hgk] at HJ
        have HGK := Hid.mk' hgk
        have hor : blk (bi l k) = true ∨ (bi l k == 10) = true := by unfold gab at hgk; rw [Bool.or_eq_true] at hgk; exact hgk
        clear hgk
        by_cases h10 : bi l k = 10
        · have e10 : (bi l k == 10) = true := by simp [h10]
          rcases Nat.eq_zero_or_pos k with hk0 | hk0
          · rw [if_pos ⟨h10, .inl hk0⟩] at HJ
            have HF := Hid.mk' HJ.symm
            have kz2 : ((k : Int) == 0) = true := by simp; omega
            clear HJ h10 hk0
            generalize blk (bi l k) = y2 at *
            generalize bi l k = y at *
            generalize k + 1 = k2 at *
            cases y2
            · go_wp2_with (first | (go_at_call 28; refine C1.out.mono ?_; rintro e w' ⟨rfl, hw⟩; have hq := hw.symm; subst hq; clear hw) | fail)
              go_ret
              exact ⟨by rw [HF.out]; rfl, rfl⟩
            · go_wp2_with (first | (go_at_call 28; refine C1.out.mono ?_; rintro e w' ⟨rfl, hw⟩; have hq := hw.symm; subst hq; clear hw) | fail)
              go_ret
              exact ⟨by rw [HF.out]; rfl, rfl⟩
          · have cp := CB.out (k - 1) (by omega)
            have p0 : (0 : Int) ≤ ((k - 1 : Nat) : Int) := by omega
            have p1 : ((k - 1 : Nat) : Int) < (n : Int) := by omega
            have hw2 : IntKind.i64.wrap ((k : Int) - 1) = ((k - 1 : Nat) : Int) := by rw [IntKind.wrap_i64]; omega
            have kz2 : ((k : Int) == 0) = false := by simp; omega
            by_cases hp10 : bi l (k - 1) = 10
            · rw [if_pos ⟨h10, .inr hp10⟩] at HJ
              have HF := Hid.mk' HJ.symm
              have ep : (bi l (k - 1) == 10) = true := by simp [hp10]
              clear HJ h10 hk0 hp10
              generalize bi l (k - 1) = yp at *
              generalize blk (bi l k) = y2 at *
              generalize bi l k = y at *
              generalize k + 1 = k2 at *
              generalize k - 1 = k3 at *
              cases y2
              · go_wp2_with (first | (go_at_call 28; refine C1.out.mono ?_; rintro e w' ⟨rfl, hw⟩; have hq := hw.symm; subst hq; clear hw) | fail)
                go_ret
                exact ⟨by rw [HF.out]; rfl, rfl⟩
              · go_wp2_with (first | (go_at_call 28; refine C1.out.mono ?_; rintro e w' ⟨rfl, hw⟩; have hq := hw.symm; subst hq; clear hw) | fail)
                go_ret
                exact ⟨by rw [HF.out]; rfl, rfl⟩
            · have HK : Hid (bgr l b k = r) := by
                unfold Hid; rw [if_neg (by rintro ⟨_, e | e⟩; omega; exact hp10 e)] at HJ; exact HJ
              have ep : (bi l (k - 1) == 10) = false := by simp [hp10]
              clear HJ h10 hk0 hp10
              generalize bi l (k - 1) = yp at *
              generalize hy2 : blk (bi l k) = y2 at *
              clear hy2
              generalize hy : bi l k = y at *
              have HY := Hid.mk' hy
              clear hy
              generalize hk2 : k + 1 = k2 at *
              have HK2 := Hid.mk' hk2
              clear hk2
              generalize k - 1 = k3 at *
              cases y2
              · go_wp2_with (first | (go_at_call 28; refine C1.out.mono ?_; rintro e w' ⟨rfl, hw⟩; have hq := hw.symm; subst hq; clear hw) | fail)
                go_roundg k
                case measure => have := HK2.out; omega
                case rel => exact ⟨rfl, (by have := HK2.out; omega), fun _ => (by rw [HY.out]; exact HGK.out), HK.out, rfl⟩
              · go_wp2_with (first | (go_at_call 28; refine C1.out.mono ?_; rintro e w' ⟨rfl, hw⟩; have hq := hw.symm; subst hq; clear hw) | fail)
                go_roundg k
                case measure => have := HK2.out; omega
                case rel => exact ⟨rfl, (by have := HK2.out; omega), fun _ => (by rw [HY.out]; exact HGK.out), HK.out, rfl⟩
        · have e10 : (bi l k == 10) = false := by simp [h10]
          have hbl : blk (bi l k) = true := by rcases hor with e | e; exact e; rw [e10] at e; cases e
          have HK : Hid (bgr l b k = r) := by unfold Hid; rw [if_neg (by rintro ⟨e, _⟩; exact h10 e)] at HJ; exact HJ
          rw [hbl] at C1
          clear HJ h10 hbl hor
          generalize hy : bi l k = y at *
          have HY := Hid.mk' hy
          clear hy
          generalize hk2 : k + 1 = k2 at *
          have HK2 := Hid.mk' hk2
          clear hk2
          go_wp2_with (first | (go_at_call 28; refine C1.out.mono ?_; rintro e w' ⟨rfl, hw⟩; have hq := hw.symm; subst hq; clear hw) | fail)
          go_roundg k
          case measure => have := HK2.out; omega
          case rel => exact ⟨rfl, (by have := HK2.out; omega), fun _ => (by rw [HY.out]; exact HGK.out), HK.out, rfl⟩
end Go.Proofs.YtkapddemgodamaaDoor
