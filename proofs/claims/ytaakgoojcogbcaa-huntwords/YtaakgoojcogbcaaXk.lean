/- passFree. -/
import Derived.Test.YtaakgoojcogbcaaFre
namespace Go.Proofs.Ytaakgoojcogbcaa
open Go.RowKit
/-- the first k things were passed -/
def pv (l : List Th) (line : List UInt8) (p : Nat) (g : Nat → Nat) (k i : Nat) : Nat := if i ≤ k then Pn l line p g i else g i
theorem pv_next {l : List Th} {line : List UInt8} {p : Nat} {g : Nat → Nat} {k : Nat} (h : fr line (th l k) p = false ∨ (Pn l line p g k = N0 ∧ g (k + 1) ≤ N0)) : pv l line p g (k + 1) = pv l line p g k := by
  funext i
  unfold pv
  by_cases h1 : i ≤ k
  · rw [if_pos h1, if_pos (by omega)]
  · rw [if_neg h1]
    by_cases h2 : i ≤ k + 1
    · rw [if_pos h2]
      have : i = k + 1 := by omega
      subst this
      unfold Pn
      rcases h with h | ⟨h, h'⟩
      · rw [if_neg (by rw [h]; decide)]
      · split
        · rw [h]; omega
        · rfl
    · rw [if_neg h2]
theorem pv_store {l : List Th} {line : List UInt8} {p : Nat} {g : Nat → Nat} {k : Nat} (h : fr line (th l k) p = true) : pv l line p g (k + 1) = fun i => if i = k + 1 then min (g (k + 1)) (Pn l line p g k) else pv l line p g k i := by
  funext i
  unfold pv
  by_cases h1 : i ≤ k
  · rw [if_pos h1, if_pos (by omega), if_neg (by omega)]
  · rw [if_neg h1]
    by_cases h2 : i = k + 1
    · subst h2
      rw [if_pos (Nat.le_refl _), if_pos rfl]
      conv => lhs; unfold Pn
      rw [if_pos h]
    · rw [if_neg (by omega), if_neg h2]

set_option maxRecDepth 8000 in
set_option maxHeartbeats 8000000 in
theorem pass_any (w W0 W : World) (Sb gb gn : Nat) (at_ : Option Addr) (ct : Nat) (ao : Option Addr) (nl cl : Nat) (l : List Th) (g h : Nat → Nat) (line : List UInt8) (p : Nat) (hp : p ≤ nl) (hl : l.length ≤ 256) (hg : Hid (∀ k, g k ≤ N0)) (HTh : Hid (Ths w at_ l)) (HT : Hid (Tx w ao nl cl line)) (H : Hid (Se w W0 W Sb gb gn at_ ct ao nl cl l g h)) :
    Calls Try.prog 56 #[.pointer (some ⟨Sb, 0, none⟩), .int .i64 (p : Int)] W fun e W' => e = .returned (.tuple #[]) ∧ Se w W0 W' Sb gb gn at_ ct ao nl cl l (Pn l line p g) h := by
  have c0 : W.cell? ⟨Sb, 0, none⟩ = some (.slice at_ l.length ct) := H.out.blk.cell (j := 0) rfl
  go_enter Try.func56, Try.ntmps56
  go_wp2_with fail
  go_loopg [4, 5, 11] l.length (fun m x4 x5 x11 wx => ∃ k : Nat, x11 = .int .i64 (k : Int) ∧ k + m = l.length ∧ Hid (Se w W0 wx Sb gb gn at_ ct ao nl cl l (pv l line p g k) h))
  case atStart =>
    refine ⟨0, rfl, by omega, ?_⟩
    have : pv l line p g 0 = g := by
      funext i; unfold pv
      by_cases h1 : i ≤ 0
      · rw [if_pos h1]; have : i = 0 := by omega
        subst this; rfl
      · rw [if_neg h1]
    rw [this]; exact H.out
  case round =>
    obtain ⟨k, rfl, hk, HS⟩ := hrel
    cases gk with
    | zero =>
      have hkn : ¬ ((k : Int) < (l.length : Int)) := by omega
      go_wp2
      refine bodyPost_end (v := .tuple #[]) (by simp [results, Try.results56]) rfl ⟨rfl, ?_⟩
      have s := HS.out
      exact ⟨s.bel, s.lowS, s.lowB, s.lowN, s.ne, s.blk, s.ws, s.oth, by rw [nva_congr (h := pv l line p g k) (fun i hi => by unfold pv; rw [if_pos (by omega)])]; exact s.bg, s.nx⟩
    | succ m =>
      have hkn : (k : Int) < (l.length : Int) := by omega
      have hl2 : (l.length : Int) ≤ 256 := by omega
      obtain ⟨gt, e1, hct⟩ := HTh.out k (by omega)
      subst e1
      have ct1 := keepC HS.out.bel hct
      have b1 : wr.cell? ⟨Sb, 1, none⟩ = some (.slice ao nl cl) := HS.out.blk.cell (j := 1) rfl
      have b2 : wr.cell? ⟨Sb, 2, none⟩ = some (.slice (some ⟨gb, 0, none⟩) (l.length + 1) (l.length + 1)) := HS.out.blk.cell (j := 2) rfl
      have r0 := HS.out.bg.cell (nva_at _ (j := k) (by omega))
      have r1 := HS.out.bg.cell (nva_at _ (j := k + 1) (by omega))
      have z1 := HS.out.bg.frozen (k + 1)
      rw [show pv l line p g k k = Pn l line p g k by unfold pv; rw [if_pos (Nat.le_refl _)]] at r0
      rw [show pv l line p g k (k + 1) = g (k + 1) by unfold pv; rw [if_neg (by omega)]] at r1
      have CF := Hid.mk' (free_any wr Sb ao nl cl line p (th l k) hp (HT.out.keep HS.out.bel) b1)
      obtain ⟨x, HX⟩ : ∃ x, Hid (Pn l line p g k = x) := ⟨_, rfl⟩
      obtain ⟨y, HY⟩ : ∃ y, Hid (g (k + 1) = y) := ⟨_, rfl⟩
      obtain ⟨F, HF⟩ : ∃ F, Hid (fr line (th l k) p = F) := ⟨_, rfl⟩
      rw [HX.out] at r0
      rw [HY.out] at r1
      rw [HF.out] at CF
      generalize env (th l k) = E at *
      clear hct
      have hk1 : (k : Int) + 1 < (l.length : Int) + 1 := by omega
      have hk2 : ((k : Int) + 1).toNat = k + 1 := by omega
      have hk3 : (k : Int) < (l.length : Int) + 1 := by omega
      by_cases hx : x = N0
      · have hx' : ((x : Int) != 9223372036854775807) = false := by rw [hx]; rfl
        have HP : Hid (pv l line p g (k + 1) = pv l line p g k) := pv_next (.inr ⟨by rw [HX.out, hx], hg.out _⟩)
        clear hx
        go_wp2
        go_roundg m
        case measure => omega
        case rel => exact ⟨k + 1, by go_num, by omega, by rw [HP.out]; exact HS.out⟩
      · have hx' : ((x : Int) != 9223372036854775807) = true := by
          have : (x : Int) ≠ 9223372036854775807 := fun e => hx (by unfold N0; omega)
          simpa using this
        cases F with
        | false =>
          have HP : Hid (pv l line p g (k + 1) = pv l line p g k) := pv_next (.inl HF.out)
          go_wp2_with (go_at_call 84; refine CF.out.mono ?_; rintro e w' ⟨rfl, hw⟩; subst hw)
          go_roundg m
          case measure => omega
          case rel => exact ⟨k + 1, by go_num, by omega, by rw [HP.out]; exact HS.out⟩
        | true =>
          have HP := Hid.mk' (pv_store (l := l) (line := line) (p := p) (g := g) (k := k) HF.out)
          rw [HX.out, HY.out] at HP
          go_wp2_with (go_at_call 84; refine CF.out.mono ?_; rintro e w' ⟨rfl, hw⟩; subst hw)
          go_region
          go_wp2
          go_roundg m
          case measure => omega
          case rel =>
            rw [show min (y : Int) (x : Int) = ((min y x : Nat) : Int) by omega]
            exact ⟨k + 1, by go_num, by omega, by rw [HP.out]; exact (HS.out.setB (k + 1) (min y x)).keep (Below.refl _ _).drew⟩
end Go.Proofs.Ytaakgoojcogbcaa
/- mayBetter. -/
namespace Go.Proofs.Ytaakgoojcogbcaa
open Go.RowKit
/-- is one of the first n at most a? -/
def mb (g : Nat → Nat) (a : Nat) : Nat → Bool
  | 0 => false
  | n + 1 => mb g a n || decide (g n ≤ a)
theorem mb_false {g : Nat → Nat} {a : Nat} : ∀ {n : Nat}, mb g a n = false → ∀ k, k < n → a < g k
  | 0, _, k, hk => by omega
  | n + 1, h, k, hk => by
    unfold mb at h
    rw [Bool.or_eq_false_iff] at h
    by_cases e : k = n
    · subst e; have := h.2; simp at this; omega
    · exact mb_false h.1 k (by omega)
theorem mb_true {g : Nat → Nat} {a k : Nat} : ∀ {n : Nat}, k < n → g k ≤ a → mb g a n = true
  | 0, hk, _ => by omega
  | n + 1, hk, h => by
    unfold mb
    rw [Bool.or_eq_true]
    by_cases e : k = n
    · subst e; exact .inr (by simpa using h)
    · exact .inl (mb_true (by omega) h)
set_option maxRecDepth 8000 in
set_option maxHeartbeats 8000000 in
theorem may_any (w W0 W : World) (Sb gb gn : Nat) (at_ : Option Addr) (ct : Nat) (ao : Option Addr) (nl cl : Nat) (l : List Th) (g h : Nat → Nat) (a : Nat) (hl : l.length ≤ 256) (H : Hid (Se w W0 W Sb gb gn at_ ct ao nl cl l g h)) :
    Calls Try.prog 57 #[.pointer (some ⟨Sb, 0, none⟩), .int .i64 (a : Int)] W fun e W' => e = .returned (.bool (mb g a l.length)) ∧ Below W.heap.size W W' := by
  have c0 : W.cell? ⟨Sb, 0, none⟩ = some (.slice at_ l.length ct) := H.out.blk.cell (j := 0) rfl
  have c2 : W.cell? ⟨Sb, 2, none⟩ = some (.slice (some ⟨gb, 0, none⟩) (l.length + 1) (l.length + 1)) := H.out.blk.cell (j := 2) rfl
  have hl2 : (l.length : Int) ≤ 256 := by omega
  have hl3 : (l.length : Int) ≤ (l.length : Int) + 1 := by omega
  obtain ⟨R, HR⟩ : ∃ R, Hid (mb g a l.length = R) := ⟨_, rfl⟩
  go_enter Try.func57, Try.ntmps57
  go_wp2_with fail
  go_quiet (fail)
  go_wp2_with fail
  go_loopg [6, 18] l.length (fun m x6 x18 wx => ∃ k : Nat, x18 = .int .i64 (k : Int) ∧ k + m = l.length ∧ Hid (Below W.heap.size W wx) ∧ Hid (mb g a k = false))
  case atStart => exact ⟨0, rfl, by omega, bDrewN _ _, rfl⟩
  case round =>
    obtain ⟨k, rfl, hk, HB, HM⟩ := hrel
    cases gk with
    | zero =>
      have hkn : ¬ ((k : Int) < (l.length : Int)) := by omega
      have HRR : Hid (mb g a l.length = false) := by unfold Hid; rw [← show k = l.length by omega]; exact HM.out
      go_wp2
      go_ret
      exact ⟨by rw [HRR.out]; rfl, HB.out⟩
    | succ m =>
      have hkn : (k : Int) < (l.length : Int) := by omega
      have r0 := keepC HB.out (H.out.bg.cell (nva_at _ (j := k) (by omega)))
      by_cases hx : g k ≤ a
      · have hx' : (g k : Int) ≤ (a : Int) := by omega
        have HRR : Hid (mb g a l.length = true) := mb_true (k := k) (by omega) hx
        go_wp2
        go_ret
        exact ⟨by rw [HRR.out]; rfl, HB.out⟩
      · have hx' : ¬ ((g k : Int) ≤ (a : Int)) := by omega
        have HMM : Hid (mb g a (k + 1) = false) := by unfold Hid mb; rw [HM.out, decide_eq_false hx]; rfl
        go_wp2
        go_roundg m
        case measure => omega
        case rel => exact ⟨k + 1, by go_num, by omega, HB.out, HMM.out⟩
end Go.Proofs.Ytaakgoojcogbcaa
