/- The reference's paragraph. -/
import Derived.Test.YtgdhdegmjljbfaaRrw
import Derived.Test.YtgdhdegmjljbfaaRpw
import Derived.Test.YtgdhdegmjljbfaaAwk
namespace Go.Proofs.Ytgdhdegmjljbfaa
open Go.RowKit
theorem stp_congr {R R' : List Rn3} (hl : R.length = R'.length) (hg : ∀ j, gp R j = gp R' j) (ah : Bool) (k : Nat) : stp R ah k = stp R' ah k := by
  unfold stp k2 k1
  simp only [hg, hl]
theorem tak_congr {R R' : List Rn3} (hl : R.length = R'.length) (hg : ∀ j, gp R j = gp R' j) (ah : Bool) : ∀ n k, tak R ah n k = tak R' ah n k
  | 0, _ => rfl
  | n + 1, k => by
    unfold tak
    rw [stp_congr hl hg]
    cases stp R' ah k with
    | none => rfl
    | some k' => exact tak_congr hl hg ah n k'
theorem cho_congr {R R' : List Rn3} (hl : R.length = R'.length) (hg : ∀ j, gp R j = gp R' j) (i n : Nat) (a : Bool) : cho R i n a = cho R' i n a := by
  unfold cho aro inn aw1
  simp only [hg, hl, tak_congr hl hg]
theorem pr9_ix (l : List UInt8) (p : Nat) (hp : p ≤ l.length) : ix (pr9 l) (nl (l.take p)) = ix (pl l) p ∧ ix (pl l) p < rm (ek l) (nl l + 1) ∧ rf (ek l) (nl l + 1) (ix (pl l) p) ≤ nl (l.take p) := by
  have hx0 : nl (l.take p) ≤ nl l := nl_take_le l p
  have hsp := sp_of l p hp
  have hbl := bg_le l p
  have hpe := place_en (t := l) (i := p) hp
  obtain ⟨i0, r1, r2, r3⟩ := run_of (K := ek l) (n := nl l + 1) (q := nl (l.take p)) (by omega)
  have hle := (run_at r1).le
  have f1 : ls9 l (nl (l.take p)) = bg l p := by unfold ls9; rw [if_pos hx0, hsp]
  have f2 : p < ls9 l (nl (l.take p) + 1) := by
    rw [ls9_next hx0, f1, ln_length hx0, hsp]
    have := en_ge l (bg l p)
    omega
  have h1 : ix (pl l) p = i0 := ix_run (ls9_up l) r1 (by have := ls9_up l _ _ r2 (by omega); omega) (by have := ls9_up l _ _ (show nl (l.take p) + 1 ≤ re (ek l) (nl l + 1) i0 by omega) hle; omega)
  have h2 : ix (pr9 l) (nl (l.take p)) = i0 := ix_run (fun x y h _ => h) r1 r2 r3
  rw [h1, h2]
  exact ⟨rfl, r1, r2⟩
theorem pr9_gp (l : List UInt8) (j : Nat) : gp (pr9 l) j = gp (pl l) j := by
  have e1 : gp (pr9 l) j = (decide (j < rm (ek l) (nl l + 1)) && eg l (rf (ek l) (nl l + 1) j)) := rl_gp ..
  have e2 : gp (pl l) j = (decide (j < rm (ek l) (nl l + 1)) && eg l (rf (ek l) (nl l + 1) j)) := rl_gp ..
  rw [e1, e2]
/-- what p chooses, by lines -/
def pp (l : List UInt8) (k n : Nat) (a : Bool) : Option (Nat × Nat) := cx (pr9 l) (ix (pr9 l) (nl (l.take k))) n a
theorem sel_p (l : List UInt8) (k n : Nat) (a : Bool) (hk : k ≤ l.length) (hn : 1 ≤ n) : (pp l k n a = none ∧ sel l k n 112 a = tg 0 0 0 130) ∨ ∃ u v, pp l k n a = some (u, v) ∧ u ≤ nl l ∧ 1 ≤ v ∧ v - 1 ≤ nl l ∧ sel l k n 112 a = tg (sp l u : Int) (sp l (v - 1) : Int) 3 0 := by
  obtain ⟨h1, h2, _⟩ := pr9_ix l k hk
  have hl : (pr9 l).length = (pl l).length := by
    have e1 : (pr9 l).length = rm (ek l) (nl l + 1) := rl_len ..
    have e2 : (pl l).length = rm (ek l) (nl l + 1) := rl_len ..
    rw [e1, e2]
  have hc := cho_congr hl (pr9_gp l) (ix (pl l) k) n a
  have e : pp l k n a = (cho (pl l) (ix (pl l) k) n a).map fun x => (fr (pr9 l) x.1, tt (pr9 l) (x.2 - 1)) := by
    unfold pp cx; rw [h1, hc]
  have eb : bnd l k n 112 a = (cho (pl l) (ix (pl l) k) n a).map fun x => (fr (pl l) x.1, tt (pl l) (x.2 - 1)) := rfl
  cases hb : bnd l k n 112 a with
  | none =>
    left
    refine ⟨?_, by unfold sel; rw [hb]⟩
    rw [eb] at hb
    rw [e]
    cases hq : cho (pl l) (ix (pl l) k) n a with
    | none => rfl
    | some x => rw [hq] at hb; cases hb
  | some x =>
    right
    obtain ⟨A, B, c1, c2, c3, c4, c5, c6, c7, c8⟩ := p_lines hn hb
    have hA : fr (pr9 l) A = rf (ek l) (nl l + 1) A := rl_fr _ _ (by omega)
    have hB : tt (pr9 l) (B - 1) = re (ek l) (nl l + 1) (B - 1) := rl_tt _ _ (by omega)
    have hup := (run_at (K := ek l) (n := nl l + 1) (j := B - 1) (by omega)).up
    refine ⟨rf (ek l) (nl l + 1) A, re (ek l) (nl l + 1) (B - 1), ?_, by omega, by omega, c8, ?_⟩
    · rw [e, c1]; simp only [Option.map_some]; rw [hA, hB]
    · unfold sel; rw [hb]; simp only [if_true]; rw [c5, c6]
theorem rof_at {ao : Option Addr} {n c k : Nat} {l : List UInt8} {w : World} (hk : k ≤ n) (HT : Hid (Tx w ao n c l)) :
    Calls Try.prog 16 #[.slice ao n c, .int .i64 (k : Int)] w fun e w' => e = .returned (.tuple #[.int .i64 (nl (l.take k) : Int), .int .i64 0]) ∧ w' = w := by
  have := refOf_any ao n c (k : Int) l w HT
  have hb : plB l (k : Int) = true := decide_eq_true (by have := HT.out.len; omega)
  have e : pr (aOf l (k : Int)) = .returned (.tuple #[.int .i64 (nl (l.take k) : Int), .int .i64 0]) := by unfold pr aOf ans; rw [hb]; rfl
  rwa [e] at this
theorem rstart_at {ao : Option Addr} {n c k : Nat} {l : List UInt8} {w : World} (hk : k ≤ nl l) (HT : Hid (Tx w ao n c l)) :
    Calls Try.prog 17 #[.slice ao n c, .int .i64 (k : Int)] w fun e w' => e = .returned (.tuple #[.int .i64 (sp l k : Int), .int .i64 0]) ∧ w' = w := by
  have hn := nl_le l
  have hl := HT.out.len
  have hb := HT.out.big
  have := refStart_any ao n c (k : Int) l w (by omega) HT
  have hb : lnB l (k : Int) = true := decide_eq_true (by omega)
  have e : pr (aStart l (k : Int)) = .returned (.tuple #[.int .i64 (sp l k : Int), .int .i64 0]) := by unfold pr aStart ans; rw [hb]; rfl
  rwa [e] at this
theorem rend_at {ao : Option Addr} {n c k : Nat} {l : List UInt8} {w : World} (hk : k ≤ nl l) (HT : Hid (Tx w ao n c l)) :
    Calls Try.prog 18 #[.slice ao n c, .int .i64 (k : Int)] w fun e w' => e = .returned (.tuple #[.int .i64 (en l (sp l k) : Int), .int .i64 0]) ∧ w' = w := by
  have hn := nl_le l
  have hl := HT.out.len
  have hb := HT.out.big
  have := refEnd_any ao n c (k : Int) l w (by omega) HT
  have hb : lnB l (k : Int) = true := decide_eq_true (by omega)
  have e : pr (aEnd l (k : Int)) = .returned (.tuple #[.int .i64 (en l (sp l k) : Int), .int .i64 0]) := by unfold pr aEnd ans; rw [hb]; rfl
  rwa [e] at this
end Go.Proofs.Ytgdhdegmjljbfaa
