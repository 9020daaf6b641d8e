/- extent.exclusive and extent.inclusive. -/
import Derived.Test.YtbknnicpdkpmiaaBla
namespace Go.Proofs.Ytbknnicpdkpmiaa
open Go.RowKit

set_option maxRecDepth 8000
/-- an exclusive target, a at most b -/
def exR (l : List UInt8) (a b : Nat) : Rg := if a = b ∨ le (at8 l (b - 1)) = false then ⟨a, b, false, false, 0⟩ else if ba l a = true then lo l a (b - 1) else ⟨a, (b : Int) - 1, false, false, 0⟩
/-- an inclusive target -/
def inR (l : List UInt8) (a b : Nat) : Rg := if b = l.length ∨ le (at8 l b) = true then ⟨a, b, false, false, 0⟩ else ⟨a, (b : Int) + 1, false, false, 0⟩
theorem isLE_at {ao : Option Addr} {n c k : Nat} {l : List UInt8} {w : World} (hk : k < n) (HT : Hid (Tx w ao n c l)) :
    Calls Try.prog 30 #[.slice ao n c, .int .i64 (k : Int)] w fun e w' => e = .returned (.bool (le (at8 l k))) ∧ w' = w := by
  have := isLE_any ao n c (k : Int) l w HT
  have e : leB l (k : Int) = le (at8 l k) := by unfold leB; rw [decide_eq_true (by have := HT.out.len; omega)]; rfl
  rwa [e] at this
set_option maxHeartbeats 1000000 in
theorem exclusive_any (ao : Option Addr) (n c a b : Nat) (l : List UInt8) (w : World) (hab : a ≤ b) (hb : b ≤ n) (HT : Hid (Tx w ao n c l)) :
    Calls Try.prog 25 #[.slice ao n c, .int .i64 (a : Int), .int .i64 (b : Int)] w fun e w' => e = rt (exR l a b) ∧ Below w.heap.size w w' := by
  have hbig : (n : Int) ≤ 140737488355328 := by have := HT.out.big; omega
  have B0 := Hid.mk' (bAlloc (Below.refl _ w) (.cells #[.int .i64 0, .int .i64 0, .bool false, .bool false] 27))
  by_cases he : a = b
  · subst he
    have HR : Hid (exR l a a = ⟨a, a, false, false, 0⟩) := if_pos (.inl rfl)
    go_enter Try.func25, Try.ntmps25
    go_wp2
    all_goals exact bodyPost_ret (v := .tuple #[.agg #[.int .i64 ((a : Int)), .int .i64 ((a : Int)), .bool false, .bool false], .int .i64 0]) (by simp [results, Try.results25, go_sem]) rfl ⟨by rw [HR.out]; rfl, bAlloc (Below.refl _ _) _⟩
  · obtain ⟨B, rfl⟩ : ∃ B, b = B + 1 := ⟨b - 1, by omega⟩
    have e1 : ((B + 1 : Nat) : Int) = (B : Int) + 1 := by omega
    have e2 : (B : Int) + 1 - 1 = (B : Int) := by omega
    have hne : ((a : Int) == (B : Int) + 1) = false := by simp; omega
    have hne2 : ¬ (a : Int) = (B : Int) + 1 := by omega
    have HL := Hid.mk' (isLE_at (w := w.alloc (.cells #[.int .i64 0, .int .i64 0, .bool false, .bool false] 27)) (k := B) hb (HT.out.keep B0.out))
    have HA := Hid.mk' (blankAhead_any ao n c a l (w.alloc (.cells #[.int .i64 0, .int .i64 0, .bool false, .bool false] 27)) (by omega) (HT.out.keep B0.out))
    have HO := Hid.mk' (linesOf_any ao n c a B l (w.alloc (.cells #[.int .i64 0, .int .i64 0, .bool false, .bool false] 27)) (by omega) (by omega) (HT.out.keep B0.out))
    have hBb : (B : Int) + 1 ≤ n := by omega
    unfold rt at HO
    rw [e1]
    have HX : Hid (exR l a (B + 1) = if le (at8 l B) = false then ⟨a, (B : Int) + 1, false, false, 0⟩ else if ba l a = true then lo l a B else ⟨a, (B : Int), false, false, 0⟩) := by
      unfold Hid exR
      simp only [he, false_or, Nat.add_sub_cancel, e1, e2]
    generalize lo l a B = R at *
    obtain ⟨F, T, L, D, E⟩ := R
    dsimp only at HO
    clear hab he
    cases hl : le (at8 l B) with
    | false =>
      rw [hl] at HL
      rw [hl, if_pos rfl] at HX
      clear hl
      go_enter Try.func25, Try.ntmps25
      go_wp2_with (go_at_call 30; refine (HL.out).mono ?_; rintro e w' ⟨rfl, hw⟩; have hq := hw.symm; subst hq; clear hw)
      all_goals exact bodyPost_ret (v := .tuple #[.agg #[.int .i64 ((a : Int)), .int .i64 ((B : Int) + 1), .bool false, .bool false], .int .i64 0]) (by simp [results, Try.results25, go_sem]) rfl ⟨by rw [HX.out]; rfl, bAlloc (Below.refl _ _) _⟩
    | true =>
      rw [hl] at HL
      rw [hl, if_neg (by simp)] at HX
      clear hl
      cases hq : ba l a with
      | false =>
        rw [hq] at HA
        rw [hq, if_neg (by simp)] at HX
        clear hq
        go_enter Try.func25, Try.ntmps25
        go_wp2_with (first | (go_at_call 30; refine (HL.out).mono ?_; rintro e w' ⟨rfl, hw⟩; have hq := hw.symm; subst hq; clear hw) | (go_at_call 35; refine (HA.out).mono ?_; rintro e w' ⟨rfl, hw⟩; have hq := hw.symm; subst hq; clear hw))
        all_goals exact bodyPost_ret (v := .tuple #[.agg #[.int .i64 ((a : Int)), .int .i64 ((B : Int)), .bool false, .bool false], .int .i64 0]) (by simp [results, Try.results25, go_sem]) rfl ⟨by rw [HX.out]; rfl, bAlloc (Below.refl _ _) _⟩
      | true =>
        rw [hq] at HA
        rw [hq, if_pos rfl] at HX
        clear hq
        go_enter Try.func25, Try.ntmps25
        go_wp2_with (first | (go_at_call 30; refine (HL.out).mono ?_; rintro e w' ⟨rfl, hw⟩; have hq := hw.symm; subst hq; clear hw) | (go_at_call 35; refine (HA.out).mono ?_; rintro e w' ⟨rfl, hw⟩; have hq := hw.symm; subst hq; clear hw) | (go_at_call 24; refine HO.out.mono ?_; rintro e w3 ⟨rfl, hb3⟩; have B3 := Hid.mk' (bT B0.out hb3); obtain ⟨k0, k1, k2, k3, f0, f1, f2, f3, hz⟩ := rg_cells hb3; clear hb3))
        all_goals exact bodyPost_ret (v := .tuple #[.agg #[.int .i64 (F), .int .i64 (T), .bool L, .bool D], .int .i64 E]) (by simp [results, Try.results25, go_sem, k0, k1, k2, k3]) rfl ⟨by rw [HX.out]; rfl, bset4 B3.out _ _ _ _⟩

/-- a range as a call gives it, without an error -/
def r1 (r : Rg) : Ending := .returned (.agg #[.int .i64 r.F, .int .i64 r.T, .bool r.L, .bool r.D])
set_option maxHeartbeats 1000000 in
theorem inclusive_any (ao : Option Addr) (n c a b : Nat) (l : List UInt8) (w : World) (hb : b ≤ n) (HT : Hid (Tx w ao n c l)) :
    Calls Try.prog 26 #[.slice ao n c, .int .i64 (a : Int), .int .i64 (b : Int)] w fun e w' => e = r1 (inR l a b) ∧ Below w.heap.size w w' := by
  have hbig : (n : Int) ≤ 140737488355328 := by have := HT.out.big; omega
  have hlen := HT.out.len
  have B0 := Hid.mk' (bAlloc (Below.refl _ w) (.cells #[.int .i64 0, .int .i64 0, .bool false, .bool false] 27))
  by_cases he : b = n
  · subst he
    have HR : Hid (inR l a b = ⟨a, b, false, false, 0⟩) := if_pos (.inl hlen.symm)
    clear hlen
    go_enter Try.func26, Try.ntmps26
    go_wp2
    all_goals exact bodyPost_ret (v := .agg #[.int .i64 (a : Int), .int .i64 (b : Int), .bool false, .bool false]) (by simp [results, Try.results26, go_sem]) rfl ⟨by rw [HR.out]; rfl, bAlloc (Below.refl _ _) _⟩
  · have HL := Hid.mk' (isLE_at (w := w.alloc (.cells #[.int .i64 0, .int .i64 0, .bool false, .bool false] 27)) (k := b) (by omega) (HT.out.keep B0.out))
    have hne : ((b : Int) == (n : Int)) = false := by simp; omega
    have hne2 : ¬ (b : Int) = (n : Int) := by omega
    have hlt : (b : Int) < n := by omega
    have HX : Hid (inR l a b = if le (at8 l b) = true then ⟨a, (b : Int), false, false, 0⟩ else ⟨a, (b : Int) + 1, false, false, 0⟩) := by
      unfold Hid inR
      rw [hlen]
      simp only [he, false_or]
    clear hlen he
    cases hl : le (at8 l b) with
    | true =>
      rw [hl] at HL
      rw [hl, if_pos rfl] at HX
      clear hl
      go_enter Try.func26, Try.ntmps26
      go_wp2_with (go_at_call 30; refine (HL.out).mono ?_; rintro e w' ⟨rfl, hw⟩; have hq := hw.symm; subst hq; clear hw)
      all_goals exact bodyPost_ret (v := .agg #[.int .i64 (a : Int), .int .i64 (b : Int), .bool false, .bool false]) (by simp [results, Try.results26, go_sem]) rfl ⟨by rw [HX.out]; rfl, bAlloc (Below.refl _ _) _⟩
    | false =>
      rw [hl] at HL
      rw [hl, if_neg (by simp)] at HX
      clear hl
      go_enter Try.func26, Try.ntmps26
      go_wp2_with (go_at_call 30; refine (HL.out).mono ?_; rintro e w' ⟨rfl, hw⟩; have hq := hw.symm; subst hq; clear hw)
      all_goals exact bodyPost_ret (v := .agg #[.int .i64 (a : Int), .int .i64 ((b : Int) + 1), .bool false, .bool false]) (by simp [results, Try.results26, go_sem]) rfl ⟨by rw [HX.out]; rfl, bAlloc (Below.refl _ _) _⟩

end Go.Proofs.Ytbknnicpdkpmiaa
