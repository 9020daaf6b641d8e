/- extent.linesOf; places by lines' own functions. -/
import Derived.Test.YtbknnicpdkpmiaaWho
namespace Go.Proofs.Ytbknnicpdkpmiaa
open Go.RowKit

set_option maxRecDepth 8000
theorem lof_at {ao : Option Addr} {n c k : Nat} {l : List UInt8} {w : World} (hk : k ≤ n) (HT : Hid (Tx w ao n c l)) :
    Calls Try.prog 34 #[.slice ao n c, .int .i64 (k : Int)] w fun e w' => e = .returned (.tuple #[.int .i64 (nl (l.take k) : Int), .int .i64 0]) ∧ Below w.heap.size w w' := by
  have := lof_any ao n c (k : Int) l w HT
  have hb : plB l (k : Int) = true := decide_eq_true (by have := HT.out.len; omega)
  have e : pr (aOf l (k : Int)) = .returned (.tuple #[.int .i64 (nl (l.take k) : Int), .int .i64 0]) := by unfold pr aOf ans; rw [hb]; rfl
  rwa [e] at this
theorem rof_at {ao : Option Addr} {n c k : Nat} {l : List UInt8} {w : World} (hk : k ≤ n) (HT : Hid (Tx w ao n c l)) :
    Calls Try.prog 18 #[.slice ao n c, .int .i64 (k : Int)] w fun e w' => e = .returned (.tuple #[.int .i64 (nl (l.take k) : Int), .int .i64 0]) ∧ w' = w := by
  have := refOf_any ao n c (k : Int) l w HT
  have hb : plB l (k : Int) = true := decide_eq_true (by have := HT.out.len; omega)
  have e : pr (aOf l (k : Int)) = .returned (.tuple #[.int .i64 (nl (l.take k) : Int), .int .i64 0]) := by unfold pr aOf ans; rw [hb]; rfl
  rwa [e] at this
theorem col_at {ao : Option Addr} {n c k : Nat} {l : List UInt8} {w : World} (hk : k ≤ n) (HT : Hid (Tx w ao n c l)) :
    Calls Try.prog 40 #[.slice ao n c, .int .i64 (k : Int)] w fun e w' => e = .returned (.tuple #[.int .i64 ((k - bg l k : Nat) : Int), .int .i64 0]) ∧ w' = w := by
  have := column_any ao n c (k : Int) l w HT
  have hb : plB l (k : Int) = true := decide_eq_true (by have := HT.out.len; omega)
  have e : pr (aCol l (k : Int)) = .returned (.tuple #[.int .i64 ((k - bg l k : Nat) : Int), .int .i64 0]) := by unfold pr aCol ans; rw [hb]; rfl
  rwa [e] at this
/-- the lines of two places -/
def lo (l : List UInt8) (a b : Nat) : Rg := wh l (nl (l.take a) : Nat) (nl (l.take b) : Nat)
theorem cell_keep {W w1 : World} (hb : Below W.heap.size W w1) : (∀ b o, b < W.heap.size → w1.cell? ⟨b, o, none⟩ = W.cell? ⟨b, o, none⟩) ∧ (∀ b o, b < W.heap.size → w1.frozen? ⟨b, o, none⟩ = W.frozen? ⟨b, o, none⟩) :=
  ⟨fun b o h => hb.cell (p := ⟨b, o, none⟩) h, fun b o h => hb.frozen (p := ⟨b, o, none⟩) h⟩
/-- the zero range -/
def z27 : Obj := .cells #[.int .i64 0, .int .i64 0, .bool false, .bool false] 27
/-- a fresh range behind a call -/
theorem rg_cells {w W : World} (hb : Below (w.alloc z27).heap.size (w.alloc z27) W) : W.cell? ⟨w.heap.size, 0, none⟩ = some (.int .i64 0) ∧ W.cell? ⟨w.heap.size, 1, none⟩ = some (.int .i64 0) ∧ W.cell? ⟨w.heap.size, 2, none⟩ = some (.bool false) ∧ W.cell? ⟨w.heap.size, 3, none⟩ = some (.bool false) ∧ W.frozen? ⟨w.heap.size, 0, none⟩ = false ∧ W.frozen? ⟨w.heap.size, 1, none⟩ = false ∧ W.frozen? ⟨w.heap.size, 2, none⟩ = false ∧ W.frozen? ⟨w.heap.size, 3, none⟩ = false ∧ w.heap.size < W.heap.size := by
  obtain ⟨h1, h2⟩ := cell_keep hb
  have hz : w.heap.size < (w.alloc z27).heap.size := by simp
  have hs := hb.size
  rw [h1 _ 0 hz, h1 _ 1 hz, h1 _ 2 hz, h1 _ 3 hz, h2 _ 0 hz, h2 _ 1 hz, h2 _ 2 hz, h2 _ 3 hz]
  have e : (w.alloc z27).heap[w.heap.size]? = some z27 := heap_alloc_new w _
  refine ⟨?_, ?_, ?_, ?_, frozen_of_row _ _ _ _ _ e, frozen_of_row _ _ _ _ _ e, frozen_of_row _ _ _ _ _ e, frozen_of_row _ _ _ _ _ e, by omega⟩ <;> (rw [cell_of_row _ _ _ _ _ _ e]; rfl)
theorem bset4 {w W : World} (h : Below w.heap.size w W) (a b c d : Value) : Below w.heap.size w ((((W.setCell ⟨w.heap.size, 0, none⟩ a).setCell ⟨w.heap.size, 1, none⟩ b).setCell ⟨w.heap.size, 2, none⟩ c).setCell ⟨w.heap.size, 3, none⟩ d) :=
  bset (bset (bset (bset h _ (Nat.le_refl _)) _ (Nat.le_refl _)) _ (Nat.le_refl _)) _ (Nat.le_refl _)
set_option maxHeartbeats 1000000 in
theorem linesOf_any (ao : Option Addr) (n c a b : Nat) (l : List UInt8) (w : World) (ha : a ≤ n) (hb : b ≤ n) (HT : Hid (Tx w ao n c l)) :
    Calls Try.prog 24 #[.slice ao n c, .int .i64 (a : Int), .int .i64 (b : Int)] w fun e w' => e = rt (lo l a b) ∧ Below w.heap.size w w' := by
  have hn := nl_le l
  have hl := HT.out.len
  have hbig := HT.out.big
  have C1 := Hid.mk' (fun W (h : Below w.heap.size w W) => lof_at (w := W) ha (HT.out.keep h))
  have C2 := Hid.mk' (fun W (h : Below w.heap.size w W) => lof_at (w := W) hb (HT.out.keep h))
  have x1 := nl_take_le l a
  have x2 := nl_take_le l b
  have C3 := Hid.mk' (fun W (h : Below w.heap.size w W) => whole_any ao n c (nl (l.take a) : Nat) (nl (l.take b) : Nat) l W (by omega) (by omega) (HT.out.keep h))
  have B0 := Hid.mk' (bAlloc (Below.refl _ w) z27)
  unfold lo
  unfold rt at C3
  generalize wh l (nl (l.take a) : Nat) (nl (l.take b) : Nat) = R at *
  obtain ⟨F, T, L, D, E⟩ := R
  dsimp only at C3
  generalize nl (l.take a) = A at *
  generalize nl (l.take b) = B at *
  clear hn hl hbig x1 x2
  go_enter Try.func24, Try.ntmps24
  go_wp2_with fail
  refine (C1.out _ B0.out).mono ?_
  rintro e w1 ⟨rfl, hb1⟩
  have B1 := Hid.mk' (bT B0.out hb1)
  have Z1 := Hid.mk' hb1
  clear hb1
  go_wp2_with fail
  refine (C2.out _ B1.out).mono ?_
  rintro e w2 ⟨rfl, hb2⟩
  have B2 := Hid.mk' (bT B1.out hb2)
  have Z2 := Hid.mk' (bT Z1.out hb2)
  clear hb2
  go_wp2_with fail
  refine (C3.out _ B2.out).mono ?_
  rintro e w3 ⟨rfl, hb3⟩
  have B3 := Hid.mk' (bT B2.out hb3)
  obtain ⟨k0, k1, k2, k3, f0, f1, f2, f3, hz⟩ := rg_cells (bT Z2.out hb3)
  clear hb3
  go_wp2
  all_goals exact bodyPost_ret (v := .tuple #[.agg #[.int .i64 (F), .int .i64 (T), .bool L, .bool D], .int .i64 E]) (by simp [results, Try.results24, go_sem, k0, k1, k2, k3]) rfl ⟨rfl, bset4 B3.out _ _ _ _⟩

/-- are all bytes ahead of a place in its line blanks -/
def ba (l : List UInt8) : Nat → Bool
  | 0 => true
  | i + 1 => if le (at8 l i) then true else bl (at8 l i) && ba l i
theorem ba_iff (l : List UInt8) : ∀ p, ba l p = true ↔ ∀ j, bg l p ≤ j → j < p → bl (at8 l j) = true
  | 0 => by simp [ba]
  | i + 1 => by
    have ih := ba_iff l i
    unfold ba bg
    by_cases h : le (at8 l i) = true
    · rw [if_pos h, if_pos h]
      exact ⟨fun _ j h1 h2 => by omega, fun _ => rfl⟩
    · rw [if_neg h, if_neg h, Bool.and_eq_true, ih]
      constructor
      · rintro ⟨h1, h2⟩ j h3 h4
        rcases Nat.lt_or_ge j i with h5 | h5
        · exact h2 j h3 h5
        · obtain rfl : j = i := by omega
          exact h1
      · intro h1
        exact ⟨h1 i (bg_le l i) (by omega), fun j h3 h4 => h1 j h3 (by omega)⟩
theorem bl_cases (b : UInt8) : (bl b = true ∧ (((b.toNat : Int) != 32) = false ∨ (((b.toNat : Int) != 32) = true ∧ ((b.toNat : Int) != 9) = false))) ∨ (bl b = false ∧ ((b.toNat : Int) != 32) = true ∧ ((b.toNat : Int) != 9) = true) := by
  unfold bl
  cases h1 : ((b.toNat : Int) == 32) <;> cases h2 : ((b.toNat : Int) == 9) <;> simp [bne, h1, h2]

end Go.Proofs.Ytbknnicpdkpmiaa
