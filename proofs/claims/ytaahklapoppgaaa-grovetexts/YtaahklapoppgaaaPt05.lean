/- The law's place; steps in memory. -/
import Derived.Test.YtaahklapoppgaaaPt04
namespace Go.Proofs.Ytaahklapoppgaaa
open Go.RowKit

set_option maxRecDepth 8000
theorem place_lo (i n : Int) (hi : -9223372036854775808 ≤ i) (h : i < 0) (hn : 0 < n) (hn2 : n ≤ 4611686018427387904) (w : World) : Calls Try.prog 33 #[.int .i64 i, .int .i64 n] w fun e w' => e = .returned (.int .i64 ((-(i + 1)) % n)) ∧ w' = w := by
  have hw1 : IntKind.i64.wrap (i + 1) = i + 1 := by rw [IntKind.wrap_i64]; omega
  have hw2 : IntKind.i64.wrap (-(i + 1)) = -(i + 1) := by rw [IntKind.wrap_i64]; omega
  have hn0 : ¬ n = 0 := by omega
  have hm : Int.tmod (-(i + 1)) n = (-(i + 1)) % n := Int.tmod_eq_emod_of_nonneg (by omega)
  have hw3 : IntKind.i64.wrap ((-(i + 1)) % n) = (-(i + 1)) % n := by
    have h1 := Int.emod_nonneg (-(i + 1)) hn0
    have h2 := Int.emod_lt_of_pos (-(i + 1)) hn
    rw [IntKind.wrap_i64]; omega
  go_enter Try.func33, Try.ntmps33
  go_wp2
  go_ret
  exact ⟨by first | rfl | rw [hm] | (simp [hm]), rfl⟩
theorem place_hi (i n : Int) (h : ¬ i < 0) (hi2 : i ≤ 9223372036854775807) (hn : 0 < n) (hn2 : n ≤ 4611686018427387904) (w : World) : Calls Try.prog 33 #[.int .i64 i, .int .i64 n] w fun e w' => e = .returned (.int .i64 (i % n)) ∧ w' = w := by
  have hn0 : ¬ n = 0 := by omega
  have hm : Int.tmod i n = i % n := Int.tmod_eq_emod_of_nonneg (by omega)
  have hw3 : IntKind.i64.wrap (i % n) = i % n := by
    have h1 := Int.emod_nonneg i hn0
    have h2 := Int.emod_lt_of_pos i hn
    rw [IntKind.wrap_i64]; omega
  go_enter Try.func33, Try.ntmps33
  go_wp2
  go_ret
  exact ⟨by first | rfl | rw [hm] | (simp [hm]), rfl⟩
theorem place_any (i n : Int) (hi : -9223372036854775808 ≤ i ∧ i ≤ 9223372036854775807) (hn : 0 < n) (hn2 : n ≤ 4611686018427387904) : ∃ k : Nat, (k : Int) < n ∧ ∀ w, Calls Try.prog 33 #[.int .i64 i, .int .i64 n] w fun e w' => e = .returned (.int .i64 (k : Int)) ∧ w' = w := by
  by_cases h : i < 0
  · have h1 := Int.emod_nonneg (-(i + 1)) (show n ≠ 0 by omega)
    have h2 := Int.emod_lt_of_pos (-(i + 1)) hn
    refine ⟨((-(i + 1)) % n).toNat, by omega, fun w => ?_⟩
    rw [Int.toNat_of_nonneg h1]
    exact place_lo i n hi.1 h hn hn2 w
  · have h1 := Int.emod_nonneg i (show n ≠ 0 by omega)
    have h2 := Int.emod_lt_of_pos i hn
    refine ⟨(i % n).toNat, by omega, fun w => ?_⟩
    rw [Int.toNat_of_nonneg h1]
    exact place_hi i n h hi.2 hn hn2 w
/-- a step, with its text -/
structure Sp where
  k : Int
  a : Int
  n : Int
  t : Int
  p : Option Addr
  l : Nat
  c : Nat
  S : List UInt8
structure Spz (W : World) (s : Sp) : Prop where
  tx : Tx W s.p s.l s.c s.S
  a : -9223372036854775808 ≤ s.a ∧ s.a ≤ 9223372036854775807
  n : -9223372036854775808 ≤ s.n ∧ s.n ≤ 9223372036854775807
  t : -9223372036854775808 ≤ s.t ∧ s.t ≤ 9223372036854775807
structure Sp5 (W : World) (g o : Nat) (s : Sp) : Prop where
  c0 : W.cell? ⟨g, o, none⟩ = some (.int .i64 s.k)
  c1 : W.cell? ⟨g, o + 1, none⟩ = some (.int .i64 s.a)
  c2 : W.cell? ⟨g, o + 2, none⟩ = some (.int .i64 s.n)
  c3 : W.cell? ⟨g, o + 3, none⟩ = some (.int .i64 s.t)
  c4 : W.cell? ⟨g, o + 4, none⟩ = some (.slice s.p s.l s.c)
theorem Sp5.keep {W W' : World} {g o : Nat} {s : Sp} (h : Sp5 W g o s) (hb : Below W.heap.size W W') : Sp5 W' g o s := ⟨cell_keep h.c0 hb, cell_keep h.c1 hb, cell_keep h.c2 hb, cell_keep h.c3 hb, cell_keep h.c4 hb⟩
/-- steps in memory -/
def Stz (W : World) (ao : Option Addr) (L : List Sp) : Prop := ∀ (k : Nat) (s : Sp), L[k]? = some s → (∃ g o, ao = some ⟨g, o, none⟩ ∧ Sp5 W g (o + k * 5) s) ∧ Spz W s
end Go.Proofs.Ytaahklapoppgaaa
