/- The walk of quoinlaw01.AddbufSpans: it answers true for every two spans and every place. -/
import Derived.Test.YtfjfflkdcmpgnaaKeep
namespace Go.Proofs.Ytfjfflkdcmpgnaa
open Go.RowKit

/-- a number, or nought where there is no answer -/
def jV (b : Bool) (x : Int) : Int := if b then x else 0
/-- the error of a cut -/
def cE (s o l t : Int) : Int := if sndB s o l = false then 10 else if t < 0 ∨ l < t then 2 else 0

theorem joins_any (s o l s' o' l' : Int) (w : World) (h1 : -9223372036854775808 ≤ l) (h2 : l ≤ 9223372036854775807) (h3 : -9223372036854775808 ≤ l') (h4 : l' ≤ 9223372036854775807) :
    Calls Try.prog 16 #[.agg #[.int .i64 s, .int .i64 o, .int .i64 l], .agg #[.int .i64 s', .int .i64 o', .int .i64 l']] w fun e w' => e = .returned (.tuple #[.agg #[.int .i64 (jV (jnB s o l s' o' l') s), .int .i64 (jV (jnB s o l s' o' l') o), .int .i64 (jV (jnB s o l s' o' l') (l + l'))], .bool (jnB s o l s' o' l')]) ∧ Below w.heap.size w w' := by
  cases h : jnB s o l s' o' l' with
  | true => exact joins_yes s o l s' o' l' w h
  | false => exact joins_no s o l s' o' l' w h1 h2 h3 h4 h

theorem refJoins_any (s o l s' o' l' : Int) (w : World) (h1 : -9223372036854775808 ≤ o) (h2 : o ≤ 9223372036854775807) (h3 : -9223372036854775808 ≤ o') (h4 : o' ≤ 9223372036854775807) :
    Calls Try.prog 17 #[.agg #[.int .i64 s, .int .i64 o, .int .i64 l], .agg #[.int .i64 s', .int .i64 o', .int .i64 l']] w fun e w' => e = .returned (.tuple #[.agg #[.int .i64 (jV (jnB s o l s' o' l') s), .int .i64 (jV (jnB s o l s' o' l') o), .int .i64 (jV (jnB s o l s' o' l') (l + l'))], .bool (jnB s o l s' o' l')]) ∧ Below w.heap.size w w' := by
  cases h : jnB s o l s' o' l' with
  | true => exact refJoins_yes s o l s' o' l' w h
  | false => exact refJoins_no s o l s' o' l' w h1 h2 h3 h4 h

theorem cut_any (s o l t : Int) (w : World) (h1 : -9223372036854775808 ≤ l) (h2 : l ≤ 9223372036854775807) :
    Calls Try.prog 19 #[.agg #[.int .i64 s, .int .i64 o, .int .i64 l], .int .i64 t] w fun e w' => e = .returned (.tuple #[.agg #[.int .i64 (jV (cE s o l t == 0) s), .int .i64 (jV (cE s o l t == 0) o), .int .i64 (jV (cE s o l t == 0) t)], .agg #[.int .i64 (jV (cE s o l t == 0) s), .int .i64 (jV (cE s o l t == 0) (o + t)), .int .i64 (jV (cE s o l t == 0) (l - t))], .int .i64 (cE s o l t)]) ∧ Below w.heap.size w w' := by
  unfold cE
  cases h : sndB s o l with
  | false => exact cut_span s o l t w h1 h2 h
  | true =>
    by_cases hl : t < 0
    · rw [if_neg (by simp), if_pos (Or.inl hl)]; exact cut_low s o l t w h hl
    · by_cases hh : l < t
      · rw [if_neg (by simp), if_pos (Or.inr hh)]; exact cut_high s o l t w h hh
      · rw [if_neg (by simp), if_neg (by omega)]; exact cut_yes s o l t w h (by omega) (by omega)

theorem refCut_any (s o l t : Int) (w : World) (h1 : -9223372036854775808 ≤ o) (h2 : o ≤ 9223372036854775807) :
    Calls Try.prog 18 #[.agg #[.int .i64 s, .int .i64 o, .int .i64 l], .int .i64 t] w fun e w' => e = .returned (.tuple #[.agg #[.int .i64 (jV (cE s o l t == 0) s), .int .i64 (jV (cE s o l t == 0) o), .int .i64 (jV (cE s o l t == 0) t)], .agg #[.int .i64 (jV (cE s o l t == 0) s), .int .i64 (jV (cE s o l t == 0) (o + t)), .int .i64 (jV (cE s o l t == 0) (l - t))], .int .i64 (cE s o l t)]) ∧ Below w.heap.size w w' := by
  unfold cE
  cases h : sndB s o l with
  | false => exact refCut_span s o l t w h1 h2 h
  | true =>
    by_cases hl : t < 0
    · rw [if_neg (by simp), if_pos (Or.inl hl)]; exact refCut_low s o l t w h hl
    · by_cases hh : l < t
      · rw [if_neg (by simp), if_pos (Or.inr hh)]; exact refCut_high s o l t w h hh
      · rw [if_neg (by simp), if_neg (by omega)]; exact refCut_yes s o l t w h (by omega) (by omega)

set_option maxHeartbeats 800000 in
theorem spans_walk (s o l s' o' l' t : Int) (w : World) (h1 : -9223372036854775808 ≤ l) (h2 : l ≤ 9223372036854775807) (h3 : -9223372036854775808 ≤ l') (h4 : l' ≤ 9223372036854775807) (h5 : -9223372036854775808 ≤ o) (h6 : o ≤ 9223372036854775807) (h7 : -9223372036854775808 ≤ o') (h8 : o' ≤ 9223372036854775807) :
    Calls Try.prog 4 #[.agg #[.int .i64 s, .int .i64 o, .int .i64 l], .agg #[.int .i64 s', .int .i64 o', .int .i64 l'], .int .i64 t] w fun e w' => e = .returned (.bool true) ∧ Below w.heap.size w w' := by
  go_enter Try.func4, Try.ntmps4
  go_wp2_with fail
  refine (joins_yes 1 0 2 1 2 1 _ (by decide)).mono ?_
  rintro e w1 ⟨rfl, hb1⟩
  have A1 : SpanAt w1 w.heap.size s o l := ((SpanAt.new w s o l).alloc _).keep hb1
  have B1 : SpanAt w1 (w.heap.size + 1) s' o' l' := (by simpa using SpanAt.new (w.alloc _) s' o' l' : SpanAt ((w.alloc _).alloc _) _ _ _ _).keep hb1
  have L1 : Below w.heap.size w w1 := (bAlloc (bAlloc (Below.refl _ _) _) _).trans (hb1.mono (by simp; omega))
  clear hb1
  obtain ⟨az, a0, a1, a2, -⟩ := id A1
  obtain ⟨bz, b0, b1, b2, -⟩ := id B1
  have n1 := az
  have n1' := bz
  go_wp2_with fail
  refine (refJoins_any s o l s' o' l' _ h5 h6 h7 h8).mono ?_
  rintro e w2 ⟨rfl, hb2⟩
  have A2 := (A1.alloc _).keep hb2
  have B2 := (B1.alloc _).keep hb2
  have S2 := (SpanAt.new w1 1 0 3).keep hb2
  have L2 := L1.trans ((bAlloc (Below.refl _ _) _).trans (hb2.mono (by simp))|>.mono L1.size)
  clear hb2 az a0 a1 a2 bz b0 b1 b2 L1 A1 B1
  obtain ⟨az, a0, a1, a2, -⟩ := id A2
  obtain ⟨bz, b0, b1, b2, -⟩ := id B2
  obtain ⟨sz, s0, s1, s2, e0, e1, e2⟩ := id S2
  go_wp2_with fail
  refine (joins_any s o l s' o' l' _ h1 h2 h3 h4).mono ?_
  rintro e w3 ⟨rfl, hb3⟩
  have n2 := sz
  have A3 := (A2.alloc _).keep hb3
  have B3 := (B2.alloc _).keep hb3
  have S3 := (S2.alloc _).keep hb3
  have W3 := (SpanAt.new w2 _ _ _).keep hb3
  have L3 := L2.trans ((bAlloc (Below.refl _ _) _).trans (hb3.mono (by simp))|>.mono L2.size)
  clear hb3 az a0 a1 a2 bz b0 b1 b2 L2 A2 B2 sz s0 s1 s2 e0 e1 e2 S2
  obtain ⟨az, a0, a1, a2, -⟩ := id A3
  obtain ⟨bz, b0, b1, b2, -⟩ := id B3
  obtain ⟨sz, s0, s1, s2, e0, e1, e2⟩ := id S3
  obtain ⟨wz, x0, x1, x2, -⟩ := id W3
  go_wp2_with fail
  refine (refCut_any s o l t _ h5 h6).mono ?_
  rintro e w4 ⟨rfl, hb4⟩
  have ne : w1.heap.size ≠ w.heap.size := by omega
  have A4 := (((A3.other ne _).other ne _).other ne _).keep hb4
  have L4 := (((L3.setCell (p := ⟨w1.heap.size, 0, none⟩) (Nat.le_of_lt n1) _).setCell (p := ⟨w1.heap.size, 1, none⟩) (Nat.le_of_lt n1) _).setCell (p := ⟨w1.heap.size, 2, none⟩) (Nat.le_of_lt n1) _).trans (hb4.mono (by simp; omega))
  clear hb4 az a0 a1 a2 bz b0 b1 b2 sz s0 s1 s2 e0 e1 e2 wz x0 x1 x2 n1 n1' n2 A3 B3 S3 W3 L3 ne
  obtain ⟨az, a0, a1, a2, -⟩ := id A4
  go_wp2_with fail
  refine (cut_any s o l t _ h1 h2).mono ?_
  rintro e w5 ⟨rfl, hb5⟩
  have X5 := ((SpanAt.new w4 _ _ _).alloc _).keep hb5
  have Y5 := (by simpa using SpanAt.new (w4.alloc _) _ _ _ : SpanAt ((w4.alloc _).alloc _) (w4.heap.size + 1) _ _ _).keep hb5
  have L5 := L4.trans ((bAlloc (bAlloc (Below.refl _ _) _) _).trans (hb5.mono (by simp; omega))|>.mono L4.size)
  clear hb5 az a0 a1 a2 A4
  obtain ⟨xz, x0, x1, x2, -⟩ := id X5
  obtain ⟨yz, y0, y1, y2, -⟩ := id Y5
  go_wp2
  go_ret
  exact ⟨rfl, bAlloc (bAlloc L5 _) _⟩
end Go.Proofs.Ytfjfflkdcmpgnaa
