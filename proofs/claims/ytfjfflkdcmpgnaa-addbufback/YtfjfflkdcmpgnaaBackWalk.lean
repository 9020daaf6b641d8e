/- The walk of quoinlaw01.AddbufBack: it answers true for every two spans and every place. -/
import Derived.Test.YtfjfflkdcmpgnaaAwake
import Derived.Test.YtfjfflkdcmpgnaaSpansWalk
namespace Go.Proofs.Ytfjfflkdcmpgnaa
open Go.RowKit

theorem below_put {B : Nat} {w W : World} {b : Nat} {x y z : Value} (h : Below B w W) (hb : B ≤ b) : Below B w (((W.setCell ⟨b, 0, none⟩ x).setCell ⟨b, 1, none⟩ y).setCell ⟨b, 2, none⟩ z) :=
  ((h.setCell (p := ⟨b, 0, none⟩) hb x).setCell (p := ⟨b, 1, none⟩) hb y).setCell (p := ⟨b, 2, none⟩) hb z

theorem snd_mk {s o l : Int} (h : s = 0 ∨ s = 1) (h1 : 0 ≤ o) (h2 : 0 ≤ l) (h3 : o + l ≤ 4611686018427387904) : sndB s o l = true := by
  unfold sndB; exact decide_eq_true ⟨h, h1, h2, h3⟩
theorem snd_src {s o l : Int} (h : sndB s o l = true) : s = 0 ∨ s = 1 := by
  unfold sndB at h; exact (of_decide_eq_true h).1

theorem joins_back (s o l t : Int) (w : World) (h : sndB s o l = true) (h0 : 0 ≤ t) (ht : t ≤ l) :
    Calls Try.prog 16 #[.agg #[.int .i64 s, .int .i64 o, .int .i64 t], .agg #[.int .i64 s, .int .i64 (o + t), .int .i64 (l - t)]] w fun e w' => e = .returned (.tuple #[.agg #[.int .i64 s, .int .i64 o, .int .i64 l], .bool true]) ∧ Below w.heap.size w w' := by
  have hj : jnB s o t s (o + t) (l - t) = true := by
    have b := snd_bd h
    unfold jnB
    rw [snd_mk (snd_src h) (by omega) (by omega) (by omega), snd_mk (snd_src h) (by omega) (by omega) (by omega)]
    simp
  have := joins_yes s o t s (o + t) (l - t) w hj
  rwa [show t + (l - t) = l from by omega] at this

theorem cut_back (s o l l' : Int) (w : World) (h1 : sndB s o l = true) (h2 : sndB s (o + l) l' = true) :
    Calls Try.prog 19 #[.agg #[.int .i64 s, .int .i64 o, .int .i64 (l + l')], .int .i64 l] w fun e w' => e = .returned (.tuple #[.agg #[.int .i64 s, .int .i64 o, .int .i64 l], .agg #[.int .i64 s, .int .i64 (o + l), .int .i64 l'], .int .i64 0]) ∧ Below w.heap.size w w' := by
  have b1 := snd_bd h1
  have b2 := snd_bd h2
  have hs : sndB s o (l + l') = true := snd_mk (snd_src h1) (by omega) (by omega) (by omega)
  have := cut_yes s o (l + l') l w hs (by omega) (by omega)
  rwa [show l + l' - l = l' from by omega] at this

set_option maxHeartbeats 1000000 in
theorem back_e10_no (s o l s' o' l' t : Int) (w : World) (h1 : -9223372036854775808 ≤ l) (h2 : l ≤ 9223372036854775807) (h3 : -9223372036854775808 ≤ l') (h4 : l' ≤ 9223372036854775807) (hs : sndB s o l = false) (hj : jnB s o l s' o' l' = false) :
    Calls Try.prog 5 #[.agg #[.int .i64 s, .int .i64 o, .int .i64 l], .agg #[.int .i64 s', .int .i64 o', .int .i64 l'], .int .i64 t] w fun e w' => e = .returned (.bool true) ∧ Below w.heap.size w w' := by
  go_enter Try.func5, Try.ntmps5
  go_wp2_with fail
  refine (awake_any _).mono ?_
  rintro e w1 ⟨rfl, hb⟩
  have A1 : SpanAt w1 w.heap.size s o l := ((SpanAt.new w s o l).alloc _).keep hb
  have B1 : SpanAt w1 (w.heap.size + 1) s' o' l' := (by simpa using SpanAt.new (w.alloc _) s' o' l' : SpanAt ((w.alloc _).alloc _) _ _ _ _).keep hb
  have L1 : Below w.heap.size w w1 := (bAlloc (bAlloc (Below.refl _ _) _) _).trans (hb.mono (by simp; omega))
  clear hb
  obtain ⟨az, a0, a1, a2, -⟩ := id A1
  obtain ⟨bz, b0, b1, b2, -⟩ := id B1
  go_wp2_with fail
  refine (cut_span s o l t _ h1 h2 hs).mono ?_
  rintro e w2 ⟨rfl, hb⟩
  have A2 := A1.keep hb
  have B2 := B1.keep hb
  have L2 := L1.trans (hb.mono L1.size)
  clear hb A1 B1 L1 az a0 a1 a2 bz b0 b1 b2
  obtain ⟨az, a0, a1, a2, -⟩ := id A2
  obtain ⟨bz, b0, b1, b2, -⟩ := id B2
  have n1 := az
  have n2 := bz
  go_wp2_with fail
  refine (joins_no s o l s' o' l' _ h1 h2 h3 h4 hj).mono ?_
  rintro e w4 ⟨rfl, hb⟩
  have L4 := (bAlloc (bAlloc L2 _) _).trans (hb.mono (by have := L2.size; simp; omega))
  clear hb
  go_wp2
  go_ret
  exact ⟨rfl, bAlloc L4 _⟩

set_option maxHeartbeats 1000000 in
theorem back_low_no (s o l s' o' l' t : Int) (w : World) (h1 : -9223372036854775808 ≤ l) (h2 : l ≤ 9223372036854775807) (h3 : -9223372036854775808 ≤ l') (h4 : l' ≤ 9223372036854775807) (hs : sndB s o l = true) (ht : t < 0) (hj : jnB s o l s' o' l' = false) :
    Calls Try.prog 5 #[.agg #[.int .i64 s, .int .i64 o, .int .i64 l], .agg #[.int .i64 s', .int .i64 o', .int .i64 l'], .int .i64 t] w fun e w' => e = .returned (.bool true) ∧ Below w.heap.size w w' := by
  have bd := snd_bd hs
  go_enter Try.func5, Try.ntmps5
  go_wp2_with fail
  refine (awake_any _).mono ?_
  rintro e w1 ⟨rfl, hb⟩
  have A1 : SpanAt w1 w.heap.size s o l := ((SpanAt.new w s o l).alloc _).keep hb
  have B1 : SpanAt w1 (w.heap.size + 1) s' o' l' := (by simpa using SpanAt.new (w.alloc _) s' o' l' : SpanAt ((w.alloc _).alloc _) _ _ _ _).keep hb
  have L1 : Below w.heap.size w w1 := (bAlloc (bAlloc (Below.refl _ _) _) _).trans (hb.mono (by simp; omega))
  clear hb
  obtain ⟨az, a0, a1, a2, -⟩ := id A1
  obtain ⟨bz, b0, b1, b2, -⟩ := id B1
  go_wp2_with fail
  refine (cut_low s o l t _ hs ht).mono ?_
  rintro e w2 ⟨rfl, hb⟩
  have A2 := A1.keep hb
  have B2 := B1.keep hb
  have L2 := L1.trans (hb.mono L1.size)
  clear hb A1 B1 L1 az a0 a1 a2 bz b0 b1 b2
  obtain ⟨az, a0, a1, a2, -⟩ := id A2
  obtain ⟨bz, b0, b1, b2, -⟩ := id B2
  have n1 := az
  have n2 := bz
  go_wp2_with fail
  refine (joins_no s o l s' o' l' _ h1 h2 h3 h4 hj).mono ?_
  rintro e w4 ⟨rfl, hb⟩
  have L4 := (bAlloc (bAlloc L2 _) _).trans (hb.mono (by have := L2.size; simp; omega))
  clear hb
  go_wp2
  go_ret
  exact ⟨rfl, bAlloc L4 _⟩

set_option maxHeartbeats 1000000 in
theorem back_low_yes (s o l l' t : Int) (w : World) (hs : sndB s o l = true) (ht : t < 0) (ha : sndB s o l = true) (hb' : sndB s (o + l) l' = true) :
    Calls Try.prog 5 #[.agg #[.int .i64 s, .int .i64 o, .int .i64 l], .agg #[.int .i64 s, .int .i64 (o + l), .int .i64 l'], .int .i64 t] w fun e w' => e = .returned (.bool true) ∧ Below w.heap.size w w' := by
  have bd := snd_bd hs
  have bd2 := snd_bd hb'
  have hj : jnB s o l s (o + l) l' = true := by unfold jnB; rw [ha, hb']; simp
  go_enter Try.func5, Try.ntmps5
  go_wp2_with fail
  refine (awake_any _).mono ?_
  rintro e w1 ⟨rfl, hb⟩
  have A1 : SpanAt w1 w.heap.size s o l := ((SpanAt.new w s o l).alloc _).keep hb
  have B1 : SpanAt w1 (w.heap.size + 1) s (o + l) l' := (by simpa using SpanAt.new (w.alloc _) s (o + l) l' : SpanAt ((w.alloc _).alloc _) _ _ _ _).keep hb
  have L1 : Below w.heap.size w w1 := (bAlloc (bAlloc (Below.refl _ _) _) _).trans (hb.mono (by simp; omega))
  clear hb
  obtain ⟨az, a0, a1, a2, -⟩ := id A1
  obtain ⟨bz, b0, b1, b2, -⟩ := id B1
  go_wp2_with fail
  refine (cut_low s o l t _ hs ht).mono ?_
  rintro e w2 ⟨rfl, hb⟩
  have A2 := A1.keep hb
  have B2 := B1.keep hb
  have L2 := L1.trans (hb.mono L1.size)
  clear hb A1 B1 L1 az a0 a1 a2 bz b0 b1 b2
  obtain ⟨az, a0, a1, a2, -⟩ := id A2
  obtain ⟨bz, b0, b1, b2, -⟩ := id B2
  have n1 := az
  have n2 := bz
  go_wp2_with fail
  refine (joins_yes s o l s (o + l) l' _ hj).mono ?_
  rintro e w4 ⟨rfl, hb⟩
  have L4 := (bAlloc (bAlloc L2 _) _).trans (hb.mono (by have := L2.size; simp; omega))
  have A4 := ((A2.alloc _).alloc _).keep hb
  have B4 := ((B2.alloc _).alloc _).keep hb
  have P4 := ((SpanAt.new w2 _ _ _).alloc _).keep hb
  have Q4 := (by simpa using SpanAt.new (w2.alloc _) _ _ _ : SpanAt ((w2.alloc _).alloc _) (w2.heap.size + 1) _ _ _).keep hb
  clear hb A2 B2 L2 az a0 a1 a2 bz b0 b1 b2
  obtain ⟨az, a0, a1, a2, -⟩ := id A4
  go_wp2_with fail
  refine (cut_back s o l l' _ ha hb').mono ?_
  rintro e w5 ⟨rfl, hb⟩
  have L5 := (bAlloc L4 _).trans (hb.mono (by have := L4.size; simp; omega))
  have A5 := (A4.alloc _).keep hb
  have B5 := (B4.alloc _).keep hb
  have P5 := (P4.alloc _).keep hb
  have Q5 := (Q4.alloc _).keep hb
  clear hb A4 B4 P4 Q4 L4 az a0 a1 a2
  obtain ⟨az, a0, a1, a2, -⟩ := id A5
  obtain ⟨bz, b0, b1, b2, -⟩ := id B5
  obtain ⟨pz, p0, p1, p2, f0, f1, f2⟩ := id P5
  obtain ⟨qz, q0, q1, q2, g0, g1, g2⟩ := id Q5
  go_wp2
  go_ret
  exact ⟨rfl, below_put (below_put L5 (by omega)) (by omega)⟩

set_option maxHeartbeats 1000000 in
theorem back_high_no (s o l s' o' l' t : Int) (w : World) (h1 : -9223372036854775808 ≤ l) (h2 : l ≤ 9223372036854775807) (h3 : -9223372036854775808 ≤ l') (h4 : l' ≤ 9223372036854775807) (hs : sndB s o l = true) (ht : l < t) (hj : jnB s o l s' o' l' = false) :
    Calls Try.prog 5 #[.agg #[.int .i64 s, .int .i64 o, .int .i64 l], .agg #[.int .i64 s', .int .i64 o', .int .i64 l'], .int .i64 t] w fun e w' => e = .returned (.bool true) ∧ Below w.heap.size w w' := by
  have bd := snd_bd hs
  go_enter Try.func5, Try.ntmps5
  go_wp2_with fail
  refine (awake_any _).mono ?_
  rintro e w1 ⟨rfl, hb⟩
  have A1 : SpanAt w1 w.heap.size s o l := ((SpanAt.new w s o l).alloc _).keep hb
  have B1 : SpanAt w1 (w.heap.size + 1) s' o' l' := (by simpa using SpanAt.new (w.alloc _) s' o' l' : SpanAt ((w.alloc _).alloc _) _ _ _ _).keep hb
  have L1 : Below w.heap.size w w1 := (bAlloc (bAlloc (Below.refl _ _) _) _).trans (hb.mono (by simp; omega))
  clear hb
  obtain ⟨az, a0, a1, a2, -⟩ := id A1
  obtain ⟨bz, b0, b1, b2, -⟩ := id B1
  go_wp2_with fail
  refine (cut_high s o l t _ hs ht).mono ?_
  rintro e w2 ⟨rfl, hb⟩
  have A2 := A1.keep hb
  have B2 := B1.keep hb
  have L2 := L1.trans (hb.mono L1.size)
  clear hb A1 B1 L1 az a0 a1 a2 bz b0 b1 b2
  obtain ⟨az, a0, a1, a2, -⟩ := id A2
  obtain ⟨bz, b0, b1, b2, -⟩ := id B2
  have n1 := az
  have n2 := bz
  go_wp2_with fail
  refine (joins_no s o l s' o' l' _ h1 h2 h3 h4 hj).mono ?_
  rintro e w4 ⟨rfl, hb⟩
  have L4 := (bAlloc (bAlloc L2 _) _).trans (hb.mono (by have := L2.size; simp; omega))
  clear hb
  go_wp2
  go_ret
  exact ⟨rfl, bAlloc L4 _⟩

set_option maxHeartbeats 1000000 in
theorem back_high_yes (s o l l' t : Int) (w : World) (hs : sndB s o l = true) (ht : l < t) (ha : sndB s o l = true) (hb' : sndB s (o + l) l' = true) :
    Calls Try.prog 5 #[.agg #[.int .i64 s, .int .i64 o, .int .i64 l], .agg #[.int .i64 s, .int .i64 (o + l), .int .i64 l'], .int .i64 t] w fun e w' => e = .returned (.bool true) ∧ Below w.heap.size w w' := by
  have bd := snd_bd hs
  have bd2 := snd_bd hb'
  have hj : jnB s o l s (o + l) l' = true := by unfold jnB; rw [ha, hb']; simp
  go_enter Try.func5, Try.ntmps5
  go_wp2_with fail
  refine (awake_any _).mono ?_
  rintro e w1 ⟨rfl, hb⟩
  have A1 : SpanAt w1 w.heap.size s o l := ((SpanAt.new w s o l).alloc _).keep hb
  have B1 : SpanAt w1 (w.heap.size + 1) s (o + l) l' := (by simpa using SpanAt.new (w.alloc _) s (o + l) l' : SpanAt ((w.alloc _).alloc _) _ _ _ _).keep hb
  have L1 : Below w.heap.size w w1 := (bAlloc (bAlloc (Below.refl _ _) _) _).trans (hb.mono (by simp; omega))
  clear hb
  obtain ⟨az, a0, a1, a2, -⟩ := id A1
  obtain ⟨bz, b0, b1, b2, -⟩ := id B1
  go_wp2_with fail
  refine (cut_high s o l t _ hs ht).mono ?_
  rintro e w2 ⟨rfl, hb⟩
  have A2 := A1.keep hb
  have B2 := B1.keep hb
  have L2 := L1.trans (hb.mono L1.size)
  clear hb A1 B1 L1 az a0 a1 a2 bz b0 b1 b2
  obtain ⟨az, a0, a1, a2, -⟩ := id A2
  obtain ⟨bz, b0, b1, b2, -⟩ := id B2
  have n1 := az
  have n2 := bz
  go_wp2_with fail
  refine (joins_yes s o l s (o + l) l' _ hj).mono ?_
  rintro e w4 ⟨rfl, hb⟩
  have L4 := (bAlloc (bAlloc L2 _) _).trans (hb.mono (by have := L2.size; simp; omega))
  have A4 := ((A2.alloc _).alloc _).keep hb
  have B4 := ((B2.alloc _).alloc _).keep hb
  have P4 := ((SpanAt.new w2 _ _ _).alloc _).keep hb
  have Q4 := (by simpa using SpanAt.new (w2.alloc _) _ _ _ : SpanAt ((w2.alloc _).alloc _) (w2.heap.size + 1) _ _ _).keep hb
  clear hb A2 B2 L2 az a0 a1 a2 bz b0 b1 b2
  obtain ⟨az, a0, a1, a2, -⟩ := id A4
  go_wp2_with fail
  refine (cut_back s o l l' _ ha hb').mono ?_
  rintro e w5 ⟨rfl, hb⟩
  have L5 := (bAlloc L4 _).trans (hb.mono (by have := L4.size; simp; omega))
  have A5 := (A4.alloc _).keep hb
  have B5 := (B4.alloc _).keep hb
  have P5 := (P4.alloc _).keep hb
  have Q5 := (Q4.alloc _).keep hb
  clear hb A4 B4 P4 Q4 L4 az a0 a1 a2
  obtain ⟨az, a0, a1, a2, -⟩ := id A5
  obtain ⟨bz, b0, b1, b2, -⟩ := id B5
  obtain ⟨pz, p0, p1, p2, f0, f1, f2⟩ := id P5
  obtain ⟨qz, q0, q1, q2, g0, g1, g2⟩ := id Q5
  go_wp2
  go_ret
  exact ⟨rfl, below_put (below_put L5 (by omega)) (by omega)⟩

set_option maxHeartbeats 1000000 in
theorem back_ok_no (s o l s' o' l' t : Int) (w : World) (h1 : -9223372036854775808 ≤ l) (h2 : l ≤ 9223372036854775807) (h3 : -9223372036854775808 ≤ l') (h4 : l' ≤ 9223372036854775807) (hs : sndB s o l = true) (h0 : 0 ≤ t) (ht : t ≤ l) (hj : jnB s o l s' o' l' = false) :
    Calls Try.prog 5 #[.agg #[.int .i64 s, .int .i64 o, .int .i64 l], .agg #[.int .i64 s', .int .i64 o', .int .i64 l'], .int .i64 t] w fun e w' => e = .returned (.bool true) ∧ Below w.heap.size w w' := by
  have bd := snd_bd hs
  go_enter Try.func5, Try.ntmps5
  go_wp2_with fail
  refine (awake_any _).mono ?_
  rintro e w1 ⟨rfl, hb⟩
  have A1 : SpanAt w1 w.heap.size s o l := ((SpanAt.new w s o l).alloc _).keep hb
  have B1 : SpanAt w1 (w.heap.size + 1) s' o' l' := (by simpa using SpanAt.new (w.alloc _) s' o' l' : SpanAt ((w.alloc _).alloc _) _ _ _ _).keep hb
  have L1 : Below w.heap.size w w1 := (bAlloc (bAlloc (Below.refl _ _) _) _).trans (hb.mono (by simp; omega))
  clear hb
  obtain ⟨az, a0, a1, a2, -⟩ := id A1
  obtain ⟨bz, b0, b1, b2, -⟩ := id B1
  go_wp2_with fail
  refine (cut_yes s o l t _ hs h0 ht).mono ?_
  rintro e w2 ⟨rfl, hb⟩
  have A2 := A1.keep hb
  have B2 := B1.keep hb
  have L2 := L1.trans (hb.mono L1.size)
  clear hb A1 B1 L1 az a0 a1 a2 bz b0 b1 b2
  obtain ⟨az, a0, a1, a2, -⟩ := id A2
  obtain ⟨bz, b0, b1, b2, -⟩ := id B2
  have n1 := az
  have n2 := bz
  go_wp2_with fail
  refine (joins_back s o l t _ hs h0 ht).mono ?_
  rintro e w3 ⟨rfl, hb⟩
  have A3 := ((A2.alloc _).alloc _).keep hb
  have B3 := ((B2.alloc _).alloc _).keep hb
  have P3 := ((SpanAt.new w2 _ _ _).alloc _).keep hb
  have Q3 := (by simpa using SpanAt.new (w2.alloc _) _ _ _ : SpanAt ((w2.alloc _).alloc _) (w2.heap.size + 1) _ _ _).keep hb
  have L3 := (bAlloc (bAlloc L2 _) _).trans (hb.mono (by have := L2.size; simp; omega))
  clear hb A2 B2 L2 az a0 a1 a2 bz b0 b1 b2
  obtain ⟨az, a0, a1, a2, -⟩ := id A3
  obtain ⟨bz, b0, b1, b2, -⟩ := id B3
  obtain ⟨pz, p0, p1, p2, -⟩ := id P3
  go_wp2_with fail
  refine (joins_no s o l s' o' l' _ h1 h2 h3 h4 hj).mono ?_
  rintro e w4 ⟨rfl, hb⟩
  have L4 := (bAlloc L3 _).trans (hb.mono (by have := L3.size; simp; omega))
  clear hb
  go_wp2
  go_ret
  exact ⟨rfl, bAlloc L4 _⟩

set_option maxHeartbeats 1000000 in
theorem back_ok_yes (s o l l' t : Int) (w : World) (hs : sndB s o l = true) (h0 : 0 ≤ t) (ht : t ≤ l) (ha : sndB s o l = true) (hb' : sndB s (o + l) l' = true) :
    Calls Try.prog 5 #[.agg #[.int .i64 s, .int .i64 o, .int .i64 l], .agg #[.int .i64 s, .int .i64 (o + l), .int .i64 l'], .int .i64 t] w fun e w' => e = .returned (.bool true) ∧ Below w.heap.size w w' := by
  have bd := snd_bd hs
  have bd2 := snd_bd hb'
  have hj : jnB s o l s (o + l) l' = true := by unfold jnB; rw [ha, hb']; simp
  go_enter Try.func5, Try.ntmps5
  go_wp2_with fail
  refine (awake_any _).mono ?_
  rintro e w1 ⟨rfl, hb⟩
  have A1 : SpanAt w1 w.heap.size s o l := ((SpanAt.new w s o l).alloc _).keep hb
  have B1 : SpanAt w1 (w.heap.size + 1) s (o + l) l' := (by simpa using SpanAt.new (w.alloc _) s (o + l) l' : SpanAt ((w.alloc _).alloc _) _ _ _ _).keep hb
  have L1 : Below w.heap.size w w1 := (bAlloc (bAlloc (Below.refl _ _) _) _).trans (hb.mono (by simp; omega))
  clear hb
  obtain ⟨az, a0, a1, a2, -⟩ := id A1
  obtain ⟨bz, b0, b1, b2, -⟩ := id B1
  go_wp2_with fail
  refine (cut_yes s o l t _ hs h0 ht).mono ?_
  rintro e w2 ⟨rfl, hb⟩
  have A2 := A1.keep hb
  have B2 := B1.keep hb
  have L2 := L1.trans (hb.mono L1.size)
  clear hb A1 B1 L1 az a0 a1 a2 bz b0 b1 b2
  obtain ⟨az, a0, a1, a2, -⟩ := id A2
  obtain ⟨bz, b0, b1, b2, -⟩ := id B2
  have n1 := az
  have n2 := bz
  go_wp2_with fail
  refine (joins_back s o l t _ hs h0 ht).mono ?_
  rintro e w3 ⟨rfl, hb⟩
  have A3 := ((A2.alloc _).alloc _).keep hb
  have B3 := ((B2.alloc _).alloc _).keep hb
  have P3 := ((SpanAt.new w2 _ _ _).alloc _).keep hb
  have Q3 := (by simpa using SpanAt.new (w2.alloc _) _ _ _ : SpanAt ((w2.alloc _).alloc _) (w2.heap.size + 1) _ _ _).keep hb
  have L3 := (bAlloc (bAlloc L2 _) _).trans (hb.mono (by have := L2.size; simp; omega))
  clear hb A2 B2 L2 az a0 a1 a2 bz b0 b1 b2
  obtain ⟨az, a0, a1, a2, -⟩ := id A3
  obtain ⟨bz, b0, b1, b2, -⟩ := id B3
  obtain ⟨pz, p0, p1, p2, -⟩ := id P3
  go_wp2_with fail
  refine (joins_yes s o l s (o + l) l' _ hj).mono ?_
  rintro e w4 ⟨rfl, hb⟩
  have L4 := (bAlloc L3 _).trans (hb.mono (by have := L3.size; simp; omega))
  have A4 := (A3.alloc _).keep hb
  have B4 := (B3.alloc _).keep hb
  have P4 := (P3.alloc _).keep hb
  have Q4 := (Q3.alloc _).keep hb
  clear hb A3 B3 P3 Q3 L3 az a0 a1 a2 bz b0 b1 b2 pz p0 p1 p2
  obtain ⟨az, a0, a1, a2, -⟩ := id A4
  go_wp2_with fail
  refine (cut_back s o l l' _ ha hb').mono ?_
  rintro e w5 ⟨rfl, hb⟩
  have L5 := (bAlloc L4 _).trans (hb.mono (by have := L4.size; simp; omega))
  have A5 := (A4.alloc _).keep hb
  have B5 := (B4.alloc _).keep hb
  have P5 := (P4.alloc _).keep hb
  have Q5 := (Q4.alloc _).keep hb
  clear hb A4 B4 P4 Q4 L4 az a0 a1 a2
  obtain ⟨az, a0, a1, a2, -⟩ := id A5
  obtain ⟨bz, b0, b1, b2, -⟩ := id B5
  obtain ⟨pz, p0, p1, p2, f0, f1, f2⟩ := id P5
  obtain ⟨qz, q0, q1, q2, g0, g1, g2⟩ := id Q5
  go_wp2
  go_ret
  exact ⟨rfl, below_put (below_put L5 (by omega)) (by omega)⟩

theorem back_walk (s o l s' o' l' t : Int) (w : World) (h1 : -9223372036854775808 ≤ l) (h2 : l ≤ 9223372036854775807) (h3 : -9223372036854775808 ≤ l') (h4 : l' ≤ 9223372036854775807) :
    Calls Try.prog 5 #[.agg #[.int .i64 s, .int .i64 o, .int .i64 l], .agg #[.int .i64 s', .int .i64 o', .int .i64 l'], .int .i64 t] w fun e w' => e = .returned (.bool true) ∧ Below w.heap.size w w' := by
  cases hs : sndB s o l with
  | false => exact back_e10_no s o l s' o' l' t w h1 h2 h3 h4 hs (by unfold jnB; rw [hs]; rfl)
  | true =>
    cases hj : jnB s o l s' o' l' with
    | false =>
      by_cases hl : t < 0
      · exact back_low_no s o l s' o' l' t w h1 h2 h3 h4 hs hl hj
      · by_cases hh : l < t
        · exact back_high_no s o l s' o' l' t w h1 h2 h3 h4 hs hh hj
        · exact back_ok_no s o l s' o' l' t w h1 h2 h3 h4 hs (by omega) (by omega) hj
    | true =>
      obtain ⟨ha, hb, rfl, rfl⟩ := jn_parts hj
      by_cases hl : t < 0
      · exact back_low_yes s o l l' t w hs hl ha hb
      · by_cases hh : l < t
        · exact back_high_yes s o l l' t w hs hh ha hb
        · exact back_ok_yes s o l l' t w hs (by omega) (by omega) ha hb
end Go.Proofs.Ytfjfflkdcmpgnaa
