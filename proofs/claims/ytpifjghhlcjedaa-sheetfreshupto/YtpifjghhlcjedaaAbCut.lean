/- The contracts of addbuf.Cut and of quoinref01.Cut: both answer the two parts of a span, for every span and place. -/
import Derived.Test.YtpifjghhlcjedaaAbJoins
import Derived.RegionTactic
import Derived.BigRegion
namespace Go.Proofs.Ytpifjghhlcjedaa.Ab
open Go.RowKit

set_option maxHeartbeats 400000 in
theorem cut_span (s o l t : Int) (w : World) (h1 : -9223372036854775808 ≤ l) (h2 : l ≤ 9223372036854775807) (h : sndB s o l = false) :
    Calls Try.prog 99 #[.agg #[.int .i64 s, .int .i64 o, .int .i64 l], .int .i64 t] w fun e w' => e = .returned (.tuple #[.agg #[.int .i64 0, .int .i64 0, .int .i64 0], .agg #[.int .i64 0, .int .i64 0, .int .i64 0], .int .i64 10]) ∧ Below w.heap.size w w' := by
  go_enter Try.func99, Try.ntmps99
  go_wp2_with (go_at_call 114; refine (sound_any _ _ _ _ (by omega) (by omega)).mono ?_; rintro e w' ⟨rfl, rfl⟩)
  refine bodyPost_ret (v := .tuple #[.agg #[.int .i64 0, .int .i64 0, .int .i64 0], .agg #[.int .i64 0, .int .i64 0, .int .i64 0], .int .i64 10]) (by simp [results, Try.results99, go_sem]) rfl ⟨rfl, ?_⟩
  repeat (first | exact Below.refl _ _ | refine bAlloc ?_ _ | refine Below.drew ?_)

set_option maxHeartbeats 400000 in
theorem cut_low (s o l t : Int) (w : World) (h : sndB s o l = true) (ht : t < 0) :
    Calls Try.prog 99 #[.agg #[.int .i64 s, .int .i64 o, .int .i64 l], .int .i64 t] w fun e w' => e = .returned (.tuple #[.agg #[.int .i64 0, .int .i64 0, .int .i64 0], .agg #[.int .i64 0, .int .i64 0, .int .i64 0], .int .i64 2]) ∧ Below w.heap.size w w' := by
  have ba := snd_bd h
  go_enter Try.func99, Try.ntmps99
  go_wp2_with (go_at_call 114; refine (sound_any _ _ _ _ (by omega) (by omega)).mono ?_; rintro e w' ⟨rfl, rfl⟩)
  refine bodyPost_ret (v := .tuple #[.agg #[.int .i64 0, .int .i64 0, .int .i64 0], .agg #[.int .i64 0, .int .i64 0, .int .i64 0], .int .i64 2]) (by simp [results, Try.results99, go_sem]) rfl ⟨rfl, ?_⟩
  repeat (first | exact Below.refl _ _ | refine bAlloc ?_ _ | refine Below.drew ?_)

set_option maxHeartbeats 400000 in
theorem cut_high (s o l t : Int) (w : World) (h : sndB s o l = true) (ht : l < t) :
    Calls Try.prog 99 #[.agg #[.int .i64 s, .int .i64 o, .int .i64 l], .int .i64 t] w fun e w' => e = .returned (.tuple #[.agg #[.int .i64 0, .int .i64 0, .int .i64 0], .agg #[.int .i64 0, .int .i64 0, .int .i64 0], .int .i64 2]) ∧ Below w.heap.size w w' := by
  have ba := snd_bd h
  go_enter Try.func99, Try.ntmps99
  go_wp2_with (go_at_call 114; refine (sound_any _ _ _ _ (by omega) (by omega)).mono ?_; rintro e w' ⟨rfl, rfl⟩)
  refine bodyPost_ret (v := .tuple #[.agg #[.int .i64 0, .int .i64 0, .int .i64 0], .agg #[.int .i64 0, .int .i64 0, .int .i64 0], .int .i64 2]) (by simp [results, Try.results99, go_sem]) rfl ⟨rfl, ?_⟩
  repeat (first | exact Below.refl _ _ | refine bAlloc ?_ _ | refine Below.drew ?_)

set_option maxHeartbeats 400000 in
theorem cut_yes (s o l t : Int) (w : World) (h : sndB s o l = true) (ht0 : 0 ≤ t) (ht : t ≤ l) :
    Calls Try.prog 99 #[.agg #[.int .i64 s, .int .i64 o, .int .i64 l], .int .i64 t] w fun e w' => e = .returned (.tuple #[.agg #[.int .i64 s, .int .i64 o, .int .i64 t], .agg #[.int .i64 s, .int .i64 (o + t), .int .i64 (l - t)], .int .i64 0]) ∧ Below w.heap.size w w' := by
  have ba := snd_bd h
  go_enter Try.func99, Try.ntmps99
  go_wp2_with (go_at_call 114; refine (sound_any _ _ _ _ (by omega) (by omega)).mono ?_; rintro e w' ⟨rfl, rfl⟩)
  go_region
  all_goals go_wp2
  all_goals (refine bodyPost_ret (v := .tuple #[.agg #[.int .i64 s, .int .i64 o, .int .i64 t], .agg #[.int .i64 s, .int .i64 (o + t), .int .i64 (l - t)], .int .i64 0]) (by simp [results, Try.results99, go_sem]) rfl ⟨rfl, ?_⟩)
  all_goals (repeat (first | exact Below.refl _ _ | refine bAlloc ?_ _ | refine Below.drew ?_))

end Go.Proofs.Ytpifjghhlcjedaa.Ab
