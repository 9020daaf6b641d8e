/- The contracts of addbuf.Joins and of quoinref01.Joins: both answer the span that two neighbours make, for every two spans. -/
import Derived.Test.YtpifjghhlcjedaaAbSound
namespace Go.Proofs.Ytpifjghhlcjedaa.Ab
open Go.RowKit

/-- Two sound spans of one buffer, the second right behind the first. -/
def jnB (s o l s' o' l' : Int) : Bool := sndB s o l && sndB s' o' l' && decide (s = s') && decide (o' = o + l)

theorem snd_bd {s o l : Int} (h : sndB s o l = true) : 0 ≤ o ∧ 0 ≤ l ∧ o + l ≤ 4611686018427387904 := by
  unfold sndB at h; simp only [decide_eq_true_eq] at h; omega

theorem jn_parts {s o l s' o' l' : Int} (h : jnB s o l s' o' l' = true) : sndB s o l = true ∧ sndB s' o' l' = true ∧ s = s' ∧ o' = o + l := by
  unfold jnB at h; simpa [and_assoc] using h

theorem jn_cases {s o l s' o' l' : Int} (h : jnB s o l s' o' l' = false) :
    sndB s o l = false ∨ (sndB s o l = true ∧ sndB s' o' l' = false) ∨ (sndB s o l = true ∧ sndB s' o' l' = true ∧ (s != s') = true) ∨ (sndB s o l = true ∧ sndB s' o' l' = true ∧ s = s' ∧ (o' != o + l) = true) := by
  unfold jnB at h
  cases h1 : sndB s o l <;> cases h2 : sndB s' o' l' <;> simp_all
  omega

theorem bAlloc {a w : World} (h : Below a.heap.size a w) (o : Obj) : Below a.heap.size a (w.alloc o) := h.alloc h.size o

set_option maxHeartbeats 400000 in
theorem joins_yes (s o l s' o' l' : Int) (w : World) (h : jnB s o l s' o' l' = true) :
    Calls Try.prog 117 #[.agg #[.int .i64 s, .int .i64 o, .int .i64 l], .agg #[.int .i64 s', .int .i64 o', .int .i64 l']] w fun e w' => e = .returned (.tuple #[.agg #[.int .i64 s, .int .i64 o, .int .i64 (l + l')], .bool true]) ∧ Below w.heap.size w w' := by
  obtain ⟨ha, hb, rfl, rfl⟩ := jn_parts h
  have ba := snd_bd ha
  have bb := snd_bd hb
  clear h
  go_enter Try.func117, Try.ntmps117
  go_wp2_with (go_at_call 114; refine (sound_any _ _ _ _ (by omega) (by omega)).mono ?_; rintro e w' ⟨rfl, rfl⟩)
  refine bodyPost_ret (v := .tuple #[.agg #[.int .i64 s, .int .i64 o, .int .i64 (l + l')], .bool true]) (by simp [results, Try.results117, go_sem]) rfl ⟨rfl, ?_⟩
  repeat (first | exact Below.refl _ _ | refine bAlloc ?_ _)

set_option maxHeartbeats 800000 in
theorem joins_no (s o l s' o' l' : Int) (w : World) (h1 : -9223372036854775808 ≤ l) (h2 : l ≤ 9223372036854775807) (h3 : -9223372036854775808 ≤ l') (h4 : l' ≤ 9223372036854775807) (h : jnB s o l s' o' l' = false) :
    Calls Try.prog 117 #[.agg #[.int .i64 s, .int .i64 o, .int .i64 l], .agg #[.int .i64 s', .int .i64 o', .int .i64 l']] w fun e w' => e = .returned (.tuple #[.agg #[.int .i64 0, .int .i64 0, .int .i64 0], .bool false]) ∧ Below w.heap.size w w' := by
  rcases jn_cases h with ha | ⟨ha, hb⟩ | ⟨ha, hb, hs⟩ | ⟨ha, hb, rfl, ho⟩
  all_goals clear h
  · go_enter Try.func117, Try.ntmps117
    go_wp2_with (go_at_call 114; refine (sound_any _ _ _ _ (by omega) (by omega)).mono ?_; rintro e w' ⟨rfl, rfl⟩)
    refine bodyPost_ret (v := .tuple #[.agg #[.int .i64 0, .int .i64 0, .int .i64 0], .bool false]) (by simp [results, Try.results117, go_sem]) rfl ⟨rfl, ?_⟩
    repeat (first | exact Below.refl _ _ | refine bAlloc ?_ _)
  · go_enter Try.func117, Try.ntmps117
    go_wp2_with (go_at_call 114; refine (sound_any _ _ _ _ (by omega) (by omega)).mono ?_; rintro e w' ⟨rfl, rfl⟩)
    refine bodyPost_ret (v := .tuple #[.agg #[.int .i64 0, .int .i64 0, .int .i64 0], .bool false]) (by simp [results, Try.results117, go_sem]) rfl ⟨rfl, ?_⟩
    repeat (first | exact Below.refl _ _ | refine bAlloc ?_ _)
  · go_enter Try.func117, Try.ntmps117
    go_wp2_with (go_at_call 114; refine (sound_any _ _ _ _ (by omega) (by omega)).mono ?_; rintro e w' ⟨rfl, rfl⟩)
    refine bodyPost_ret (v := .tuple #[.agg #[.int .i64 0, .int .i64 0, .int .i64 0], .bool false]) (by simp [results, Try.results117, go_sem]) rfl ⟨rfl, ?_⟩
    repeat (first | exact Below.refl _ _ | refine bAlloc ?_ _)
  · have ba := snd_bd ha
    go_enter Try.func117, Try.ntmps117
    go_wp2_with (go_at_call 114; refine (sound_any _ _ _ _ (by omega) (by omega)).mono ?_; rintro e w' ⟨rfl, rfl⟩)
    refine bodyPost_ret (v := .tuple #[.agg #[.int .i64 0, .int .i64 0, .int .i64 0], .bool false]) (by simp [results, Try.results117, go_sem]) rfl ⟨rfl, ?_⟩
    repeat (first | exact Below.refl _ _ | refine bAlloc ?_ _)

end Go.Proofs.Ytpifjghhlcjedaa.Ab
