/- The contracts of addbuf.sound and of quoinref01.Sound: both answer whether a span is sound, for every span. -/
import Derived.Test.YtpifjghhlcjedaaRows
import Derived.WalkKit
import Derived.WalkSpells
import Derived.WalkLawsBesides
import Derived.Outline
namespace Go.Proofs.Ytpifjghhlcjedaa.Ab
open Go.RowKit

/-- A span that the document calls sound. -/
def sndB (s o l : Int) : Bool := decide ((s = 0 ∨ s = 1) ∧ 0 ≤ o ∧ 0 ≤ l ∧ o + l ≤ 4611686018427387904)

theorem ret_bool {a b : Bool} (h : a = b) : Ending.returned (.bool a) = .returned (.bool b) := by rw [h]

set_option maxHeartbeats 400000 in
theorem sound_any (s o l : Int) (w : World) (h1 : -9223372036854775808 ≤ l) (h2 : l ≤ 9223372036854775807) :
    Calls Try.prog 114 #[.agg #[.int .i64 s, .int .i64 o, .int .i64 l]] w fun e w' => e = .returned (.bool (sndB s o l)) ∧ w' = w.alloc (.cells #[.int .i64 s, .int .i64 o, .int .i64 l] 30) := by
  go_enter Try.func114, Try.ntmps114
  go_wp2
  all_goals go_ret
  all_goals (try subst_vars)
  all_goals refine ⟨ret_bool ?_, rfl⟩
  all_goals (rw [Bool.eq_iff_iff]; unfold sndB; simp only [decide_eq_true_eq]; first | omega | (simp; done) | (simp; omega))

end Go.Proofs.Ytpifjghhlcjedaa.Ab
