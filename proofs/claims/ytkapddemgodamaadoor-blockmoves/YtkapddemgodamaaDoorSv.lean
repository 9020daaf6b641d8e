/- A bracket's partner in the text: the program's walk with its stack in memory. -/
import Derived.Test.YtkapddemgodamaaDoorAcr
import Derived.Test.YtkapddemgodamaaDoorLent
namespace Go.Proofs.YtkapddemgodamaaDoor
open Go.RowKit

/-- the stack in memory: the last that was awaited lies last -/
def sv (S : List Int) : List Value := S.reverse.map fun x => Value.int .u8 x
theorem sv_cons (x : Int) (S : List Int) : sv (x :: S) = sv S ++ [Value.int .u8 x] := by simp [sv]
theorem sv_len (S : List Int) : (sv S).length = S.length := by simp [sv]
theorem one8 (x : Int) : ∀ u ∈ [Value.int .u8 x], u.oneCell' = true := by intro u hu; simp at hu; rw [hu]; rfl
/-- what is read at the top of the stack -/
theorem sv_top {w : World} {base : Nat} {ax : Option Addr} {cx : Nat} {x : Int} {S : List Int} (h : w.ownsRow base 5 1 (.slice ax (S.length + 1) cx) (S.length + 1) (sv (x :: S))) :
    ∃ g, ax = some ⟨g, 0, none⟩ ∧ S.length + 1 ≤ cx ∧ w.cell? ⟨g, S.length, none⟩ = some (.int .u8 x) := by
  obtain ⟨g, cap, e, h1, _⟩ := own_some h (by omega)
  cases e
  refine ⟨g, rfl, h1, ?_⟩
  have := h.cells rfl S.length (.int .u8 x) (by rw [sv_cons]; simp [sv])
  rwa [add_none, Nat.zero_add] at this
theorem sv_pop {w : World} {base g cx : Nat} {x : Int} {S : List Int} (h : w.ownsRow base 5 1 (.slice (some ⟨g, 0, none⟩) (S.length + 1) cx) (S.length + 1) (sv (x :: S))) :
    w.ownsRow base 5 1 (.slice (some ⟨g, 0, none⟩) S.length cx) S.length (sv S) := by
  rw [sv_cons] at h
  exact own_prefix h (by simp [sv]) (by omega)

end Go.Proofs.YtkapddemgodamaaDoor
