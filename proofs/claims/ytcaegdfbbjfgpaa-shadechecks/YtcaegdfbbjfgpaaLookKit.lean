/- What the walk of the reference's look leans on: the stack of trees as a row of its own. -/
import Derived.Test.YtcaegdfbbjfgpaaLook
import Derived.Test.YtcaegdfbbjfgpaaCheck2
namespace Go.Proofs.Ytcaegdfbbjfgpaa
open Go.RowKit

/-- what the reference knows of a tree -/
def sn (t : Tr) : List Value := [.bool t.red, .int .i64 (t.bh : Nat), .int .i64 (t.ht : Nat), .int .i64 (t.size : Nat), .int .i64 t.byt, .int .i64 t.lin]
/-- the stack: the first tree on top -/
def scells : List Tr → List Value
  | [] => []
  | t :: F => scells F ++ sn t
theorem scells_length : ∀ F : List Tr, (scells F).length = F.length * 6
  | [] => rfl
  | t :: F => by simp only [scells, List.length_append, scells_length F, List.length_cons]; simp [sn]; omega
theorem info93 : (Try.prog.info? 93).map (fun i => (i.zero, i.size, i.bytes)) = some (some (.agg #[.bool false, .int .i64 0, .int .i64 0, .int .i64 0, .int .i64 0, .int .i64 0]), 6, 48) := by kernel_rfl

/-- the stack without its top -/
theorem own_pop {w : World} {base n cap g : Nat} {xs ys : List Value} (h : w.ownsRow base 93 6 (.slice (some ⟨g, 0, none⟩) (n + 1) cap) (n + 1) (xs ++ ys)) (hx : xs.length = n * 6) : w.ownsRow base 93 6 (.slice (some ⟨g, 0, none⟩) n cap) n xs := by
  refine ⟨hx, ?_⟩
  rcases h.2 with ⟨h1, _⟩ | ⟨g', cap', cur, h1, hb, hg, h2, h3, h4, h5⟩
  · simp at h1
  · have e : g = g' ∧ cap = cap' := by simp at h1; exact h1
    obtain ⟨rfl, rfl⟩ := e
    refine .inr ⟨g, cap, cur, rfl, hb, hg, by omega, h3, h4, ?_⟩
    have e2 : cur.toList.take (n * 6) = (cur.toList.take ((n + 1) * 6)).take (n * 6) := by rw [List.take_take]; congr 1; omega
    rw [e2, h5, ← hx]; simp
/-- the top of the stack -/
theorem own_top {w : World} {base cap g : Nat} {t : Tr} {F : List Tr} (h : w.ownsRow base 93 6 (.slice (some ⟨g, 0, none⟩) (F.length + 1) cap) (F.length + 1) (scells (t :: F))) :
    w.cell? ⟨g, F.length * 6, none⟩ = some (.bool t.red) ∧ w.cell? ⟨g, F.length * 6 + 1, none⟩ = some (.int .i64 (t.bh : Nat)) ∧ w.cell? ⟨g, F.length * 6 + 2, none⟩ = some (.int .i64 (t.ht : Nat)) ∧ w.cell? ⟨g, F.length * 6 + 3, none⟩ = some (.int .i64 (t.size : Nat)) ∧ w.cell? ⟨g, F.length * 6 + 4, none⟩ = some (.int .i64 t.byt) ∧ w.cell? ⟨g, F.length * 6 + 5, none⟩ = some (.int .i64 t.lin) := by
  have c : ∀ i, i < 6 → w.cell? ⟨g, F.length * 6 + i, none⟩ = (sn t)[i]? := fun i hi => by
    rw [h.cellAt (F.length * 6 + i) (by omega)]
    simp only [scells]
    rw [List.getElem?_append_right (by rw [scells_length]; omega), scells_length]
    congr 1; omega
  exact ⟨by simpa [sn] using c 0 (by omega), by simpa [sn] using c 1 (by omega), by simpa [sn] using c 2 (by omega), by simpa [sn] using c 3 (by omega), by simpa [sn] using c 4 (by omega), by simpa [sn] using c 5 (by omega)⟩
theorem own_form {w : World} {base n : Nat} {v : Value} {xs : List Value} (h : w.ownsRow base 93 6 v (n + 1) xs) : ∃ g cap, v = .slice (some ⟨g, 0, none⟩) (n + 1) cap ∧ n + 1 ≤ cap := by
  rcases h.2 with ⟨_, h0⟩ | ⟨g, cap, cur, rfl, _, _, h1, _⟩
  · omega
  · exact ⟨g, cap, rfl, h1⟩

theorem lookF_none : ∀ (L : List Rw) (j : Nat), lookF (L.drop j) = none → lookF L = none
  | [], j, h => by simpa using h
  | x :: L, 0, h => by simpa using h
  | x :: L, j + 1, h => by
    have := lookF_none L j (by simpa using h)
    simp only [lookF, this]
theorem sn_one (t : Tr) : ∀ u ∈ sn t, u.oneCell' = true := by
  intro u hu
  simp only [sn, List.mem_cons, List.not_mem_nil, or_false] at hu
  rcases hu with rfl | rfl | rfl | rfl | rfl | rfl <;> rfl
end Go.Proofs.Ytcaegdfbbjfgpaa
