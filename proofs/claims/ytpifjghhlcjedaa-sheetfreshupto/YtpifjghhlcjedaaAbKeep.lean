/- Small laws on worlds: a span in a variable of its own stays what it is behind new blocks, behind calls that turn nothing old, and behind stores elsewhere. -/
import Derived.Test.YtpifjghhlcjedaaAbCut
namespace Go.Proofs.Ytpifjghhlcjedaa.Ab
open Go.RowKit

/-- Block b of W is a variable that holds the span s, o, l. -/
def SpanAt (W : World) (b : Nat) (s o l : Int) : Prop :=
  b < W.heap.size ∧ W.cell? ⟨b, 0, none⟩ = some (.int .i64 s) ∧ W.cell? ⟨b, 1, none⟩ = some (.int .i64 o) ∧ W.cell? ⟨b, 2, none⟩ = some (.int .i64 l) ∧
    W.frozen? ⟨b, 0, none⟩ = false ∧ W.frozen? ⟨b, 1, none⟩ = false ∧ W.frozen? ⟨b, 2, none⟩ = false

theorem SpanAt.new (w : World) (s o l : Int) : SpanAt (w.alloc (.cells #[.int .i64 s, .int .i64 o, .int .i64 l] 30)) w.heap.size s o l := by
  unfold SpanAt; simp

theorem SpanAt.alloc {W : World} {b : Nat} {s o l : Int} (h : SpanAt W b s o l) (x : Obj) : SpanAt (W.alloc x) b s o l := by
  obtain ⟨hb, h0, h1, h2, f0, f1, f2⟩ := h
  refine ⟨by simp; omega, ?_, ?_, ?_, ?_, ?_, ?_⟩
  · rw [World.cell?_alloc_past x b 0 hb]; exact h0
  · rw [World.cell?_alloc_past x b 1 hb]; exact h1
  · rw [World.cell?_alloc_past x b 2 hb]; exact h2
  · rw [World.frozen?_alloc_past x b 0 hb]; exact f0
  · rw [World.frozen?_alloc_past x b 1 hb]; exact f1
  · rw [World.frozen?_alloc_past x b 2 hb]; exact f2

theorem SpanAt.keep {W w1 : World} {b : Nat} {s o l : Int} (h : SpanAt W b s o l) (hB : Below W.heap.size W w1) : SpanAt w1 b s o l := by
  obtain ⟨hb, h0, h1, h2, f0, f1, f2⟩ := h
  have hz := hB.size
  refine ⟨by omega, ?_, ?_, ?_, ?_, ?_, ?_⟩
  · rw [hB.cell (p := ⟨b, 0, none⟩) hb]; exact h0
  · rw [hB.cell (p := ⟨b, 1, none⟩) hb]; exact h1
  · rw [hB.cell (p := ⟨b, 2, none⟩) hb]; exact h2
  · rw [hB.frozen (p := ⟨b, 0, none⟩) hb]; exact f0
  · rw [hB.frozen (p := ⟨b, 1, none⟩) hb]; exact f1
  · rw [hB.frozen (p := ⟨b, 2, none⟩) hb]; exact f2

theorem SpanAt.other {W : World} {b : Nat} {s o l : Int} (h : SpanAt W b s o l) {c i : Nat} (hc : c ≠ b) (v : Value) : SpanAt (W.setCell ⟨c, i, none⟩ v) b s o l := by
  obtain ⟨hb, h0, h1, h2, f0, f1, f2⟩ := h
  refine ⟨by simpa using hb, ?_, ?_, ?_, ?_, ?_, ?_⟩
  · rw [World.cell?_setCell_other _ _ _ _ (fun e => hc (congrArg Addr.block e))]; exact h0
  · rw [World.cell?_setCell_other _ _ _ _ (fun e => hc (congrArg Addr.block e))]; exact h1
  · rw [World.cell?_setCell_other _ _ _ _ (fun e => hc (congrArg Addr.block e))]; exact h2
  · simpa using f0
  · simpa using f1
  · simpa using f2

/-- a whole span stored over another -/
theorem SpanAt.put {W : World} {b : Nat} {s o l : Int} (h : SpanAt W b s o l) (s' o' l' : Int) :
    SpanAt (((W.setCell ⟨b, 0, none⟩ (.int .i64 s')).setCell ⟨b, 1, none⟩ (.int .i64 o')).setCell ⟨b, 2, none⟩ (.int .i64 l')) b s' o' l' := by
  obtain ⟨hb, h0, h1, h2, f0, f1, f2⟩ := h
  have e1 : (W.setCell ⟨b, 0, none⟩ (.int .i64 s')).cell? ⟨b, 1, none⟩ = some (.int .i64 o) := by rw [World.cell?_setCell_other _ _ _ _ (by simp)]; exact h1
  have e2 : ((W.setCell ⟨b, 0, none⟩ (.int .i64 s')).setCell ⟨b, 1, none⟩ (.int .i64 o')).cell? ⟨b, 2, none⟩ = some (.int .i64 l) := by
    rw [World.cell?_setCell_other _ _ _ _ (by simp), World.cell?_setCell_other _ _ _ _ (by simp)]; exact h2
  refine ⟨by simpa using hb, ?_, ?_, ?_, ?_, ?_, ?_⟩
  · rw [World.cell?_setCell_other _ _ _ _ (by simp), World.cell?_setCell_other _ _ _ _ (by simp)]; exact World.cell?_setCell_same _ _ _ h0
  · rw [World.cell?_setCell_other _ _ _ _ (by simp)]; exact World.cell?_setCell_same _ _ _ e1
  · exact World.cell?_setCell_same _ _ _ e2
  · simpa using f0
  · simpa using f1
  · simpa using f2
end Go.Proofs.Ytpifjghhlcjedaa.Ab
