/- The law's awake. -/
import Derived.Test.YtienamngmalkaaaSam
import Derived.StillTailTactics
import Derived.Laws.IdiomStrings
namespace Go.Proofs.Ytienamngmalkaaa
open Go.RowKit

set_option maxRecDepth 8000
/-- the room that a text out of a string is given -/
def capW (l : List UInt8) (W : World) : Nat := grownCap W l.length 0 5
def rowW (l : List UInt8) (W : World) : Obj := .cells (bytesRow ⟨l.toArray⟩ (capW l W)) 5 ((bytesRow ⟨l.toArray⟩ (capW l W)).size, (bytesRow ⟨l.toArray⟩ (capW l W)).size + 1)
theorem cv_in (l : List UInt8) (W : World) : (convert 9 22 (.string ⟨l.toArray⟩)).run Try.prog W = .ok (.slice (some ⟨W.heap.size, 0, none⟩) l.length (capW l W)) (W.drew.alloc (rowW l W)) := by
  have h := run_bytes_of_string (P := Try.prog) W 9 22 5 ⟨l.toArray⟩ Try.underlying9 Try.underlying22 Try.underlying5
  have e : (⟨l.toArray⟩ : ByteArray).size = l.length := by simp [ByteArray.size]
  rw [e] at h
  exact h
theorem tx_in {l : List UInt8} {W W' : World} {g : Nat} (hl : l.length ≤ 1000) (hh : W'.heap[g]? = some (rowW l W)) : Tx W' (some ⟨g, 0, none⟩) l.length (capW l W) l := by
  refine ⟨rfl, grownCap_ge _ _ _ _, by omega, fun e => (by cases e), fun a ha j hj => ?_⟩
  injection ha with ha
  subst ha
  rw [add_none, Nat.zero_add]
  rw [cell_of_row _ _ j _ 5 _ hh]
  simp [bytesRow, Array.getElem?_append, hj, at8]
theorem reg_any (b : List UInt8) (w : World) (hb : b.length ≤ 1000) :
    Calls Try.prog 23 #[.string ⟨b.toArray⟩] w fun e w' => ∃ a c, e = .returned (.agg #[.bool true, .bool false, .slice a b.length c]) ∧ Tx w' a b.length c b ∧ Below w.heap.size w w' := by
  have hcv := cv_in b (w.alloc (.cells #[.bool false, .bool false, .slice none 0 0] 24))
  have B1 := Blk.new w 24 #[.bool false, .bool false, .slice none 0 0]
  generalize hW1 : w.alloc (.cells #[.bool false, .bool false, .slice none 0 0] 24) = W1 at *
  have hz1 : W1.heap.size = w.heap.size + 1 := by rw [← hW1]; simp
  have BE : Hid (Below w.heap.size w W1) := by rw [← hW1]; exact bAlloc (Below.refl _ _) _
  have hT : Tx (W1.drew.alloc (rowW b W1)) (some ⟨W1.heap.size, 0, none⟩) b.length (capW b W1) b := tx_in hb (heap_alloc_new W1.drew _)
  have hB2 : Below W1.heap.size W1 (W1.drew.alloc (rowW b W1)) := bAlloc (Below.refl _ W1).drew _
  generalize hW2 : W1.drew.alloc (rowW b W1) = W2 at *
  have HT := Hid.mk' hT
  have K := Hid.mk' (B1.keep hB2)
  have BF := Hid.mk' (bT BE.out hB2)
  rw [hz1] at hcv HT
  clear hT hB2 B1 BE
  have q0 : W2.cell? ⟨w.heap.size, 0, none⟩ = some (.bool false) := K.out.cell rfl
  have q1 : W2.cell? ⟨w.heap.size, 1, none⟩ = some (.bool false) := K.out.cell rfl
  have q2 : W2.cell? ⟨w.heap.size, 2, none⟩ = some (.slice none 0 0) := K.out.cell rfl
  have g0 := K.out.frozen 0
  have g1 := K.out.frozen 1
  have g2 := K.out.frozen 2
  generalize capW b W1 = cw at *
  generalize hbl : b.length = nb at *
  obtain ⟨W3, hW3⟩ : ∃ W, ((W2.setCell ⟨w.heap.size, 0, none⟩ (.bool true)).setCell ⟨w.heap.size, 1, none⟩ (.bool false)).setCell ⟨w.heap.size, 2, none⟩ (.slice (some ⟨w.heap.size + 1, 0, none⟩) nb cw) = W := ⟨_, rfl⟩
  have K3 : Hid (Blk W3 w.heap.size 24 #[.bool true, .bool false, .slice (some ⟨w.heap.size + 1, 0, none⟩) nb cw]) := by rw [← hW3]; exact ((K.out.set (j := 0) (.bool true)).set (j := 1) (.bool false)).set (j := 2) _
  have hlv := ld24 K3.out
  have BG : Hid (Below w.heap.size w W3) := by rw [← hW3]; exact bset (bset (bset BF.out _ (Nat.le_refl _)) _ (Nat.le_refl _)) _ (Nat.le_refl _)
  have HT3 : Hid (Tx W3 (some ⟨w.heap.size + 1, 0, none⟩) nb cw b) := by
    have h1 := HT.out
    refine ⟨h1.len, h1.cap, h1.big, h1.nil, fun a ha j hj => ?_⟩
    rw [← hW3]
    have := h1.cells a ha j hj
    injection ha with ha
    subst ha
    rw [add_none] at this ⊢
    rw [World.cell?_setCell_far, World.cell?_setCell_far, World.cell?_setCell_far]
    · exact this
    all_goals simp
  go_enter Try.func23, Try.ntmps23
  go_wp2
  exact bodyPost_ret (v := .agg #[.bool true, .bool false, .slice (some ⟨w.heap.size + 1, 0, none⟩) nb cw]) (by simp [results, Try.results23, asAddr, hlv]) rfl ⟨_, _, rfl, HT3.out, BG.out⟩
end Go.Proofs.Ytienamngmalkaaa
