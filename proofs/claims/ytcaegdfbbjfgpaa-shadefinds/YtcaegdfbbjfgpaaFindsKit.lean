/- The walk of quoinlaw02.ShadeFinds. -/
import Derived.Test.YtcaegdfbbjfgpaaAlive
import Derived.Test.YtcaegdfbbjfgpaaFindL
namespace Go.Proofs.Ytcaegdfbbjfgpaa
open Go.RowKit

theorem buildT_fine {L : List Pc} (h : L.length ≤ 1048576) : (Tr.buildT (good L)).fine ∧ (Tr.buildT (good L)).whole :=
  ⟨(fineL_good h).of (Tr.buildT_ok _ _ (Nat.le_refl _)).2, (Tr.buildT_ok _ _ (Nat.le_refl _)).1⟩

/-- The box of a tree, and the tree. -/
def TB (w : World) (b : Nat) (t : Tr) (a : Option Addr) : Prop := w.heap[b]? = some (Obj.cells #[.pointer a] 26 (0, 0)) ∧ At w t a
theorem TB.keep {w w' : World} {b : Nat} {t : Tr} {a : Option Addr} (h : TB w b t a) (hb : Below w.heap.size w w') : TB w' b t a := ⟨nkeep h.1 hb, h.2.keep hb⟩
theorem TB.alloc {w : World} {b : Nat} {t : Tr} {a : Option Addr} (h : TB w b t a) (x : Obj) : TB (w.alloc x) b t a := h.keep (bAlloc (Below.refl _ _) x)
theorem TB.new {w : World} {t : Tr} {a : Option Addr} (h : At w t a) : TB (w.alloc (.cells #[.pointer a] 26)) w.heap.size t a := ⟨heap_alloc_new _ _, h.alloc _⟩
theorem TB.c {w : World} {b : Nat} {t : Tr} {a : Option Addr} (h : TB w b t a) : w.cell? ⟨b, 0, none⟩ = some (.pointer a) := box_cell h.1

theorem hitB {t : Tr} {m : Int} {j : Nat} {x : Int} (hf : t.fine) (h : Hit52 t.list m j x) : ∃ p, t.list[j]? = some p ∧ j < t.size ∧ 0 ≤ x ∧ x < p.l ∧ wrap64 (sB (t.list.take j) + x) = m := by
  obtain ⟨p, h1, h2, h3, h4⟩ := h
  have hj := (List.getElem?_eq_some_iff.1 h1).1
  rw [Tr.size_list] at hj
  have b := sB_bounds hf.list j
  have q := hf.list.1 p (List.mem_of_getElem? h1)
  unfold Pc.fit at q
  exact ⟨p, h1, hj, h2, h3, by rw [w64 (by omega) (by omega)]; omega⟩
theorem hitL {t : Tr} {m : Int} {j : Nat} {x : Int} (hf : t.fine) (h : Hit53 t.list m j x) : ∃ p, t.list[j]? = some p ∧ j < t.size ∧ 0 ≤ x ∧ x < p.n ∧ wrap64 (sL (t.list.take j) + x) = m := by
  obtain ⟨p, h1, h2, h3, h4⟩ := h
  have hj := (List.getElem?_eq_some_iff.1 h1).1
  rw [Tr.size_list] at hj
  have b := sB_bounds hf.list j
  have q := hf.list.1 p (List.mem_of_getElem? h1)
  unfold Pc.fit at q
  exact ⟨p, h1, hj, h2, h3, by rw [w64 (by omega) (by omega)]; omega⟩

set_option maxHeartbeats 4000000 in
theorem finds_long (ao : Option Addr) (n c : Nat) (m : Int) (w : World) (hn : (5000 : Int) < (n : Int)) :
    Calls Try.prog 7 #[.slice ao n c, .int .i64 m] w fun e w' => e = .returned (.bool true) ∧ Below w.heap.size w w' := by
  go_enter Try.func7, Try.ntmps7
  go_wp2_with (go_at_call 9; refine (alive_any _).mono ?_; rintro e w1 ⟨rfl, hb1⟩)
  go_ret
  exact ⟨rfl, hb1⟩
end Go.Proofs.Ytcaegdfbbjfgpaa
