/- The contract of blackened: the tree with its root made black. -/
import Derived.Test.YtpifjghhlcjedaaPure
import Derived.Test.YtpifjghhlcjedaaMake
namespace Go.Proofs.Ytpifjghhlcjedaa
open Go.RowKit

/-- The call gave a pointer to the tree t; nothing that was there has turned. -/
def Gave (w : World) (t : Tr) (e : Ending) (w' : World) : Prop := ∃ a, e = .returned (.pointer a) ∧ At w' t a ∧ Below w.heap.size w w'

theorem nkeep {w w' : World} {b : Nat} {x : Obj} (h : w.heap[b]? = some x) (hb : Below w.heap.size w w') : w'.heap[b]? = some x := by
  rw [hb.block b (Array.getElem?_eq_some_iff.1 h).1]; exact h

/-- the cells of a node that regions read: piece, colour, kids -/
theorem s7 {w : World} {b : Nat} {c : Bool} {l : Tr} {s o n k : Int} {r : Tr} {la ra : Option Addr} (h : w.heap[b]? = some (nodeObj c l ⟨s, o, n, k⟩ r la ra)) :
    w.cell? ⟨b, 0, none⟩ = some (.int .i64 s) ∧ w.cell? ⟨b, 1, none⟩ = some (.int .i64 o) ∧ w.cell? ⟨b, 2, none⟩ = some (.int .i64 n) ∧ w.cell? ⟨b, 3, none⟩ = some (.int .i64 k) ∧ w.cell? ⟨b, 10, none⟩ = some (.pointer la) ∧ w.cell? ⟨b, 11, none⟩ = some (.pointer ra) := by
  have q := ncells h
  exact ⟨q.c0, q.c1, q.c2, q.c3, q.c10, q.c11⟩

theorem bD {w w' : World} (h : Below w.drew.heap.size w.drew w') : Below w.heap.size w w' := Below.trans (Below.refl w.heap.size w).drew h
theorem bA {w w' : World} {x : Obj} (h : Below (w.alloc x).heap.size (w.alloc x) w') : Below w.heap.size w w' := Below.trans (bAlloc (Below.refl w.heap.size w) x) (h.mono (by simp))

theorem fine_color {c c' : Bool} {l : Tr} {p : Pc} {r : Tr} (h : ((Tr.mk (some (c, l, p, r)))).fine) : ((Tr.mk (some (c', l, p, r)))).fine := h

set_option maxHeartbeats 4000000 in
theorem blackened_any (t : Tr) (a : Option Addr) (w : World) (hf : Hid t.fine) (h : Hid (At w t a)) :
    Calls Try.prog 93 #[.pointer a] w fun e w' => Gave w t.blk e w' := by
  match t, hf, h with
  | (Tr.mk none), hf, h =>
    have e := h.out; simp only [At] at e; subst e
    go_enter Try.func93, Try.ntmps93
    go_wp2_with (go_at_call 76; refine (isRed_any (Tr.mk none) _ _ h).mono ?_; rintro e w' ⟨rfl, rfl⟩)
    go_ret
    exact ⟨_, rfl, rfl, Below.refl _ _⟩
  | (Tr.mk (some (false, l, ⟨s, o, n, k⟩, r))), hf, h =>
    go_enter Try.func93, Try.ntmps93
    go_wp2_with (go_at_call 76; refine (isRed_any _ _ _ h).mono ?_; rintro e w' ⟨rfl, rfl⟩; rw [show ((Tr.mk (some (false, l, ⟨s, o, n, k⟩, r)))).red = false from rfl])
    go_ret
    exact ⟨_, rfl, h.out, Below.refl _ _⟩
  | (Tr.mk (some (true, l, ⟨s, o, n, k⟩, r))), hf, h =>
    obtain ⟨b, la, ra, rfl, hn, hl, hr⟩ := h.out
    have HL : Hid (At w l la) := hl
    have HR : Hid (At w r ra) := hr
    have HN : Hid (w.heap[b]? = some (nodeObj true l ⟨s, o, n, k⟩ r la ra)) := hn
    obtain ⟨c0, c1, c2, c3, c10, c11⟩ := s7 hn
    clear hn hl hr
    go_enter Try.func93, Try.ntmps93
    go_wp2_with (go_at_call 76; refine (isRed_any _ _ _ h).mono ?_; rintro e w' ⟨rfl, rfl⟩; rw [show ((Tr.mk (some (true, l, ⟨s, o, n, k⟩, r)))).red = true from rfl])
    go_region_held3 (fun w' => w'.cell? ⟨b, 0, none⟩ = some (.int .i64 s) ∧ w'.cell? ⟨b, 1, none⟩ = some (.int .i64 o) ∧ w'.cell? ⟨b, 2, none⟩ = some (.int .i64 n) ∧ w'.cell? ⟨b, 3, none⟩ = some (.int .i64 k) ∧ w'.cell? ⟨b, 10, none⟩ = some (.pointer la) ∧ w'.cell? ⟨b, 11, none⟩ = some (.pointer ra)) (first | assumption | simp [*, go_sem])
      (first | (go_at_call 91; refine (make_any false l s o n k r la ra _ (fine_color hf.out) HL.out.drew HR.out.drew).mono ?_; rintro e w9 ⟨b9, rfl, hat9, hb9⟩; have k9 := s7 (nkeep HN.out (bD hb9))))
    go_wp2
    go_ret
    exact ⟨_, rfl, hat9, bD hb9⟩
end Go.Proofs.Ytpifjghhlcjedaa
