/- The contract of makeNode: a new node with its sums, for two trees that lie in memory. -/
import Derived.Test.YtpifjghhlcjedaaTree
namespace Go.Proofs.Ytpifjghhlcjedaa
open Go.RowKit

theorem has_ptr {w : World} {t : Tr} {a : Option Addr} (h : At w t a) : a.isSome = t.has := by
  cases t using Tr.el with
  | nil => have e : a = none := h; subst e; rfl
  | node c l p r => obtain ⟨b, la, ra, rfl, -⟩ := h; rfl

theorem made_here (w : World) (o1 o2 x : Obj) (h : o2 = x) : ((w.alloc o1).alloc o2).drew.heap[w.heap.size + 1]? = some x := by
  subst h
  show ((w.alloc o1).heap.push o2)[w.heap.size + 1]? = _
  rw [Array.getElem?_push, if_pos (by simp)]

theorem node_eq {c x5 x6 : Bool} {l : Tr} {s o n k : Int} {r : Tr} {la ra : Option Addr} {x7 x8 x9 x12 x13 : Int} (h5 : x5 = l.has) (h6 : x6 = r.has)
    (h7 : x7 = (((Tr.mk (some (c, l, ⟨s, o, n, k⟩, r)))).size : Nat)) (h8 : x8 = ((Tr.mk (some (c, l, ⟨s, o, n, k⟩, r)))).byt) (h9 : x9 = ((Tr.mk (some (c, l, ⟨s, o, n, k⟩, r)))).lin) (h12 : x12 = (((Tr.mk (some (c, l, ⟨s, o, n, k⟩, r)))).bh : Nat)) (h13 : x13 = (((Tr.mk (some (c, l, ⟨s, o, n, k⟩, r)))).ht : Nat)) :
    Obj.cells #[.int .i64 s, .int .i64 o, .int .i64 n, .int .i64 k, .bool c, .bool x5, .bool x6, .int .i64 x7, .int .i64 x8, .int .i64 x9, .pointer la, .pointer ra, .int .i64 x12, .int .i64 x13] 137 = nodeObj c l ⟨s, o, n, k⟩ r la ra := by
  subst h5 h6 h7 h8 h9 h12 h13; rfl

theorem w64 {x : Int} (h1 : -9223372036854775808 ≤ x) (h2 : x ≤ 9223372036854775807) : wrap64 x = x := Go.IntWalk.wrap64_in x ⟨h1, h2⟩
theorem sum7 {c : Bool} {l r : Tr} {p : Pc} (h : ((Tr.mk (some (c, l, p, r)))).fine) : wrap64 (wrap64 (↑l.size + 1) + ↑r.size) = (((Tr.mk (some (c, l, p, r)))).size : Nat) := by
  have := h.2; simp only [Tr.size] at *
  rw [w64 (x := (l.size : Int) + 1) (by omega) (by omega), w64 (by omega) (by omega)]; push_cast; rfl
theorem sum8 {c : Bool} {l r : Tr} {s o n k : Int} (h : ((Tr.mk (some (c, l, ⟨s, o, n, k⟩, r)))).fine) : wrap64 (wrap64 (l.byt + n) + r.byt) = ((Tr.mk (some (c, l, ⟨s, o, n, k⟩, r)))).byt := by
  have h0 := h.2; have h1 := l.fits_bounds h.left.1; have h2 := r.fits_bounds h.right.1; have h3 := h.piece; simp only [Tr.size, Pc.fit, Tr.byt] at *
  rw [w64 (x := l.byt + n) (by omega) (by omega), w64 (by omega) (by omega)]
theorem sum9 {c : Bool} {l r : Tr} {s o n k : Int} (h : ((Tr.mk (some (c, l, ⟨s, o, n, k⟩, r)))).fine) : wrap64 (wrap64 (l.lin + k) + r.lin) = ((Tr.mk (some (c, l, ⟨s, o, n, k⟩, r)))).lin := by
  have h0 := h.2; have h1 := l.fits_bounds h.left.1; have h2 := r.fits_bounds h.right.1; have h3 := h.piece; simp only [Tr.size, Pc.fit, Tr.lin] at *
  rw [w64 (x := l.lin + k) (by omega) (by omega), w64 (by omega) (by omega)]
theorem sum12 {c : Bool} {l r : Tr} {p : Pc} (h : ((Tr.mk (some (c, l, p, r)))).fine) (hc : (!c) = true) : wrap64 (↑l.bh + 1) = (((Tr.mk (some (c, l, p, r)))).bh : Nat) := by
  have := h.2; have := l.bh_le; simp only [Tr.size] at *
  have e : c = false := by simpa using hc
  subst e
  rw [w64 (by omega) (by omega)]; simp [Tr.bh]
theorem sum12' {c : Bool} {l r : Tr} {p : Pc} (hc : (!c) = false) : (l.bh : Int) = (((Tr.mk (some (c, l, p, r)))).bh : Nat) := by
  have e : c = true := by simpa using hc
  subst e; simp [Tr.bh]
theorem sum13 {c : Bool} {l r : Tr} {p : Pc} (h : ((Tr.mk (some (c, l, p, r)))).fine) (hc : l.ht < r.ht) : wrap64 (1 + ↑r.ht) = (((Tr.mk (some (c, l, p, r)))).ht : Nat) := by
  have := h.2; have := r.ht_le; simp only [Tr.size] at *
  rw [w64 (by omega) (by omega)]; simp only [Tr.ht]; omega
theorem sum13' {c : Bool} {l r : Tr} {p : Pc} (h : ((Tr.mk (some (c, l, p, r)))).fine) (hc : ¬ l.ht < r.ht) : wrap64 (1 + ↑l.ht) = (((Tr.mk (some (c, l, p, r)))).ht : Nat) := by
  have := h.2; have := l.ht_le; simp only [Tr.size] at *
  rw [w64 (by omega) (by omega)]; simp only [Tr.ht]; omega

set_option maxHeartbeats 4000000 in
theorem make_any (c : Bool) (l : Tr) (s o n k : Int) (r : Tr) (la ra : Option Addr) (w : World) (hf : Hid (((Tr.mk (some (c, l, ⟨s, o, n, k⟩, r)))).fine)) (hl : Hid (At w l la)) (hr : Hid (At w r ra)) :
    Calls Try.prog 91 #[.bool c, .pointer la, .agg #[.int .i64 s, .int .i64 o, .int .i64 n, .int .i64 k], .pointer ra] w fun e w' =>
      ∃ b, e = .returned (.pointer (some ⟨b, 0, none⟩)) ∧ At w' ((Tr.mk (some (c, l, ⟨s, o, n, k⟩, r)))) (some ⟨b, 0, none⟩) ∧ Below w.heap.size w w' := by
  go_enter Try.func91, Try.ntmps91
  go_wp2
  go_region_held3 (fun w' => w'.cell? ⟨w.heap.size, 0, none⟩ = some (.int .i64 s) ∧ w'.cell? ⟨w.heap.size, 1, none⟩ = some (.int .i64 o) ∧ w'.cell? ⟨w.heap.size, 2, none⟩ = some (.int .i64 n) ∧ w'.cell? ⟨w.heap.size, 3, none⟩ = some (.int .i64 k)) (simp [go_sem, World.cell?_alloc_past])
    (first | (go_at_call_of 61 (Value.pointer la); refine (pieces_any l la _ (((hl.out.alloc _).alloc _).drew)).mono ?_; rintro e w' ⟨rfl, rfl⟩)
           | (go_at_call_of 61 (Value.pointer ra); refine (pieces_any r ra _ (((hr.out.alloc _).alloc _).drew)).mono ?_; rintro e w' ⟨rfl, rfl⟩)
           | (go_at_call_of 89 (Value.pointer la); refine (bytes_any l la _ (((hl.out.alloc _).alloc _).drew)).mono ?_; rintro e w' ⟨rfl, rfl⟩)
           | (go_at_call_of 89 (Value.pointer ra); refine (bytes_any r ra _ (((hr.out.alloc _).alloc _).drew)).mono ?_; rintro e w' ⟨rfl, rfl⟩)
           | (go_at_call_of 96 (Value.pointer la); refine (lines_any l la _ (((hl.out.alloc _).alloc _).drew)).mono ?_; rintro e w' ⟨rfl, rfl⟩)
           | (go_at_call_of 96 (Value.pointer ra); refine (lines_any r ra _ (((hr.out.alloc _).alloc _).drew)).mono ?_; rintro e w' ⟨rfl, rfl⟩))
  go_wp2_with (first | (go_at_call_of 95 (Value.pointer la); refine (height_any l la _ (((hl.out.alloc _).alloc _).drew)).mono ?_; rintro e w' ⟨rfl, rfl⟩)
                     | (go_at_call_of 95 (Value.pointer ra); refine (height_any r ra _ (((hr.out.alloc _).alloc _).drew)).mono ?_; rintro e w' ⟨rfl, rfl⟩)
                     | (go_at_call_of 90 (Value.pointer la); refine (black_any l la _ (((hl.out.alloc _).alloc _).drew)).mono ?_; rintro e w' ⟨rfl, rfl⟩))
  all_goals go_ret
  all_goals refine ⟨_, rfl, ⟨w.heap.size + 1, la, ra, rfl, made_here w _ _ _ (node_eq (has_ptr hl.out) (has_ptr hr.out) ?_ ?_ ?_ ?_ ?_), ((hl.out.alloc _).alloc _).drew, ((hr.out.alloc _).alloc _).drew⟩, (bAlloc (bAlloc (Below.refl _ _) _) _).drew⟩
  all_goals first | exact sum7 hf.out | exact sum8 hf.out | exact sum9 hf.out | exact sum12 hf.out (by assumption) | exact sum12' (by assumption) | exact sum13 hf.out (by assumption) | exact sum13' hf.out (by assumption)
end Go.Proofs.Ytpifjghhlcjedaa
