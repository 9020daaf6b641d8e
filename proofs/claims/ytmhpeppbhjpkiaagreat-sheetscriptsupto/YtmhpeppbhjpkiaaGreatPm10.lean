/- A sheet in memory; its small questions (pieces, Len, Lines, Edits, hasRange, Rows). -/
import Derived.Test.YtmhpeppbhjpkiaaGreatPm01
import Derived.Test.YtmhpeppbhjpkiaaGreatPm05
import Derived.Test.YtmhpeppbhjpkiaaGreatPm06
import Derived.Test.YtmhpeppbhjpkiaaGreatPm09
namespace Go.Proofs.YtmhpeppbhjpkiaaGreat
open Go.RowKit

/-- The sheet at p (it may be nil): where its tree's root is. -/
def ShT (W : World) (p a : Option Addr) (e : Int) : Prop :=
  (p = none ∧ a = none ∧ e = 0) ∨ ∃ sb x, p = some ⟨sb, 0, none⟩ ∧ W.heap[sb]? = some (.cells #[x, .pointer a, .int .i64 e] 55 (0, 0))

theorem sh_cells {W : World} {sb : Nat} {x a y : Value} (h : W.heap[sb]? = some (.cells #[x, a, y] 55 (0, 0))) :
    W.cell? ⟨sb, 0, none⟩ = some x ∧ W.cell? ⟨sb, 1, none⟩ = some a ∧ W.cell? ⟨sb, 2, none⟩ = some y ∧ W.frozen? ⟨sb, 0, none⟩ = false ∧ W.frozen? ⟨sb, 1, none⟩ = false ∧ W.frozen? ⟨sb, 2, none⟩ = false := by
  refine ⟨?_, ?_, ?_, ?_, ?_, ?_⟩ <;> simp [World.cell?, World.frozen?, h]

theorem sh_lt {W : World} {sb : Nat} {o : Obj} (h : W.heap[sb]? = some o) : sb < W.heap.size := (Array.getElem?_eq_some_iff.1 h).1

theorem four_cells {W : World} {b : Nat} {x y z u : Value} {t : TypeId} (h : W.heap[b]? = some (.cells #[x, y, z, u] t (0, 0))) : W.cell? ⟨b, 0, none⟩ = some x ∧ W.cell? ⟨b, 1, none⟩ = some y ∧ W.cell? ⟨b, 2, none⟩ = some z ∧ W.cell? ⟨b, 3, none⟩ = some u := by
  refine ⟨?_, ?_, ?_, ?_⟩ <;> simp [World.cell?, h]

/-- A block that is not frozen. -/
theorem free_all {W : World} {b : Nat} {cs : Array Value} {t : TypeId} (h : W.heap[b]? = some (.cells cs t (0, 0))) : ∀ i, W.frozen? ⟨b, i, none⟩ = false := by
  intro i
  simp [World.frozen?, h]

/-- Four stores fill a block of four. -/
theorem set_four {W : World} {b : Nat} {x y z u : Value} {t : TypeId} (h : W.heap[b]? = some (.cells #[x, y, z, u] t (0, 0))) (x' y' z' u' : Value) :
    ((((W.setCell ⟨b, 0, none⟩ x').setCell ⟨b, 1, none⟩ y').setCell ⟨b, 2, none⟩ z').setCell ⟨b, 3, none⟩ u').heap[b]? = some (.cells #[x', y', z', u'] t (0, 0)) ∧
    (∀ k, k ≠ b → ((((W.setCell ⟨b, 0, none⟩ x').setCell ⟨b, 1, none⟩ y').setCell ⟨b, 2, none⟩ z').setCell ⟨b, 3, none⟩ u').heap[k]? = W.heap[k]?) ∧
    ((((W.setCell ⟨b, 0, none⟩ x').setCell ⟨b, 1, none⟩ y').setCell ⟨b, 2, none⟩ z').setCell ⟨b, 3, none⟩ u').heap.size = W.heap.size := by
  have one : ∀ (V : World) (cs : Array Value) (i : Nat) (v : Value), V.heap[b]? = some (.cells cs t (0, 0)) → (V.setCell ⟨b, i, none⟩ v).heap[b]? = some (.cells (cs.setIfInBounds i v) t (0, 0)) := by
    intro V cs i v hV
    obtain ⟨hlt, hk'⟩ := Array.getElem?_eq_some_iff.1 hV
    show (V.heap.modify b _)[b]? = _
    rw [Array.getElem?_eq_getElem (by rw [Array.size_modify]; exact hlt), Array.getElem_modify_self, hk']
    rfl
  refine ⟨?_, ?_, ?_⟩
  · exact one _ _ 3 _ (one _ _ 2 _ (one _ _ 1 _ (one _ _ 0 _ h)))
  · intro k hk
    rw [Below.heap_setCell _ _ _ _ hk, Below.heap_setCell _ _ _ _ hk, Below.heap_setCell _ _ _ _ hk, Below.heap_setCell _ _ _ _ hk]
  · simp [World.setCell]

theorem ShT.keep {W W' : World} {p a : Option Addr} {e : Int} (h : ShT W p a e) (hb : Below W.heap.size W W') : ShT W' p a e := by
  rcases h with h | ⟨sb, x, e1, h⟩
  · exact .inl h
  · exact .inr ⟨sb, x, e1, (hb.block sb (sh_lt h)).trans h⟩

set_option maxHeartbeats 400000 in
theorem shTree_nil (w : World) : Calls Tryz.prog 45 #[.pointer none] w fun e w' => e = .returned (.agg #[.pointer none]) ∧ Below w.heap.size w w' := by
  go_enter Tryz.func45, Tryz.ntmps45
  go_wp2
  exact bodyPost_ret (v := .agg #[.pointer none]) (by simp [results, Tryz.results45, go_sem]) rfl ⟨rfl, bAlloc (Below.refl _ _) _⟩

set_option maxHeartbeats 400000 in
theorem shTree_some (sb : Nat) (x : Value) (a : Option Addr) (y : Value) (w : World) (h : w.heap[sb]? = some (.cells #[x, .pointer a, y] 55 (0, 0))) : Calls Tryz.prog 45 #[.pointer (some ⟨sb, 0, none⟩)] w fun e w' => e = .returned (.agg #[.pointer a]) ∧ Below w.heap.size w w' := by
  obtain ⟨c0, c1, c2, f0, f1, f2⟩ := sh_cells h
  have hlt := sh_lt h
  clear h
  go_enter Tryz.func45, Tryz.ntmps45
  go_wp2
  exact bodyPost_ret (v := .agg #[.pointer a]) (by simp [results, Tryz.results45, go_sem]) rfl ⟨rfl, bAlloc (Below.refl _ _) _⟩

theorem shTree_any (p a : Option Addr) (n : Int) (w : World) (h : Hid (ShT w p a n)) : Calls Tryz.prog 45 #[.pointer p] w fun e w' => e = .returned (.agg #[.pointer a]) ∧ Below w.heap.size w w' := by
  rcases h.out with ⟨rfl, rfl, _⟩ | ⟨sb, x, rfl, h1⟩
  · exact shTree_nil w
  · exact shTree_some sb x a _ w h1

set_option maxHeartbeats 400000 in
theorem sLen_any (p a : Option Addr) (n : Int) (t : Tr) (w : World) (h : Hid (ShT w p a n)) (ht : Hid (At w t a)) : Calls Tryz.prog 39 #[.pointer p] w fun e w' => e = .returned (.int .i64 t.byt) ∧ Below w.heap.size w w' := by
  go_enter Tryz.func39, Tryz.ntmps39
  go_wp2_with (first | (go_at_call 45; refine (shTree_any p a n _ h).mono ?_; rintro e w9 ⟨rfl, hb9⟩)
                     | (go_at_call 73; refine (Bytes_any t a _ (ht.out.keep hb9)).mono ?_; rintro e w8 ⟨rfl, rfl⟩))
  go_ret
  exact ⟨rfl, bAlloc hb9 _⟩

set_option maxHeartbeats 400000 in
theorem sLines_any (p a : Option Addr) (n : Int) (t : Tr) (w : World) (h : Hid (ShT w p a n)) (ht : Hid (At w t a)) (h1 : 0 ≤ t.lin) (h2 : t.lin ≤ 4611686018427387904) : Calls Tryz.prog 30 #[.pointer p] w fun e w' => e = .returned (.int .i64 (t.lin + 1)) ∧ Below w.heap.size w w' := by
  go_enter Tryz.func30, Tryz.ntmps30
  go_wp2_with (first | (go_at_call 45; refine (shTree_any p a n _ h).mono ?_; rintro e w9 ⟨rfl, hb9⟩)
                     | (go_at_call 65; refine (Lines_any t a _ (ht.out.keep hb9)).mono ?_; rintro e w8 ⟨rfl, rfl⟩))
  go_ret
  exact ⟨rfl, bAlloc hb9 _⟩

set_option maxHeartbeats 400000 in
theorem edits_some (sb : Nat) (x : Value) (a : Value) (n : Int) (w : World) (h : w.heap[sb]? = some (.cells #[x, a, .int .i64 n] 55 (0, 0))) : Calls Tryz.prog 16 #[.pointer (some ⟨sb, 0, none⟩)] w fun e w' => e = .returned (.int .i64 n) ∧ Below w.heap.size w w' := by
  obtain ⟨c0, c1, c2, f0, f1, f2⟩ := sh_cells h
  clear h
  go_enter Tryz.func16, Tryz.ntmps16
  go_wp2
  go_ret
  exact ⟨rfl, Below.refl _ _⟩

set_option maxHeartbeats 400000 in
theorem edits_nil (w : World) : Calls Tryz.prog 16 #[.pointer none] w fun e w' => e = .returned (.int .i64 0) ∧ Below w.heap.size w w' := by
  go_enter Tryz.func16, Tryz.ntmps16
  go_wp2
  go_ret
  exact ⟨rfl, Below.refl _ _⟩

theorem edits_any (p a : Option Addr) (n : Int) (w : World) (h : Hid (ShT w p a n)) : Calls Tryz.prog 16 #[.pointer p] w fun e w' => e = .returned (.int .i64 n) ∧ Below w.heap.size w w' := by
  rcases h.out with ⟨rfl, rfl, rfl⟩ | ⟨sb, x, rfl, h1⟩
  · exact edits_nil w
  · exact edits_some sb x _ n w h1

set_option maxHeartbeats 400000 in
theorem sRows_any (p a : Option Addr) (n : Int) (t : Tr) (w : World) (h : Hid (ShT w p a n)) (ht : Hid (At w t a)) (hz : Hid (t.size ≤ 2097152)) :
    Calls Tryz.prog 17 #[.pointer p] w fun e w' => ∃ ao cap, e = .returned (.slice ao t.size cap) ∧ w'.ownsRow w.heap.size 128 10 (.slice ao t.size cap) t.size (rcells (rowsT t)) ∧ Below w.heap.size w w' := by
  go_enter Tryz.func17, Tryz.ntmps17
  go_wp2_with (first | (go_at_call 45; refine (shTree_any p a n _ h).mono ?_; rintro e w9 ⟨rfl, hb9⟩)
                     | (go_at_call 47; refine (Rows_any t a _ hz (ht.out.keep hb9)).mono ?_; rintro e w8 ⟨ao, cap, rfl, hr8, hb8⟩))
  go_ret
  exact ⟨ao, cap, rfl, Ab.own_lower hr8 hb9.size, hb9.trans (hb8.mono hb9.size)⟩

set_option maxHeartbeats 1000000 in
theorem hasRange_any (p a : Option Addr) (n : Int) (t : Tr) (x y : Int) (w : World) (h : Hid (ShT w p a n)) (ht : Hid (At w t a)) :
    Calls Tryz.prog 42 #[.pointer p, .int .i64 x, .int .i64 y] w fun e w' => e = .returned (.bool (decide (0 ≤ x ∧ x ≤ y ∧ y ≤ t.byt))) ∧ Below w.heap.size w w' := by
  go_enter Tryz.func42, Tryz.ntmps42
  go_wp2_with (first | (go_at_call 39; refine (sLen_any p a n t _ h ht).mono ?_; rintro e w9 ⟨rfl, hb9⟩))
  · rename_i e1 e2
    go_ret
    exact ⟨Ab.ret_bool (by simp [e1, e2]), hb9⟩
  · rename_i e1 e2
    go_ret
    exact ⟨Ab.ret_bool (by simp; intros; omega), Below.refl _ _⟩
  · rename_i e1
    go_ret
    exact ⟨Ab.ret_bool (by simp; intros; omega), Below.refl _ _⟩

end Go.Proofs.YtmhpeppbhjpkiaaGreat

