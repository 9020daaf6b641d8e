/- The contracts of set, Set, Insert, Split and Join. -/
import Derived.Test.YtcaegdfbbjfgpaaAm16
namespace Go.Proofs.Ytcaegdfbbjfgpaa
open Go.RowKit

/-- another piece at a place -/
def Tr.setT : Tr → Nat → Pc → Tr
  | (Tr.mk none), _, _ => Tr.mk none
  | (Tr.mk (some (c, l, q, r))), i, p =>
    if i < l.size then Tr.mk (some (c, l.setT i p, q, r)) else if i = l.size then Tr.mk (some (c, l, p, r)) else Tr.mk (some (c, l, q, r.setT (i - l.size - 1) p))
theorem setT_size : ∀ (t : Tr) (i : Nat) (p : Pc), (t.setT i p).size = t.size ∧ (t.setT i p).bh = t.bh ∧ (t.setT i p).red = t.red ∧ (t.bal → (t.setT i p).bal)
  | (Tr.mk none), i, p => by simp [Tr.setT]
  | (Tr.mk (some (c, l, q, r))), i, p => by
    simp only [Tr.setT]
    have a := setT_size l i p
    have b := setT_size r (i - l.size - 1) p
    split
    · refine ⟨by simp only [Tr.size, a.1], by simp only [Tr.bh, a.2.1], rfl, fun h => ⟨a.2.2.2 h.1, h.2.1, by rw [a.2.1]; exact h.2.2.1, by rw [a.2.2.1]; exact h.2.2.2⟩⟩
    · split
      · exact ⟨rfl, rfl, rfl, fun h => h⟩
      · refine ⟨by simp only [Tr.size, b.1], rfl, rfl, fun h => ⟨h.1, b.2.2.2 h.2.1, by rw [b.2.1]; exact h.2.2.1, by rw [b.2.2.1]; exact h.2.2.2⟩⟩
theorem setT_whole {t : Tr} (h : t.whole) (i : Nat) (p : Pc) : (t.setT i p).whole := ⟨(setT_size t i p).2.2.2 h.1, by rw [(setT_size t i p).2.2.1]; exact h.2⟩
theorem setT_list : ∀ (t : Tr) (i : Nat) (p : Pc), (t.setT i p).list = t.list.set i p
  | (Tr.mk none), i, p => by simp [Tr.setT, Tr.list]
  | (Tr.mk (some (c, l, q, r))), i, p => by
    have z := Tr.size_list l
    simp only [Tr.setT]
    split
    · simp only [Tr.list]; rw [setT_list l i p, List.set_append_left _ _ (by omega)]
    · split
      · rename_i h; subst h; simp only [Tr.list]; rw [List.set_append_right _ _ (by omega), z, Nat.sub_self]; rfl
      · rename_i h1 h2
        simp only [Tr.list]
        rw [setT_list r _ p, List.set_append_right _ _ (by omega), z]
        obtain ⟨j, hj⟩ : ∃ j, i - l.size = j + 1 := ⟨i - l.size - 1, by omega⟩
        rw [hj]; rfl
theorem setT_fine {t : Tr} (h : t.fine) (i : Nat) {p : Pc} (hp : p.fit) : (t.setT i p).fine := by
  refine (Tr.fine_list _).2 ?_
  rw [setT_list, List.length_set]
  refine ⟨fun q hq => ?_, ((Tr.fine_list t).1 h).2⟩
  rcases List.mem_or_eq_of_mem_set hq with h1 | rfl
  · exact ((Tr.fine_list t).1 h).1 q h1
  · exact hp

theorem boxk {w w' : World} {x : Obj} (hb : Below ((w.alloc x).drew).heap.size ((w.alloc x).drew) w') : w'.heap[w.heap.size]? = some x := nkeep (heap_alloc_new w x) (bD hb)
theorem s11c {w : World} {b bx : Nat} {c : Bool} {l : Tr} {qs qo qn qk : Int} {r : Tr} {la ra : Option Addr} {s o n k : Int} (h : w.heap[b]? = some (nodeObj c l ⟨qs, qo, qn, qk⟩ r la ra)) (hx : w.heap[bx]? = some (Obj.cells #[.int .i64 s, .int .i64 o, .int .i64 n, .int .i64 k] 32 (0, 0))) :
    w.cell? ⟨b, 0, none⟩ = some (.int .i64 qs) ∧ w.cell? ⟨b, 1, none⟩ = some (.int .i64 qo) ∧ w.cell? ⟨b, 2, none⟩ = some (.int .i64 qn) ∧ w.cell? ⟨b, 3, none⟩ = some (.int .i64 qk) ∧ w.cell? ⟨b, 4, none⟩ = some (.bool c) ∧ w.cell? ⟨b, 10, none⟩ = some (.pointer la) ∧ w.cell? ⟨b, 11, none⟩ = some (.pointer ra) ∧ w.cell? ⟨bx, 0, none⟩ = some (.int .i64 s) ∧ w.cell? ⟨bx, 1, none⟩ = some (.int .i64 o) ∧ w.cell? ⟨bx, 2, none⟩ = some (.int .i64 n) ∧ w.cell? ⟨bx, 3, none⟩ = some (.int .i64 k) := by
  have q := ncells h
  have e := fun j => cell_of_row w bx j _ 32 (0, 0) hx
  exact ⟨q.c0, q.c1, q.c2, q.c3, q.c4, q.c10, q.c11, by rw [e]; rfl, by rw [e]; rfl, by rw [e]; rfl, by rw [e]; rfl⟩

set_option maxHeartbeats 4000000 in
theorem set_left (c : Bool) (l r : Tr) (qs qo qn qk s o n k : Int) (i : Nat) (a : Option Addr) (w : World) (hi : Hid (i < l.size)) (_hz : Hid (i ≤ 1048576)) (hf : Hid ((Tr.mk (some (c, l.setT i ⟨s, o, n, k⟩, ⟨qs, qo, qn, qk⟩, r)))).fine) (h : Hid (At w (Tr.mk (some (c, l, ⟨qs, qo, qn, qk⟩, r))) a))
    (IH : Hid (∀ a w, At w l a → Calls Try.prog 64 #[.pointer a, .int .i64 (i : Nat), .agg #[.int .i64 s, .int .i64 o, .int .i64 n, .int .i64 k]] w fun e w' => Gave w (l.setT i ⟨s, o, n, k⟩) e w')) :
    Calls Try.prog 64 #[.pointer a, .int .i64 (i : Nat), .agg #[.int .i64 s, .int .i64 o, .int .i64 n, .int .i64 k]] w fun e w' => Gave w (Tr.mk (some (c, l.setT i ⟨s, o, n, k⟩, ⟨qs, qo, qn, qk⟩, r))) e w' := by
  obtain ⟨b, la, ra, rfl, hn, hl, hr⟩ := h.out
  have HL : Hid (At w l la) := hl
  have HR : Hid (At w r ra) := hr
  have HN : Hid (w.heap[b]? = some (nodeObj c l ⟨qs, qo, qn, qk⟩ r la ra)) := hn
  have c10 := s10 hn
  have g1 : (i : Int) < (l.size : Int) := by have := hi.out; omega
  clear hn hl hr h
  go_enter Try.func64, Try.ntmps64
  go_wp2_with (first | (go_at_call 51; refine (pieces_any l _ _ (HL.out.alloc _)).mono ?_; rintro e w' ⟨rfl, rfl⟩))
  go_region_held3 (fun w' => w'.cell? ⟨b, 0, none⟩ = some (.int .i64 qs) ∧ w'.cell? ⟨b, 1, none⟩ = some (.int .i64 qo) ∧ w'.cell? ⟨b, 2, none⟩ = some (.int .i64 qn) ∧ w'.cell? ⟨b, 3, none⟩ = some (.int .i64 qk) ∧ w'.cell? ⟨b, 4, none⟩ = some (.bool c) ∧ w'.cell? ⟨b, 10, none⟩ = some (.pointer la) ∧ w'.cell? ⟨b, 11, none⟩ = some (.pointer ra) ∧ w'.cell? ⟨w.heap.size, 0, none⟩ = some (.int .i64 s) ∧ w'.cell? ⟨w.heap.size, 1, none⟩ = some (.int .i64 o) ∧ w'.cell? ⟨w.heap.size, 2, none⟩ = some (.int .i64 n) ∧ w'.cell? ⟨w.heap.size, 3, none⟩ = some (.int .i64 k)) (first | assumption | exact s11c (nkeep HN.out (bAlloc (Below.refl _ _) _).drew) (heap_alloc_new w _) | simp [*, go_sem])
    (first | (go_at_call 64; (have Q := IH.out la ((w.alloc (.cells #[.int .i64 s, .int .i64 o, .int .i64 n, .int .i64 k] 32)).drew) ((HL.out.alloc _).drew)); refine Q.mono ?_; clear Q; rintro e w9 ⟨x9, rfl, hx9, hb9⟩; (have M9 := bA (bD hb9)); have k9 := s11c (nkeep HN.out M9) (boxk hb9))
           | (go_at_call 77; refine (make_any c (l.setT i ⟨s, o, n, k⟩) qs qo qn qk r x9 ra _ hf hx9 (HR.out.keep M9)).mono ?_; rintro e w8 ⟨b8, rfl, hat8, hb8⟩; have k8 := s11c (nkeep (nkeep HN.out M9) hb8) (nkeep (boxk hb9) hb8)))
  go_wp2
  go_ret
  exact ⟨_, rfl, hat8, M9.trans (hb8.mono M9.size)⟩

set_option maxHeartbeats 4000000 in
theorem set_here (c : Bool) (l r : Tr) (qs qo qn qk s o n k : Int) (i : Nat) (a : Option Addr) (w : World) (hi : Hid (i = l.size)) (_hz : Hid (i ≤ 1048576)) (hf : Hid ((Tr.mk (some (c, l, ⟨s, o, n, k⟩, r)))).fine) (h : Hid (At w (Tr.mk (some (c, l, ⟨qs, qo, qn, qk⟩, r))) a)) :
    Calls Try.prog 64 #[.pointer a, .int .i64 (i : Nat), .agg #[.int .i64 s, .int .i64 o, .int .i64 n, .int .i64 k]] w fun e w' => Gave w (Tr.mk (some (c, l, ⟨s, o, n, k⟩, r))) e w' := by
  obtain ⟨b, la, ra, rfl, hn, hl, hr⟩ := h.out
  have HL : Hid (At w l la) := hl
  have HR : Hid (At w r ra) := hr
  have HN : Hid (w.heap[b]? = some (nodeObj c l ⟨qs, qo, qn, qk⟩ r la ra)) := hn
  have c10 := s10 hn
  have g1 : (i : Int) = (l.size : Int) := by have := hi.out; omega
  clear hn hl hr h
  go_enter Try.func64, Try.ntmps64
  go_wp2_with (first | (go_at_call 51; refine (pieces_any l _ _ (HL.out.alloc _)).mono ?_; rintro e w' ⟨rfl, rfl⟩))
  go_region_held3 (fun w' => w'.cell? ⟨b, 0, none⟩ = some (.int .i64 qs) ∧ w'.cell? ⟨b, 1, none⟩ = some (.int .i64 qo) ∧ w'.cell? ⟨b, 2, none⟩ = some (.int .i64 qn) ∧ w'.cell? ⟨b, 3, none⟩ = some (.int .i64 qk) ∧ w'.cell? ⟨b, 4, none⟩ = some (.bool c) ∧ w'.cell? ⟨b, 10, none⟩ = some (.pointer la) ∧ w'.cell? ⟨b, 11, none⟩ = some (.pointer ra) ∧ w'.cell? ⟨w.heap.size, 0, none⟩ = some (.int .i64 s) ∧ w'.cell? ⟨w.heap.size, 1, none⟩ = some (.int .i64 o) ∧ w'.cell? ⟨w.heap.size, 2, none⟩ = some (.int .i64 n) ∧ w'.cell? ⟨w.heap.size, 3, none⟩ = some (.int .i64 k)) (first | assumption | exact s11c (nkeep HN.out (bAlloc (Below.refl _ _) _).drew) (heap_alloc_new w _) | simp [*, go_sem])
    (first | (go_at_call 77; refine (make_any c l s o n k r la ra _ hf ((HL.out.alloc _).drew) ((HR.out.alloc _).drew)).mono ?_; rintro e w8 ⟨b8, rfl, hat8, hb8⟩; have k8 := s11c (nkeep HN.out (bA (bD hb8))) (boxk hb8)))
  go_wp2
  go_ret
  exact ⟨_, rfl, hat8, bA (bD hb8)⟩

set_option maxHeartbeats 4000000 in
theorem set_right (c : Bool) (l r : Tr) (qs qo qn qk s o n k : Int) (i : Nat) (a : Option Addr) (w : World) (hi : Hid (l.size < i)) (hz : Hid (i ≤ 1048576)) (hf : Hid ((Tr.mk (some (c, l, ⟨qs, qo, qn, qk⟩, r.setT (i - l.size - 1) ⟨s, o, n, k⟩)))).fine) (h : Hid (At w (Tr.mk (some (c, l, ⟨qs, qo, qn, qk⟩, r))) a))
    (IH : Hid (∀ a w, At w r a → Calls Try.prog 64 #[.pointer a, .int .i64 ((i - l.size - 1 : Nat) : Int), .agg #[.int .i64 s, .int .i64 o, .int .i64 n, .int .i64 k]] w fun e w' => Gave w (r.setT (i - l.size - 1) ⟨s, o, n, k⟩) e w')) :
    Calls Try.prog 64 #[.pointer a, .int .i64 (i : Nat), .agg #[.int .i64 s, .int .i64 o, .int .i64 n, .int .i64 k]] w fun e w' => Gave w (Tr.mk (some (c, l, ⟨qs, qo, qn, qk⟩, r.setT (i - l.size - 1) ⟨s, o, n, k⟩))) e w' := by
  obtain ⟨b, la, ra, rfl, hn, hl, hr⟩ := h.out
  have HL : Hid (At w l la) := hl
  have HR : Hid (At w r ra) := hr
  have HN : Hid (w.heap[b]? = some (nodeObj c l ⟨qs, qo, qn, qk⟩ r la ra)) := hn
  have c10 := s10 hn
  have g1 : (l.size : Int) < (i : Int) := by have := hi.out; omega
  have g2 : ((i : Int) == (l.size : Int)) = false := by rw [beq_eq_false_iff_ne]; omega
  have g3 : IntKind.i64.wrap (IntKind.i64.wrap ((i : Int) - (l.size : Int)) - 1) = ((i - l.size - 1 : Nat) : Int) := by
    have h1 := hi.out; have h2 := hz.out
    rw [IntKind.wrap_i64, IntKind.wrap_i64]; omega
  clear hn hl hr h
  go_enter Try.func64, Try.ntmps64
  go_wp2_with (first | (go_at_call 51; refine (pieces_any l _ _ (HL.out.alloc _)).mono ?_; rintro e w' ⟨rfl, rfl⟩))
  go_region_held3 (fun w' => w'.cell? ⟨b, 0, none⟩ = some (.int .i64 qs) ∧ w'.cell? ⟨b, 1, none⟩ = some (.int .i64 qo) ∧ w'.cell? ⟨b, 2, none⟩ = some (.int .i64 qn) ∧ w'.cell? ⟨b, 3, none⟩ = some (.int .i64 qk) ∧ w'.cell? ⟨b, 4, none⟩ = some (.bool c) ∧ w'.cell? ⟨b, 10, none⟩ = some (.pointer la) ∧ w'.cell? ⟨b, 11, none⟩ = some (.pointer ra) ∧ w'.cell? ⟨w.heap.size, 0, none⟩ = some (.int .i64 s) ∧ w'.cell? ⟨w.heap.size, 1, none⟩ = some (.int .i64 o) ∧ w'.cell? ⟨w.heap.size, 2, none⟩ = some (.int .i64 n) ∧ w'.cell? ⟨w.heap.size, 3, none⟩ = some (.int .i64 k)) (first | assumption | exact s11c (nkeep HN.out (bAlloc (Below.refl _ _) _).drew) (heap_alloc_new w _) | simp [*, go_sem])
    (first | (go_at_call 64; (have Q := IH.out ra ((w.alloc (.cells #[.int .i64 s, .int .i64 o, .int .i64 n, .int .i64 k] 32)).drew) ((HR.out.alloc _).drew)); refine Q.mono ?_; clear Q; rintro e w9 ⟨x9, rfl, hx9, hb9⟩; (have M9 := bA (bD hb9)); have k9 := s11c (nkeep HN.out M9) (boxk hb9))
           | (go_at_call 77; refine (make_any c l qs qo qn qk (r.setT (i - l.size - 1) ⟨s, o, n, k⟩) la x9 _ hf (HL.out.keep M9) hx9).mono ?_; rintro e w8 ⟨b8, rfl, hat8, hb8⟩; have k8 := s11c (nkeep (nkeep HN.out M9) hb8) (nkeep (boxk hb9) hb8)))
  go_wp2
  go_ret
  exact ⟨_, rfl, hat8, M9.trans (hb8.mono M9.size)⟩

theorem set_any : ∀ (t : Tr) (i : Nat) (s o n k : Int) (a : Option Addr) (w : World), i < t.size → t.fine → Pc.fit ⟨s, o, n, k⟩ → At w t a →
    Calls Try.prog 64 #[.pointer a, .int .i64 (i : Nat), .agg #[.int .i64 s, .int .i64 o, .int .i64 n, .int .i64 k]] w fun e w' => Gave w (t.setT i ⟨s, o, n, k⟩) e w'
  | (Tr.mk none), i, s, o, n, k, a, w, hi, _, _, _ => absurd hi (by simp [Tr.size])
  | (Tr.mk (some (c, l, ⟨qs, qo, qn, qk⟩, r))), i, s, o, n, k, a, w, hi, hf, hp, h => by
    have z := hf.2
    have hF := setT_fine hf i hp
    simp only [Tr.size] at hi z
    simp only [Tr.setT] at hF ⊢
    by_cases h1 : i < l.size
    · rw [if_pos h1] at hF ⊢
      exact set_left c l r qs qo qn qk s o n k i a w h1 (by unfold Hid; omega) hF h (fun a w h => set_any l i s o n k a w h1 hf.left hp h)
    · rw [if_neg h1] at hF ⊢
      by_cases h2 : i = l.size
      · rw [if_pos h2] at hF ⊢
        exact set_here c l r qs qo qn qk s o n k i a w h2 (by unfold Hid; omega) hF h
      · rw [if_neg h2] at hF ⊢
        exact set_right c l r qs qo qn qk s o n k i a w (by unfold Hid; omega) (by unfold Hid; omega) hF h (fun a w h => set_any r (i - l.size - 1) s o n k a w (by omega) hf.right hp h)
end Go.Proofs.Ytcaegdfbbjfgpaa
