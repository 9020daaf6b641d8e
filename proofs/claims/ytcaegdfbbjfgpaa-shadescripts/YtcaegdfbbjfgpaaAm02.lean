/- The contracts of join and of get. -/
import Derived.Test.YtcaegdfbbjfgpaaAm01
import Derived.OwnWalk
import Derived.Laws.AppendOwnNone
namespace Go.Proofs.Ytcaegdfbbjfgpaa
open Go.RowKit

set_option maxHeartbeats 4000000 in
theorem join_any (s o n k : Int) (l r : Tr) (la ra : Option Addr) (w : World) (hf : Hid (fineL (l.list ++ ⟨s, o, n, k⟩ :: r.list))) (wl : Hid l.whole) (wr : Hid r.whole) (hl : Hid (At w l la)) (hr : Hid (At w r ra)) :
    Calls Try.prog 60 #[.pointer la, .agg #[.int .i64 s, .int .i64 o, .int .i64 n, .int .i64 k], .pointer ra] w fun e w' => Gave w (Tr.joinT l ⟨s, o, n, k⟩ r) e w' := by
  by_cases h1 : l.bh = r.bh
  · rw [show Tr.joinT l ⟨s, o, n, k⟩ r = (Tr.mk (some (false, l, ⟨s, o, n, k⟩, r))) from by rw [Tr.joinT, if_pos h1]]
    go_enter Try.func60, Try.ntmps60
    go_wp2_with (first | (go_at_call_of 80 (Value.pointer la); refine (black_any l _ _ (hl.out.alloc _)).mono ?_; rintro e w' ⟨rfl, rfl⟩; rw [h1])
                       | (go_at_call_of 80 (Value.pointer ra); refine (black_any r _ _ (hr.out.alloc _)).mono ?_; rintro e w' ⟨rfl, rfl⟩)
                       | (go_at_call 77; refine (make_any false l s o n k r la ra _ (hf.out.of rfl) (hl.out.alloc _) (hr.out.alloc _)).mono ?_; rintro e w9 ⟨b9, rfl, hat9, hb9⟩))
    go_ret
    exact ⟨_, rfl, hat9, bA hb9⟩
  · have hne := ne_bh h1
    by_cases h2 : r.bh < l.bh
    · rw [show Tr.joinT l ⟨s, o, n, k⟩ r = (Tr.jr ⟨s, o, n, k⟩ r l).blk from by rw [Tr.joinT, if_neg h1, if_pos h2]]
      have hg : (r.bh : Int) < (l.bh : Int) := by omega
      have H1 : Hid (l.bh ≠ r.bh) := h1
      have H2 : Hid (r.bh < l.bh) := h2
      clear h1 h2
      go_enter Try.func60, Try.ntmps60
      go_wp2_with (first | (go_at_call_of 80 (Value.pointer la); refine (black_any l _ _ (hl.out.alloc _)).mono ?_; rintro e w' ⟨rfl, rfl⟩)
                         | (go_at_call_of 80 (Value.pointer ra); refine (black_any r _ _ (hr.out.alloc _)).mono ?_; rintro e w' ⟨rfl, rfl⟩)
                         | (go_at_call 81; refine (joinRight_any s o n k r ra wr.out.1 wr.out.2 l la _ hf.out wl.out.1 (Nat.le_of_lt H2.out) (hl.out.alloc _) (hr.out.alloc _)).mono ?_; rintro e w9 ⟨a9, rfl, hat9, hb9⟩)
                         | (go_at_call 82; refine (blackened_any _ _ _ (hf.out.of (Tr.jr_list _ _ _)) hat9).mono ?_; rintro e w8 ⟨a8, rfl, hat8, hb8⟩))
      go_ret
      exact ⟨_, rfl, hat8, (bA hb9).trans (hb8.mono (bA hb9).size)⟩
    · rw [show Tr.joinT l ⟨s, o, n, k⟩ r = (Tr.jl l ⟨s, o, n, k⟩ r).blk from by rw [Tr.joinT, if_neg h1, if_neg h2]]
      have hg : (l.bh : Int) < (r.bh : Int) := by omega
      have H2 : Hid (l.bh < r.bh) := by unfold Hid; omega
      clear h1 h2
      go_enter Try.func60, Try.ntmps60
      go_wp2_with (first | (go_at_call_of 80 (Value.pointer la); refine (black_any l _ _ (hl.out.alloc _)).mono ?_; rintro e w' ⟨rfl, rfl⟩)
                         | (go_at_call_of 80 (Value.pointer ra); refine (black_any r _ _ (hr.out.alloc _)).mono ?_; rintro e w' ⟨rfl, rfl⟩)
                         | (go_at_call 83; refine (joinLeft_any s o n k l la wl.out.1 wl.out.2 r ra _ hf.out wr.out.1 (Nat.le_of_lt H2.out) (hl.out.alloc _) (hr.out.alloc _)).mono ?_; rintro e w9 ⟨a9, rfl, hat9, hb9⟩)
                         | (go_at_call 82; refine (blackened_any _ _ _ (hf.out.of (Tr.jl_list _ _ _)) hat9).mono ?_; rintro e w8 ⟨a8, rfl, hat8, hb8⟩))
      go_ret
      exact ⟨_, rfl, hat8, (bA hb9).trans (hb8.mono (bA hb9).size)⟩

theorem list_left {c : Bool} {l r : Tr} {p : Pc} {i : Nat} (h : i < l.size) : ((Tr.mk (some (c, l, p, r)))).list[i]? = l.list[i]? := by
  simp only [Tr.list]; exact List.getElem?_append_left (by rw [Tr.size_list]; exact h)
theorem list_here {c : Bool} {l r : Tr} {p : Pc} {i : Nat} (h : i = l.size) : ((Tr.mk (some (c, l, p, r)))).list[i]? = some p := by
  subst h; simp only [Tr.list]; rw [List.getElem?_append_right (by rw [Tr.size_list]; exact Nat.le_refl _)]; simp [Tr.size_list]
theorem list_right {c : Bool} {l r : Tr} {p : Pc} {i : Nat} (h : l.size < i) : ((Tr.mk (some (c, l, p, r)))).list[i]? = r.list[i - l.size - 1]? := by
  simp only [Tr.list]; rw [List.getElem?_append_right (by rw [Tr.size_list]; omega), Tr.size_list]
  obtain ⟨j, hj⟩ : ∃ j, i - l.size = j + 1 := ⟨i - l.size - 1, by omega⟩
  rw [hj, List.getElem?_cons_succ, Nat.add_sub_cancel]

theorem sl {w : World} {b : Nat} {c : Bool} {l : Tr} {s o n k : Int} {r : Tr} {la ra : Option Addr} (h : w.heap[b]? = some (nodeObj c l ⟨s, o, n, k⟩ r la ra)) (x : Obj) :
    (w.alloc x).cell? ⟨b, 0, none⟩ = some (.int .i64 s) ∧ (w.alloc x).cell? ⟨b, 1, none⟩ = some (.int .i64 o) ∧ (w.alloc x).cell? ⟨b, 2, none⟩ = some (.int .i64 n) ∧ (w.alloc x).cell? ⟨b, 3, none⟩ = some (.int .i64 k) ∧ (w.alloc x).cell? ⟨b, 10, none⟩ = some (.pointer la) ∧ (w.alloc x).cell? ⟨b, 11, none⟩ = some (.pointer ra) := by
  have q := ncells (nkeep h (bAlloc (Below.refl _ _) x))
  exact ⟨q.c0, q.c1, q.c2, q.c3, q.c10, q.c11⟩

/-- Block b of W is a variable that holds a piece. -/
def PcAt (W : World) (b : Nat) (s o n k : Int) : Prop :=
  b < W.heap.size ∧ W.cell? ⟨b, 0, none⟩ = some (.int .i64 s) ∧ W.cell? ⟨b, 1, none⟩ = some (.int .i64 o) ∧ W.cell? ⟨b, 2, none⟩ = some (.int .i64 n) ∧ W.cell? ⟨b, 3, none⟩ = some (.int .i64 k) ∧
    W.frozen? ⟨b, 0, none⟩ = false ∧ W.frozen? ⟨b, 1, none⟩ = false ∧ W.frozen? ⟨b, 2, none⟩ = false ∧ W.frozen? ⟨b, 3, none⟩ = false
theorem PcAt.new (w : World) (s o n k : Int) : PcAt (w.alloc (.cells #[.int .i64 s, .int .i64 o, .int .i64 n, .int .i64 k] 32)) w.heap.size s o n k := by
  unfold PcAt; simp
theorem PcAt.keep {W w1 : World} {b : Nat} {s o n k : Int} (h : PcAt W b s o n k) (hB : Below W.heap.size W w1) : PcAt w1 b s o n k := by
  obtain ⟨hb, h0, h1, h2, h3, f0, f1, f2, f3⟩ := h
  have hz := hB.size
  refine ⟨by omega, ?_, ?_, ?_, ?_, ?_, ?_, ?_, ?_⟩
  · rw [hB.cell (p := ⟨b, 0, none⟩) hb]; exact h0
  · rw [hB.cell (p := ⟨b, 1, none⟩) hb]; exact h1
  · rw [hB.cell (p := ⟨b, 2, none⟩) hb]; exact h2
  · rw [hB.cell (p := ⟨b, 3, none⟩) hb]; exact h3
  · rw [hB.frozen (p := ⟨b, 0, none⟩) hb]; exact f0
  · rw [hB.frozen (p := ⟨b, 1, none⟩) hb]; exact f1
  · rw [hB.frozen (p := ⟨b, 2, none⟩) hb]; exact f2
  · rw [hB.frozen (p := ⟨b, 3, none⟩) hb]; exact f3
theorem below_put4 {a w : World} {b : Nat} (h : Below a.heap.size a w) (hb : a.heap.size ≤ b) (x0 x1 x2 x3 : Value) :
    Below a.heap.size a ((((w.setCell ⟨b, 0, none⟩ x0).setCell ⟨b, 1, none⟩ x1).setCell ⟨b, 2, none⟩ x2).setCell ⟨b, 3, none⟩ x3) :=
  (((h.setCell hb x0).setCell hb x1).setCell hb x2).setCell hb x3

set_option maxHeartbeats 4000000 in
theorem get_any : ∀ (t : Tr) (i : Nat) (a : Option Addr) (w : World), i < t.size → t.size ≤ 1048576 → Hid (At w t a) →
    Calls Try.prog 66 #[.pointer a, .int .i64 (i : Nat)] w fun e w' => ∃ s o n k, t.list[i]? = some ⟨s, o, n, k⟩ ∧ e = .returned (.agg #[.int .i64 s, .int .i64 o, .int .i64 n, .int .i64 k]) ∧ Below w.heap.size w w'
  | (Tr.mk none), i, a, w, hi, _, h => absurd hi (by simp [Tr.size])
  | (Tr.mk (some (c, l, ⟨s, o, n, k⟩, r))), i, a, w, hi, hz, h => by
    have ihl := get_any l
    have ihr := get_any r
    obtain ⟨b, la, ra, rfl, hn, hl, hr⟩ := h.out
    have HL : Hid (At w l la) := hl
    have HR : Hid (At w r ra) := hr
    have c10 := fun x => (sl hn x).2.2.2.2.1
    have c11 := fun x => (sl hn x).2.2.2.2.2
    have c0 := fun x => (sl hn x).1
    have c1 := fun x => (sl hn x).2.1
    have c2 := fun x => (sl hn x).2.2.1
    have c3 := fun x => (sl hn x).2.2.2.1
    clear hn hl hr h
    simp only [Tr.size] at hi hz
    rcases Nat.lt_trichotomy i l.size with h1 | h1 | h1
    · have HI : Hid (l.size ≤ 1048576 ∧ i < l.size) := ⟨by omega, h1⟩
      have g1 : (i : Int) < (l.size : Int) := by omega
      have e := list_left (c := c) (p := ⟨s, o, n, k⟩) (r := r) h1
      rw [e]
      clear e hi hz h1 c11 c0 c1 c2 c3
      have IHL : Hid (∀ (i : Nat) (a : Option Addr) (w : World), i < l.size → l.size ≤ 1048576 → Hid (At w l a) →
        Calls Try.prog 66 #[.pointer a, .int .i64 (i : Nat)] w fun e w' => ∃ s o n k, l.list[i]? = some ⟨s, o, n, k⟩ ∧ e = .returned (.agg #[.int .i64 s, .int .i64 o, .int .i64 n, .int .i64 k]) ∧ Below w.heap.size w w') := ihl
      clear ihl ihr
      go_enter Try.func66, Try.ntmps66
      go_wp2_with (first | (go_at_call 51; refine (pieces_any l _ _ (HL.out.alloc _)).mono ?_; rintro e w' ⟨rfl, rfl⟩)
                         | (go_at_call 66; refine (IHL.out i la _ HI.out.2 HI.out.1 (HL.out.alloc _)).mono ?_; rintro e w9 ⟨s9, o9, n9, k9, hg9, rfl, hb9⟩; obtain ⟨-, z0, z1, z2, z3, f0, f1, f2, f3⟩ := (PcAt.new w 0 0 0 0).keep hb9))
      refine bodyPost_ret (v := .agg #[.int .i64 s9, .int .i64 o9, .int .i64 n9, .int .i64 k9]) (by simp [results, Try.results66, go_sem, z0, z1, z2, z3]) rfl ⟨s9, o9, n9, k9, hg9, rfl, ?_⟩
      exact below_put4 (bA hb9) (Nat.le_refl _) _ _ _ _
    · subst h1
      rw [list_here rfl]
      clear ihl ihr hi hz c11
      go_enter Try.func66, Try.ntmps66
      go_wp2_with (first | (go_at_call 51; refine (pieces_any l _ _ (HL.out.alloc _)).mono ?_; rintro e w' ⟨rfl, rfl⟩))
      refine bodyPost_ret (v := .agg #[.int .i64 s, .int .i64 o, .int .i64 n, .int .i64 k]) (by simp [results, Try.results66, go_sem]) rfl ⟨s, o, n, k, rfl, rfl, ?_⟩
      first | exact bAlloc (Below.refl _ _) _ | exact below_put4 (bAlloc (Below.refl _ _) _) (Nat.le_refl _) _ _ _ _
    · have HI : Hid (r.size ≤ 1048576 ∧ i - l.size - 1 < r.size) := ⟨by omega, by omega⟩
      have g1 : (l.size : Int) < (i : Int) := by omega
      have g2 : ((i : Int) == (l.size : Int)) = false := by rw [beq_eq_false_iff_ne]; omega
      have g3 : wrap64 (wrap64 ((i : Int) - (l.size : Int)) - 1) = ((i - l.size - 1 : Nat) : Int) := by rw [w64 (x := (i : Int) - (l.size : Int)) (by omega) (by omega), w64 (by omega) (by omega)]; omega
      have e := list_right (c := c) (p := ⟨s, o, n, k⟩) (r := r) h1
      rw [e]
      have IHR : Hid (∀ (i : Nat) (a : Option Addr) (w : World), i < r.size → r.size ≤ 1048576 → Hid (At w r a) →
        Calls Try.prog 66 #[.pointer a, .int .i64 (i : Nat)] w fun e w' => ∃ s o n k, r.list[i]? = some ⟨s, o, n, k⟩ ∧ e = .returned (.agg #[.int .i64 s, .int .i64 o, .int .i64 n, .int .i64 k]) ∧ Below w.heap.size w w') := ihr
      clear e hi hz h1 c0 c1 c2 c3 ihl ihr
      go_enter Try.func66, Try.ntmps66
      go_wp2_with (first | (go_at_call 51; refine (pieces_any l _ _ (HL.out.alloc _)).mono ?_; rintro e w' ⟨rfl, rfl⟩)
                         | (go_at_call 66; refine (IHR.out (i - l.size - 1) ra _ HI.out.2 HI.out.1 (HR.out.alloc _)).mono ?_; rintro e w9 ⟨s9, o9, n9, k9, hg9, rfl, hb9⟩; obtain ⟨-, z0, z1, z2, z3, f0, f1, f2, f3⟩ := (PcAt.new w 0 0 0 0).keep hb9))
      refine bodyPost_ret (v := .agg #[.int .i64 s9, .int .i64 o9, .int .i64 n9, .int .i64 k9]) (by simp [results, Try.results66, go_sem, z0, z1, z2, z3]) rfl ⟨s9, o9, n9, k9, hg9, rfl, ?_⟩
      exact below_put4 (bA hb9) (Nat.le_refl _) _ _ _ _
end Go.Proofs.Ytcaegdfbbjfgpaa

/- The contracts of split and of together. -/
namespace Go.Proofs.Ytcaegdfbbjfgpaa
open Go.RowKit

/-- The call gave two trees; nothing that was there has turned. -/
def Gave2 (w : World) (t u : Tr) (e : Ending) (w' : World) : Prop := ∃ x y, e = .returned (.tuple #[.pointer x, .pointer y]) ∧ At w' t x ∧ At w' u y ∧ Below w.heap.size w w'

theorem Tr.fine.list {t : Tr} (h : t.fine) : fineL t.list := (Tr.fine_list t).1 h

set_option maxHeartbeats 4000000 in
theorem split_left (c : Bool) (l r : Tr) (s o n k : Int) (i : Nat) (a : Option Addr) (w : World) (hi : Hid (i ≤ l.size)) (hb : Hid ((Tr.mk (some (c, l, ⟨s, o, n, k⟩, r)))).bal) (hf : Hid ((Tr.mk (some (c, l, ⟨s, o, n, k⟩, r)))).fine) (h : Hid (At w ((Tr.mk (some (c, l, ⟨s, o, n, k⟩, r)))) a))
    (IH : Hid (∀ a w, At w l a → Calls Try.prog 62 #[.pointer a, .int .i64 (i : Nat)] w fun e w' => Gave2 w (Tr.splitT l i).1 (Tr.splitT l i).2 e w')) :
    Calls Try.prog 62 #[.pointer a, .int .i64 (i : Nat)] w fun e w' => Gave2 w (Tr.splitT l i).1 (Tr.joinT (Tr.splitT l i).2 ⟨s, o, n, k⟩ r.blk) e w' := by
  obtain ⟨b, la, ra, rfl, hn, hl, hr⟩ := h.out
  have HL : Hid (At w l la) := hl
  have HR : Hid (At w r ra) := hr
  have HN : Hid (w.heap[b]? = some (nodeObj c l ⟨s, o, n, k⟩ r la ra)) := hn
  have c10 := (ncells hn).c10
  have g1 : (i : Int) ≤ (l.size : Int) := by have := hi.out; omega
  clear hn hl hr h
  go_enter Try.func62, Try.ntmps62
  go_wp2_with (first | (go_at_call 51; refine (pieces_any l _ _ HL).mono ?_; rintro e w' ⟨rfl, rfl⟩)
                     | (go_at_call 62; refine (IH.out la _ HL.out).mono ?_; rintro e w9 ⟨xa, ya, rfl, hx9, hy9, hb9⟩))
  have HX : Hid (At w9 (Tr.splitT l i).1 xa) := hx9
  have HY : Hid (At w9 (Tr.splitT l i).2 ya) := hy9
  have HR9 : Hid (At w9 r ra) := HR.out.keep hb9
  have HN9 : Hid (w9.heap[b]? = some (nodeObj c l ⟨s, o, n, k⟩ r la ra)) := nkeep HN.out hb9
  obtain ⟨d0, d1, d2, d3, d10, d11⟩ := s7 HN9.out
  clear hx9 hy9 HL HR HN c10 IH g1
  go_region_held3 (fun w' => w'.cell? ⟨b, 0, none⟩ = some (.int .i64 s) ∧ w'.cell? ⟨b, 1, none⟩ = some (.int .i64 o) ∧ w'.cell? ⟨b, 2, none⟩ = some (.int .i64 n) ∧ w'.cell? ⟨b, 3, none⟩ = some (.int .i64 k) ∧ w'.cell? ⟨b, 10, none⟩ = some (.pointer la) ∧ w'.cell? ⟨b, 11, none⟩ = some (.pointer ra)) (first | assumption | simp [*, go_sem])
    (first | (go_at_call 82; refine (blackened_any r ra _ hf.out.right HR9.out.drew).mono ?_; rintro e w7 ⟨za, rfl, hat7, hb7⟩; have k7 := s7 (nkeep HN9.out (bD hb7)))
           | (go_at_call 60; refine (join_any s o n k (Tr.splitT l i).2 r.blk ya za _ (hf.out.list.sub (by rw [Tr.blk_list, (Tr.splitT_list l i).2]; simp only [Tr.list]; exact List.Sublist.append (List.drop_sublist _ _) (List.Sublist.refl _))) (Tr.splitT_whole l i hb.out.1).2 (Tr.blk_whole hb.out.2.1) (HY.out.keep (bD hb7)) hat7).mono ?_; rintro e w6 ⟨ja, rfl, hat6, hb6⟩; have k6 := s7 (nkeep (nkeep HN9.out (bD hb7)) hb6)))
  go_wp2
  go_ret2
  exact ⟨_, _, rfl, (HX.out.keep (bD hb7)).keep hb6, hat6, hb9.trans (((bD hb7).trans (hb6.mono (bD hb7).size)).mono hb9.size)⟩

set_option maxHeartbeats 4000000 in
theorem split_right (c : Bool) (l r : Tr) (s o n k : Int) (i : Nat) (a : Option Addr) (w : World) (hi : Hid (l.size < i)) (hz : Hid (i ≤ 1048576)) (hb : Hid ((Tr.mk (some (c, l, ⟨s, o, n, k⟩, r)))).bal) (hf : Hid ((Tr.mk (some (c, l, ⟨s, o, n, k⟩, r)))).fine) (h : Hid (At w ((Tr.mk (some (c, l, ⟨s, o, n, k⟩, r)))) a))
    (IH : Hid (∀ a w, At w r a → Calls Try.prog 62 #[.pointer a, .int .i64 ((i - l.size - 1 : Nat) : Int)] w fun e w' => Gave2 w (Tr.splitT r (i - l.size - 1)).1 (Tr.splitT r (i - l.size - 1)).2 e w')) :
    Calls Try.prog 62 #[.pointer a, .int .i64 (i : Nat)] w fun e w' => Gave2 w (Tr.joinT l.blk ⟨s, o, n, k⟩ (Tr.splitT r (i - l.size - 1)).1) (Tr.splitT r (i - l.size - 1)).2 e w' := by
  obtain ⟨b, la, ra, rfl, hn, hl, hr⟩ := h.out
  have HL : Hid (At w l la) := hl
  have HR : Hid (At w r ra) := hr
  have HN : Hid (w.heap[b]? = some (nodeObj c l ⟨s, o, n, k⟩ r la ra)) := hn
  have c10 := (ncells hn).c10
  have c11 := (ncells hn).c11
  have g1 : (l.size : Int) < (i : Int) := by have := hi.out; omega
  have g3 : wrap64 (wrap64 ((i : Int) - (l.size : Int)) - 1) = ((i - l.size - 1 : Nat) : Int) := by
    have h1 := hi.out; have h2 := hz.out
    rw [w64 (x := (i : Int) - (l.size : Int)) (by omega) (by omega), w64 (by omega) (by omega)]; omega
  clear hn hl hr h
  go_enter Try.func62, Try.ntmps62
  go_wp2_with (first | (go_at_call 51; refine (pieces_any l _ _ HL).mono ?_; rintro e w' ⟨rfl, rfl⟩)
                     | (go_at_call 62; refine (IH.out ra _ HR.out).mono ?_; rintro e w9 ⟨xa, ya, rfl, hx9, hy9, hb9⟩))
  have HX : Hid (At w9 (Tr.splitT r (i - l.size - 1)).1 xa) := hx9
  have HY : Hid (At w9 (Tr.splitT r (i - l.size - 1)).2 ya) := hy9
  have HL9 : Hid (At w9 l la) := HL.out.keep hb9
  have HN9 : Hid (w9.heap[b]? = some (nodeObj c l ⟨s, o, n, k⟩ r la ra)) := nkeep HN.out hb9
  obtain ⟨d0, d1, d2, d3, d10, d11⟩ := s7 HN9.out
  clear hx9 hy9 HL HR HN c10 IH g1
  go_region_held3 (fun w' => w'.cell? ⟨b, 0, none⟩ = some (.int .i64 s) ∧ w'.cell? ⟨b, 1, none⟩ = some (.int .i64 o) ∧ w'.cell? ⟨b, 2, none⟩ = some (.int .i64 n) ∧ w'.cell? ⟨b, 3, none⟩ = some (.int .i64 k) ∧ w'.cell? ⟨b, 10, none⟩ = some (.pointer la) ∧ w'.cell? ⟨b, 11, none⟩ = some (.pointer ra)) (first | assumption | simp [*, go_sem])
    (first | (go_at_call 82; refine (blackened_any l la _ hf.out.left HL9.out.drew).mono ?_; rintro e w7 ⟨za, rfl, hat7, hb7⟩; have k7 := s7 (nkeep HN9.out (bD hb7)))
           | (go_at_call 60; refine (join_any s o n k l.blk (Tr.splitT r (i - l.size - 1)).1 za xa _ (hf.out.list.sub (by rw [Tr.blk_list, (Tr.splitT_list r _).1]; simp only [Tr.list]; exact List.Sublist.append (List.Sublist.refl _) (List.Sublist.cons_cons _ (List.take_sublist _ _)))) (Tr.blk_whole hb.out.1) (Tr.splitT_whole r _ hb.out.2.1).1 hat7 (HX.out.keep (bD hb7))).mono ?_; rintro e w6 ⟨ja, rfl, hat6, hb6⟩; have k6 := s7 (nkeep (nkeep HN9.out (bD hb7)) hb6)))
  go_wp2
  go_ret2
  exact ⟨_, _, rfl, hat6, (HY.out.keep (bD hb7)).keep hb6, hb9.trans (((bD hb7).trans (hb6.mono (bD hb7).size)).mono hb9.size)⟩

set_option maxHeartbeats 400000 in
theorem split_nil (i : Int) (w : World) : Calls Try.prog 62 #[.pointer none, .int .i64 i] w fun e w' => Gave2 w (Tr.mk none) (Tr.mk none) e w' := by
  go_enter Try.func62, Try.ntmps62
  go_wp2
  go_ret2
  exact ⟨_, _, rfl, rfl, rfl, Below.refl _ _⟩

theorem split_any : ∀ (t : Tr) (i : Nat) (a : Option Addr) (w : World), i ≤ t.size → t.bal → t.fine → At w t a →
    Calls Try.prog 62 #[.pointer a, .int .i64 (i : Nat)] w fun e w' => Gave2 w (Tr.splitT t i).1 (Tr.splitT t i).2 e w'
  | (Tr.mk none), i, a, w, _, _, _, h => by
    have e : a = none := h
    subst e
    exact split_nil i w
  | (Tr.mk (some (c, l, ⟨s, o, n, k⟩, r))), i, a, w, hi, hb, hf, h => by
    have z := hf.2
    simp only [Tr.size] at hi z
    by_cases hc : i ≤ l.size
    · simp only [Tr.splitT, if_pos hc]
      exact split_left c l r s o n k i a w hc hb hf h (fun a w h => split_any l i a w hc hb.1 hf.left h)
    · simp only [Tr.splitT, if_neg hc]
      exact split_right c l r s o n k i a w (by unfold Hid; omega) (by unfold Hid; omega) hb hf h (fun a w h => split_any r (i - l.size - 1) a w (by omega) hb.2.1 hf.right h)

theorem last_sub {L R : List Pc} {i : Nat} {p : Pc} (h : L[i]? = some p) : (L.take i ++ p :: R).Sublist (L ++ R) := by
  have e := List.getElem?_eq_some_iff.1 h
  conv => rhs; rw [← List.take_append_drop i L, List.drop_eq_getElem_cons e.1, e.2]
  rw [List.append_assoc, List.cons_append]
  exact List.Sublist.append (List.Sublist.refl _) (List.Sublist.cons_cons _ (List.sublist_append_right _ _))

set_option maxHeartbeats 4000000 in
theorem together_two (l r : Tr) (p : Pc) (la ra : Addr) (w : World) (hp : Hid (l.list[l.size - 1]? = some p)) (h1 : Hid (1 ≤ l.size)) (hz : Hid (fineL (l.list ++ r.list))) (wl : Hid l.whole) (wr : Hid r.whole) (hl : Hid (At w l (some la))) (hr : Hid (At w r (some ra))) :
    Calls Try.prog 59 #[.pointer (some la), .pointer (some ra)] w fun e w' => Gave w (Tr.joinT (Tr.splitT l (l.size - 1)).1 p r) e w' := by
  have FL : Hid l.fine := hz.out.tree (List.sublist_append_left _ _)
  have g3 : wrap64 ((l.size : Int) - 1) = ((l.size - 1 : Nat) : Int) := by
    have a := h1.out; have b := FL.out.2
    rw [w64 (by omega) (by omega)]; omega
  obtain ⟨s, o, n, k⟩ := p
  go_enter Try.func59, Try.ntmps59
  go_wp2_with (first | (go_at_call 51; refine (pieces_any l _ _ hl).mono ?_; rintro e w' ⟨rfl, rfl⟩)
                     | (go_at_call 62; refine (split_any l (l.size - 1) _ _ (Nat.sub_le _ _) wl.out.1 FL.out hl.out).mono ?_; rintro e w9 ⟨xa, ya, rfl, hx9, hy9, hb9⟩)
                     | (go_at_call 66; refine (get_any l (l.size - 1) _ _ (by have := h1.out; omega) FL.out.2 (hl.out.keep hb9)).mono ?_; rintro e w8 ⟨s', o', n', k', hg8, rfl, hb8⟩)
                     | (go_at_call 60; refine (join_any s' o' n' k' (Tr.splitT l (l.size - 1)).1 r xa _ _ (by rw [(Tr.splitT_list l _).1]; exact hz.out.sub (last_sub hg8)) (Tr.splitT_whole l _ wl.out.1).1 wr.out (hx9.keep hb8) ((hr.out.keep hb9).keep hb8)).mono ?_; rintro e w7 ⟨ja, rfl, hat7, hb7⟩))
  go_ret
  have e : (⟨s', o', n', k'⟩ : Pc) = ⟨s, o, n, k⟩ := by have := hp.out; rw [hg8] at this; exact Option.some.inj this
  rw [← e]
  exact ⟨_, rfl, hat7, hb9.trans ((hb8.trans (hb7.mono hb8.size)).mono hb9.size)⟩

set_option maxHeartbeats 400000 in
theorem together_l (ra : Option Addr) (r : Tr) (w : World) (hr : Hid (At w r ra)) : Calls Try.prog 59 #[.pointer none, .pointer ra] w fun e w' => Gave w r e w' := by
  go_enter Try.func59, Try.ntmps59
  go_wp2
  go_ret
  exact ⟨_, rfl, hr.out, Below.refl _ _⟩
set_option maxHeartbeats 400000 in
theorem together_r (la : Addr) (l : Tr) (w : World) (hl : Hid (At w l (some la))) : Calls Try.prog 59 #[.pointer (some la), .pointer none] w fun e w' => Gave w l e w' := by
  go_enter Try.func59, Try.ntmps59
  go_wp2
  go_ret
  exact ⟨_, rfl, hl.out, Below.refl _ _⟩

theorem together_any (l r : Tr) (la ra : Option Addr) (w : World) (hz : fineL (l.list ++ r.list)) (wl : l.whole) (wr : r.whole) (hl : At w l la) (hr : At w r ra) :
    Calls Try.prog 59 #[.pointer la, .pointer ra] w fun e w' => Gave w (Tr.gluT l r) e w' := by
  match l, r with
  | (Tr.mk none), r =>
    have e : la = none := hl
    subst e
    exact together_l ra r w hr
  | (Tr.mk (some (c, a, q, b))), (Tr.mk none) =>
    have e : ra = none := hr
    obtain ⟨bl, _, _, rfl, -⟩ := id hl
    subst e
    exact together_r _ _ w hl
  | (Tr.mk (some (c, a, q, b))), (Tr.mk (some (c', a', q', b'))) =>
    obtain ⟨bl, _, _, rfl, -⟩ := id hl
    obtain ⟨bl', _, _, rfl, -⟩ := id hr
    have z := Tr.size_list ((Tr.mk (some (c, a, q, b))))
    have h1 : 1 ≤ ((Tr.mk (some (c, a, q, b)))).size := by simp only [Tr.size]; omega
    rcases hp : ((Tr.mk (some (c, a, q, b)))).list[((Tr.mk (some (c, a, q, b)))).size - 1]? with _ | p
    · have := List.getElem?_eq_none_iff.1 hp; omega
    · have e : Tr.gluT ((Tr.mk (some (c, a, q, b)))) ((Tr.mk (some (c', a', q', b')))) = Tr.joinT (Tr.splitT ((Tr.mk (some (c, a, q, b)))) (((Tr.mk (some (c, a, q, b)))).size - 1)).1 p ((Tr.mk (some (c', a', q', b')))) := by
        simp only [Tr.gluT, hp]
      rw [e]
      exact together_two _ _ p _ _ w hp h1 hz wl wr hl hr
end Go.Proofs.Ytcaegdfbbjfgpaa

/- The contracts of fit and of build. -/
namespace Go.Proofs.Ytcaegdfbbjfgpaa
open Go.RowKit

/-- Is a piece of n bytes and k line ends fit? -/
def fitB (n k : Int) : Bool := decide (1 ≤ n ∧ n ≤ 2147483647 ∧ 0 ≤ k ∧ k ≤ n)
theorem fitB_iff (s o n k : Int) : fitB n k = true ↔ Pc.fit ⟨s, o, n, k⟩ := by unfold fitB Pc.fit; simp

theorem ret_bool {a b : Bool} (h : a = b) : Ending.returned (.bool a) = .returned (.bool b) := by rw [h]

set_option maxHeartbeats 400000 in
theorem fit_any (s o n k : Int) (w : World) :
    Calls Try.prog 45 #[.agg #[.int .i64 s, .int .i64 o, .int .i64 n, .int .i64 k]] w fun e w' => e = .returned (.bool (fitB n k)) ∧ w' = w.alloc (.cells #[.int .i64 s, .int .i64 o, .int .i64 n, .int .i64 k] 32) := by
  go_enter Try.func45, Try.ntmps45
  go_wp2
  all_goals go_ret
  all_goals refine ⟨ret_bool ?_, rfl⟩
  all_goals (rw [Bool.eq_iff_iff]; unfold fitB; simp only [decide_eq_true_eq]; first | omega | (simp; done) | (simp; omega))

set_option maxHeartbeats 400000 in
theorem refFit_any (s o n k : Int) (w : World) :
    Calls Try.prog 25 #[.agg #[.int .i64 s, .int .i64 o, .int .i64 n, .int .i64 k]] w fun e w' => e = .returned (.bool (fitB n k)) ∧ w' = w.alloc (.cells #[.int .i64 s, .int .i64 o, .int .i64 n, .int .i64 k] 32) := by
  go_enter Try.func25, Try.ntmps25
  go_wp2
  all_goals go_ret
  all_goals refine ⟨ret_bool ?_, rfl⟩
  all_goals (rw [Bool.eq_iff_iff]; unfold fitB; simp only [decide_eq_true_eq]; first | omega | (simp; done) | (simp; omega))

/-- The pieces of L lie one behind the other in block b of W, from the cell off on. -/
def Row (W : World) (b off : Nat) (L : List Pc) : Prop :=
  ∀ j p, L[j]? = some p → W.cell? ⟨b, off + j * 4, none⟩ = some (.int .i64 p.s) ∧ W.cell? ⟨b, off + j * 4 + 1, none⟩ = some (.int .i64 p.o) ∧ W.cell? ⟨b, off + j * 4 + 2, none⟩ = some (.int .i64 p.l) ∧ W.cell? ⟨b, off + j * 4 + 3, none⟩ = some (.int .i64 p.n)

set_option maxHeartbeats 400000 in
theorem build_nil (ao : Option Addr) (c : Nat) (w : World) : Calls Try.prog 46 #[.slice ao 0 c] w fun e w' => e = .returned (.pointer none) ∧ w' = w := by
  go_enter Try.func46, Try.ntmps46
  go_wp2
  go_ret
  exact ⟨rfl, rfl⟩

/-- A list value whose pieces are L. -/
def Rdb (W : World) (v : Value) (L : List Pc) : Prop := ∃ ao n c, v = .slice ao n c ∧ n = L.length ∧ n ≤ c ∧ (L = [] ∨ ∃ b off, ao = some ⟨b, off, none⟩ ∧ Row W b off L)

theorem cell_lt {w : World} {b j : Nat} {v : Value} (h : w.cell? ⟨b, j, none⟩ = some v) : b < w.heap.size := by
  rcases Nat.lt_or_ge b w.heap.size with h' | h'
  · exact h'
  · simp [World.cell?, Array.getElem?_eq_none h'] at h
theorem Row.keep {w w' : World} {b off : Nat} {L : List Pc} (h : Row w b off L) (hb : Below w.heap.size w w') : Row w' b off L := by
  intro j p hj
  obtain ⟨h0, h1, h2, h3⟩ := h j p hj
  have lt := cell_lt h0
  refine ⟨?_, ?_, ?_, ?_⟩ <;> (rw [hb.cell lt]; assumption)
theorem Row.take {w : World} {b off : Nat} {L : List Pc} (h : Row w b off L) (m : Nat) : Row w b off (L.take m) := by
  intro j p hj
  rw [List.getElem?_take] at hj
  split at hj
  · exact h j p hj
  · cases hj
theorem Row.drop {w : World} {b off : Nat} {L : List Pc} (h : Row w b off L) (m : Nat) : Row w b (off + m * 4) (L.drop m) := by
  intro j p hj
  rw [List.getElem?_drop] at hj
  have := h (m + j) p hj
  rw [show off + (m + j) * 4 = off + m * 4 + j * 4 from by omega] at this
  exact this
theorem fineL_parts {L : List Pc} {m : Nat} {p : Pc} (h : fineL L) (hp : L[m]? = some p) : fineL (L.take m ++ p :: L.drop (m + 1)) := by
  have e := List.getElem?_eq_some_iff.1 hp
  have : L.take m ++ p :: L.drop (m + 1) = L := by
    conv => rhs; rw [← List.take_append_drop m L, List.drop_eq_getElem_cons e.1, e.2]
  rw [this]; exact h
/-- the cells of one piece of a row -/
theorem row4 {w : World} {b off m : Nat} {L : List Pc} {s o n k : Int} (h : Row w b off L) (hp : L[m]? = some ⟨s, o, n, k⟩) :
    w.cell? ⟨b, off + m * 4, none⟩ = some (.int .i64 s) ∧ w.cell? ⟨b, off + m * 4 + 1, none⟩ = some (.int .i64 o) ∧ w.cell? ⟨b, off + m * 4 + 2, none⟩ = some (.int .i64 n) ∧ w.cell? ⟨b, off + m * 4 + 3, none⟩ = some (.int .i64 k) := h m _ hp

set_option maxHeartbeats 4000000 in
theorem build_some (b off c N m : Nat) (L : List Pc) (s o n k : Int) (hN : Hid (N = L.length)) (hc : N ≤ c) (hcc : ¬ c = m + 1) (hz : N ≤ 1048576) (hmd : Hid (m = N / 2)) (hp : Hid (L[m]? = some ⟨s, o, n, k⟩)) (hfi : Hid (fineL L)) (w : World) (h : Hid (Row w b off L))
    (IH : Hid (∀ L' w v, L'.length < L.length → fineL L' → Rdb w v L' → Calls Try.prog 46 #[v] w fun e w' => Gave w (Tr.buildT L') e w')) :
    Calls Try.prog 46 #[.slice (some ⟨b, off, none⟩) N c] w fun e w' => Gave w (Tr.buildT L) e w' := by
  have hlt : m < N := by have := (List.getElem?_eq_some_iff.1 hp.out).1; have := hN.out; omega
  have hne : ((N : Int) == 0) = false := by rw [beq_eq_false_iff_ne]; omega
  have hq : Hid ((N : Int) / 2 = (m : Int)) := by have := hmd.out; unfold Hid; omega
  have i1 : (0 : Int) ≤ (m : Int) := by omega
  have i2 : (m : Int) < (N : Int) := by omega
  have i3 : (m : Int) ≤ (c : Int) := by omega
  have i4 : (m : Int) + 1 ≤ (N : Int) := by omega
  have i5 : (0 : Int) ≤ (m : Int) + 1 := by omega
  have i7 : (m : Int) + 1 ≤ (c : Int) := by omega
  have i6 : (N : Int) ≤ (c : Int) := by omega
  have hw : IntKind.i64.wrap ((m : Int) + 1) = (m : Int) + 1 := by rw [IntKind.wrap_i64]; omega
  obtain ⟨r0, r1, r2, r3⟩ := row4 h.out hp.out
  have B1 : Hid (∀ w', Below w.heap.size w w' → Calls Try.prog 46 #[.slice (some ⟨b, off, none⟩) m c] w' fun e w'' => Gave w' (Tr.buildT (L.take m)) e w'') := fun w' hb =>
    IH.out _ _ _ (by have := hN.out; simp only [List.length_take]; omega) (hfi.out.sub (List.take_sublist _ _)) ⟨_, _, _, rfl, by have := hN.out; simp only [List.length_take]; omega, by omega, .inr ⟨b, off, rfl, (h.out.take m).keep hb⟩⟩
  have J : Hid (∀ x y w', At w' (Tr.buildT (L.take m)) x → At w' (Tr.buildT (L.drop (m + 1))) y → Calls Try.prog 60 #[.pointer x, .agg #[.int .i64 s, .int .i64 o, .int .i64 n, .int .i64 k], .pointer y] w' fun e w'' => Gave w' (Tr.buildT L) e w'') := fun x y w' hx hy => by
    have e := Tr.buildT_some (l := L) (p := ⟨s, o, n, k⟩) (by rw [← hN.out, ← hmd.out]; exact hp.out)
    rw [← hN.out, ← hmd.out] at e
    rw [e]
    obtain ⟨a1, a2⟩ := Tr.buildT_ok _ (L.take m) (Nat.le_refl _)
    obtain ⟨b1, b2⟩ := Tr.buildT_ok _ (L.drop (m + 1)) (Nat.le_refl _)
    exact join_any s o n k _ _ x y w' (by rw [a2, b2]; exact fineL_parts hfi.out hp.out) a1 b1 hx hy
  have B2 : Hid (∀ w', Below w.heap.size w w' → Calls Try.prog 46 #[.slice (some ⟨b, off + (m + 1) * 4, none⟩) (N - (m + 1)) (c - (m + 1))] w' fun e w'' => Gave w' (Tr.buildT (L.drop (m + 1))) e w'') := fun w' hb =>
    IH.out _ _ _ (by have := hN.out; simp only [List.length_drop]; omega) (hfi.out.sub (List.drop_sublist _ _)) ⟨_, _, _, rfl, by have := hN.out; simp only [List.length_drop]; omega, by omega, .inr ⟨b, _, rfl, (h.out.drop (m + 1)).keep hb⟩⟩
  clear IH
  go_enter Try.func46, Try.ntmps46
  go_wp2
  rw [hq.out]
  go_region_held3 (fun w' => w'.cell? ⟨b, off + m * 4, none⟩ = some (.int .i64 s) ∧ w'.cell? ⟨b, off + m * 4 + 1, none⟩ = some (.int .i64 o) ∧ w'.cell? ⟨b, off + m * 4 + 2, none⟩ = some (.int .i64 n) ∧ w'.cell? ⟨b, off + m * 4 + 3, none⟩ = some (.int .i64 k)) (first | assumption | simp [*, go_sem])
    (first | (go_at_call_of 46 (Value.slice (some ⟨b, off, none⟩) m c); refine (B1.out _ (Below.refl _ _).drew).mono ?_; rintro e w9 ⟨x9, rfl, hx9, hb9⟩; have k9 := row4 (h.out.keep (bD hb9)) hp.out)
           | (go_at_call 46; refine (B2.out _ (bD hb9)).mono ?_; rintro e w8 ⟨y8, rfl, hy8, hb8⟩; have k8 := row4 ((h.out.keep (bD hb9)).keep hb8) hp.out)
           | (go_at_call 60; refine (J.out _ _ _ (hx9.keep hb8) hy8).mono ?_; rintro e w7 ⟨z7, rfl, hz7, hb7⟩; have k7 := row4 (((h.out.keep (bD hb9)).keep hb8).keep hb7) hp.out))
  go_wp2
  go_ret
  exact ⟨_, rfl, hz7, (bD hb9).trans ((hb8.trans (hb7.mono hb8.size)).mono (bD hb9).size)⟩


set_option maxHeartbeats 4000000 in
theorem build_one (b off : Nat) (L : List Pc) (s o n k : Int) (hN : Hid (L.length = 1)) (hp : Hid (L[0]? = some ⟨s, o, n, k⟩)) (hfi : Hid (fineL L)) (w : World) (h : Hid (Row w b off L))
    (IH : Hid (∀ L' w v, L'.length < L.length → fineL L' → Rdb w v L' → Calls Try.prog 46 #[v] w fun e w' => Gave w (Tr.buildT L') e w')) :
    Calls Try.prog 46 #[.slice (some ⟨b, off, none⟩) 1 1] w fun e w' => Gave w (Tr.buildT L) e w' := by
  obtain ⟨r0, r1, r2, r3⟩ := row4 h.out hp.out
  simp only [Nat.zero_mul, Nat.add_zero] at r0 r1 r2 r3
  have B1 : Hid (∀ w', Below w.heap.size w w' → Calls Try.prog 46 #[.slice (some ⟨b, off, none⟩) 0 1] w' fun e w'' => Gave w' (Tr.buildT (L.take 0)) e w'') := fun w' hb =>
    IH.out _ _ _ (by have := hN.out; simp only [List.length_take]; omega) (hfi.out.sub (List.take_sublist _ _)) ⟨_, _, _, rfl, by have := hN.out; simp only [List.length_take]; omega, by omega, .inr ⟨b, off, rfl, (h.out.take 0).keep hb⟩⟩
  have J : Hid (∀ x y w', At w' (Tr.buildT (L.take 0)) x → At w' (Tr.buildT (L.drop (0 + 1))) y → Calls Try.prog 60 #[.pointer x, .agg #[.int .i64 s, .int .i64 o, .int .i64 n, .int .i64 k], .pointer y] w' fun e w'' => Gave w' (Tr.buildT L) e w'') := fun x y w' hx hy => by
    have e := Tr.buildT_some (l := L) (p := ⟨s, o, n, k⟩) (by rw [hN.out]; exact hp.out)
    rw [hN.out] at e
    rw [e]
    obtain ⟨a1, a2⟩ := Tr.buildT_ok _ (L.take 0) (Nat.le_refl _)
    obtain ⟨b1, b2⟩ := Tr.buildT_ok _ (L.drop (0 + 1)) (Nat.le_refl _)
    exact join_any s o n k _ _ x y w' (by rw [a2, b2]; exact fineL_parts hfi.out hp.out) a1 b1 hx hy
  have B2 : Hid (∀ w' ao, Below w.heap.size w w' → Calls Try.prog 46 #[.slice ao 0 0] w' fun e w'' => Gave w' (Tr.buildT (L.drop (0 + 1))) e w'') := fun w' ao hb =>
    IH.out _ _ _ (by have := hN.out; simp only [List.length_drop]; omega) (hfi.out.sub (List.drop_sublist _ _)) ⟨_, _, _, rfl, by have := hN.out; simp only [List.length_drop]; omega, by omega, .inl (by have := hN.out; exact List.drop_of_length_le (by omega))⟩
  have R4 : Hid (∀ w', Below w.heap.size w w' → w'.cell? ⟨b, off, none⟩ = some (.int .i64 s) ∧ w'.cell? ⟨b, off + 1, none⟩ = some (.int .i64 o) ∧ w'.cell? ⟨b, off + 2, none⟩ = some (.int .i64 n) ∧ w'.cell? ⟨b, off + 3, none⟩ = some (.int .i64 k)) := fun w' hb => by
    have := row4 (h.out.keep hb) hp.out
    simpa only [Nat.zero_mul, Nat.add_zero] using this
  have hw1 : IntKind.i64.wrap 1 = 1 := by rw [IntKind.wrap_i64]; omega
  have hw2 : IntKind.i64.wrap 2 = 2 := by rw [IntKind.wrap_i64]; omega
  clear IH
  go_enter Try.func46, Try.ntmps46
  go_wp2
  go_region_held3 (fun w' => w'.cell? ⟨b, off, none⟩ = some (.int .i64 s) ∧ w'.cell? ⟨b, off + 1, none⟩ = some (.int .i64 o) ∧ w'.cell? ⟨b, off + 2, none⟩ = some (.int .i64 n) ∧ w'.cell? ⟨b, off + 3, none⟩ = some (.int .i64 k)) (first | assumption | simp [*, go_sem])
    (first | (go_at_call_of 46 (Value.slice (some ⟨b, off, none⟩) 0 1); refine (B1.out _ (Below.refl _ _).drew).mono ?_; rintro e w9 ⟨x9, rfl, hx9, hb9⟩; have k9 := R4.out _ (bD hb9))
           | (go_at_call 46; refine (B2.out _ _ (bD hb9)).mono ?_; rintro e w8 ⟨y8, rfl, hy8, hb8⟩; have k8 := R4.out _ ((bD hb9).trans (hb8.mono (bD hb9).size)))
           | (go_at_call 60; refine (J.out _ _ _ (hx9.keep hb8) hy8).mono ?_; rintro e w7 ⟨z7, rfl, hz7, hb7⟩; have k7 := R4.out _ ((bD hb9).trans ((hb8.trans (hb7.mono hb8.size)).mono (bD hb9).size))))
  go_wp2
  go_ret
  exact ⟨_, rfl, hz7, (bD hb9).trans ((hb8.trans (hb7.mono hb8.size)).mono (bD hb9).size)⟩

set_option maxHeartbeats 4000000 in
theorem build_two (b off : Nat) (L : List Pc) (s o n k : Int) (hN : Hid (L.length = 2)) (hp : Hid (L[1]? = some ⟨s, o, n, k⟩)) (hfi : Hid (fineL L)) (w : World) (h : Hid (Row w b off L))
    (IH : Hid (∀ L' w v, L'.length < L.length → fineL L' → Rdb w v L' → Calls Try.prog 46 #[v] w fun e w' => Gave w (Tr.buildT L') e w')) :
    Calls Try.prog 46 #[.slice (some ⟨b, off, none⟩) 2 2] w fun e w' => Gave w (Tr.buildT L) e w' := by
  obtain ⟨r0, r1, r2, r3⟩ := row4 h.out hp.out
  simp only [Nat.one_mul, Nat.add_assoc, Nat.reduceAdd] at r0 r1 r2 r3
  have B1 : Hid (∀ w', Below w.heap.size w w' → Calls Try.prog 46 #[.slice (some ⟨b, off, none⟩) 1 2] w' fun e w'' => Gave w' (Tr.buildT (L.take 1)) e w'') := fun w' hb =>
    IH.out _ _ _ (by have := hN.out; simp only [List.length_take]; omega) (hfi.out.sub (List.take_sublist _ _)) ⟨_, _, _, rfl, by have := hN.out; simp only [List.length_take]; omega, by omega, .inr ⟨b, off, rfl, (h.out.take 1).keep hb⟩⟩
  have J : Hid (∀ x y w', At w' (Tr.buildT (L.take 1)) x → At w' (Tr.buildT (L.drop (1 + 1))) y → Calls Try.prog 60 #[.pointer x, .agg #[.int .i64 s, .int .i64 o, .int .i64 n, .int .i64 k], .pointer y] w' fun e w'' => Gave w' (Tr.buildT L) e w'') := fun x y w' hx hy => by
    have e := Tr.buildT_some (l := L) (p := ⟨s, o, n, k⟩) (by rw [hN.out]; exact hp.out)
    rw [hN.out] at e
    rw [e]
    obtain ⟨a1, a2⟩ := Tr.buildT_ok _ (L.take 1) (Nat.le_refl _)
    obtain ⟨b1, b2⟩ := Tr.buildT_ok _ (L.drop (1 + 1)) (Nat.le_refl _)
    exact join_any s o n k _ _ x y w' (by rw [a2, b2]; exact fineL_parts hfi.out hp.out) a1 b1 hx hy
  have B2 : Hid (∀ w' ao, Below w.heap.size w w' → Calls Try.prog 46 #[.slice ao 0 0] w' fun e w'' => Gave w' (Tr.buildT (L.drop (1 + 1))) e w'') := fun w' ao hb =>
    IH.out _ _ _ (by have := hN.out; simp only [List.length_drop]; omega) (hfi.out.sub (List.drop_sublist _ _)) ⟨_, _, _, rfl, by have := hN.out; simp only [List.length_drop]; omega, by omega, .inl (by have := hN.out; exact List.drop_of_length_le (by omega))⟩
  have R4 : Hid (∀ w', Below w.heap.size w w' → w'.cell? ⟨b, off + 4, none⟩ = some (.int .i64 s) ∧ w'.cell? ⟨b, off + 5, none⟩ = some (.int .i64 o) ∧ w'.cell? ⟨b, off + 6, none⟩ = some (.int .i64 n) ∧ w'.cell? ⟨b, off + 7, none⟩ = some (.int .i64 k)) := fun w' hb => by
    have := row4 (h.out.keep hb) hp.out
    simpa only [Nat.one_mul, Nat.add_assoc, Nat.reduceAdd] using this
  have hw1 : IntKind.i64.wrap 1 = 1 := by rw [IntKind.wrap_i64]; omega
  have hw2 : IntKind.i64.wrap 2 = 2 := by rw [IntKind.wrap_i64]; omega
  clear IH
  go_enter Try.func46, Try.ntmps46
  go_wp2
  go_region_held3 (fun w' => w'.cell? ⟨b, off + 4, none⟩ = some (.int .i64 s) ∧ w'.cell? ⟨b, off + 5, none⟩ = some (.int .i64 o) ∧ w'.cell? ⟨b, off + 6, none⟩ = some (.int .i64 n) ∧ w'.cell? ⟨b, off + 7, none⟩ = some (.int .i64 k)) (first | assumption | simp [*, go_sem])
    (first | (go_at_call_of 46 (Value.slice (some ⟨b, off, none⟩) 1 2); refine (B1.out _ (Below.refl _ _).drew).mono ?_; rintro e w9 ⟨x9, rfl, hx9, hb9⟩; have k9 := R4.out _ (bD hb9))
           | (go_at_call 46; refine (B2.out _ _ (bD hb9)).mono ?_; rintro e w8 ⟨y8, rfl, hy8, hb8⟩; have k8 := R4.out _ ((bD hb9).trans (hb8.mono (bD hb9).size)))
           | (go_at_call 60; refine (J.out _ _ _ (hx9.keep hb8) hy8).mono ?_; rintro e w7 ⟨z7, rfl, hz7, hb7⟩; have k7 := R4.out _ ((bD hb9).trans ((hb8.trans (hb7.mono hb8.size)).mono (bD hb9).size))))
  go_wp2
  go_ret
  exact ⟨_, rfl, hz7, (bD hb9).trans ((hb8.trans (hb7.mono hb8.size)).mono (bD hb9).size)⟩

theorem build_any (z : Nat) : ∀ (L : List Pc) (w : World) (v : Value), L.length ≤ z → fineL L → Rdb w v L → Calls Try.prog 46 #[v] w fun e w' => Gave w (Tr.buildT L) e w' := by
  induction z with
  | zero =>
    rintro L w _ hz hf ⟨ao, n, c, rfl, hn, hc, hr⟩
    have : L = [] := List.eq_nil_of_length_eq_zero (by omega)
    subst this
    have : n = 0 := hn
    subst this
    refine (build_nil ao c w).mono ?_
    rintro e w' ⟨rfl, rfl⟩
    rw [Tr.buildT_nil]
    exact ⟨_, rfl, rfl, Below.refl _ _⟩
  | succ z ih =>
    rintro L w _ hz hf ⟨ao, n, c, rfl, hn, hc, hr⟩
    rcases hp : L[n / 2]? with _ | ⟨s, o, l, k⟩
    · have := List.getElem?_eq_none_iff.1 hp
      have e : L = [] := List.eq_nil_of_length_eq_zero (by omega)
      subst e
      have : n = 0 := hn
      subst this
      refine (build_nil ao c w).mono ?_
      rintro e w' ⟨rfl, rfl⟩
      rw [Tr.buildT_nil]
      exact ⟨_, rfl, rfl, Below.refl _ _⟩
    · rcases hr with rfl | ⟨b, off, rfl, hr⟩
      · simp at hp
      · by_cases hcc : c = n / 2 + 1
        · have hlt := (List.getElem?_eq_some_iff.1 hp).1
          have : (n = 1 ∧ c = 1) ∨ (n = 2 ∧ c = 2) := by omega
          rcases this with ⟨rfl, rfl⟩ | ⟨rfl, rfl⟩
          · exact build_one b off L s o l k hn.symm hp hf w hr (fun L' w v h1 h2 h3 => ih L' w v (by omega) h2 h3)
          · exact build_two b off L s o l k hn.symm hp hf w hr (fun L' w v h1 h2 h3 => ih L' w v (by omega) h2 h3)
        · exact build_some b off c n (n / 2) L s o l k hn hc hcc (by have := hf.2; omega) rfl hp hf w hr (fun L' w v h1 h2 h3 => ih L' w v (by omega) h2 h3)
end Go.Proofs.Ytcaegdfbbjfgpaa

/- The contract of shade.Build: the pieces that are fit, made a tree. -/
namespace Go.Proofs.Ytcaegdfbbjfgpaa
open Go.RowKit

/-- A piece's cells. -/
def Pc.cs (p : Pc) : List Value := [.int .i64 p.s, .int .i64 p.o, .int .i64 p.l, .int .i64 p.n]
def cells (L : List Pc) : List Value := L.flatMap Pc.cs
theorem cells_length (L : List Pc) : (cells L).length = L.length * 4 := by
  induction L with
  | nil => rfl
  | cons p L ih => simp only [cells, List.flatMap_cons, List.length_append, List.length_cons] at *; rw [ih]; simp [Pc.cs]; omega
theorem cells_append (L M : List Pc) : cells (L ++ M) = cells L ++ cells M := by simp [cells]
theorem cells_at {L : List Pc} {j : Nat} {p : Pc} (h : L[j]? = some p) (i : Nat) (hi : i < 4) : (cells L)[j * 4 + i]? = p.cs[i]? := by
  induction L generalizing j with
  | nil => simp at h
  | cons q L ih =>
    have e : cells (q :: L) = q.cs ++ cells L := by simp [cells]
    rw [e]
    cases j with
    | zero =>
      simp at h; subst h
      rw [Nat.zero_mul, Nat.zero_add, List.getElem?_append_left (by simp [Pc.cs]; omega)]
    | succ j =>
      rw [List.getElem?_cons_succ] at h
      rw [List.getElem?_append_right (by simp [Pc.cs]; omega)]
      rw [← ih h]
      congr 1
      simp [Pc.cs]; omega

/-- a row that the call owns is a list that can be read -/
theorem own_rdb {w : World} {base e n : Nat} {v : Value} {L : List Pc} (h : w.ownsRow base e 4 v n (cells L)) : Rdb w v L := by
  have hl : n = L.length := by have := h.1; rw [cells_length] at this; omega
  rcases h.2 with ⟨rfl, rfl⟩ | ⟨g, cap, cur, rfl, hb, hg, h1, h2, h3, h4⟩
  · exact ⟨_, _, _, rfl, hl, Nat.le_refl _, .inl (List.eq_nil_of_length_eq_zero hl.symm)⟩
  · refine ⟨_, _, _, rfl, hl, h1, .inr ⟨g, 0, rfl, fun j p hj => ?_⟩⟩
    have hlt := (List.getElem?_eq_some_iff.1 hj).1
    have c := fun i (hi : i < 4) => (h.cellAt (j * 4 + i) (by omega)).trans (cells_at hj i hi)
    rw [Nat.zero_add]
    exact ⟨by simpa [Pc.cs] using c 0 (by omega), by simpa [Pc.cs] using c 1 (by omega), by simpa [Pc.cs] using c 2 (by omega), by simpa [Pc.cs] using c 3 (by omega)⟩

/-- the pieces that are fit -/
def good (L : List Pc) : List Pc := L.filter fun p => fitB p.l p.n
theorem good_le (L : List Pc) : (good L).length ≤ L.length := List.length_filter_le _ _
theorem good_fit {L : List Pc} : ∀ p ∈ good L, p.fit := by
  intro p hp
  have := (List.mem_filter.1 hp).2
  exact (fitB_iff p.s p.o p.l p.n).1 this
theorem good_take {L : List Pc} {j : Nat} {p : Pc} (h : L[j]? = some p) : good (L.take (j + 1)) = good (L.take j) ++ if fitB p.l p.n = true then [p] else [] := by
  obtain ⟨h1, h2⟩ := List.getElem?_eq_some_iff.1 h
  unfold good
  rw [List.take_succ_eq_append_getElem h1, List.filter_append, h2]
  congr 1
  simp only [List.filter_cons, List.filter_nil]

theorem info32 : (Try.prog.info? 32).map (fun i => (i.zero, i.size, i.bytes)) = some (some (.agg #[.int .i64 0, .int .i64 0, .int .i64 0, .int .i64 0]), 4, 32) := by kernel_rfl

theorem lit_cells (w : World) (cs : Array Value) (e : TypeId) (j : Nat) (u : Value) (h : cs.toList[j]? = some u) : (w.alloc (.cells cs e)).cell? ((⟨w.heap.size, 0, none⟩ : Addr).add j) = some u := by
  have : (⟨w.heap.size, 0, none⟩ : Addr).add j = ⟨w.heap.size, j, none⟩ := by unfold Addr.add; split <;> simp_all
  rw [this, World.cell?_alloc_mark, ← Array.getElem?_toList]; exact h

theorem Rdb.keep {w w' : World} {v : Value} {L : List Pc} (h : Rdb w v L) (hb : Below w.heap.size w w') : Rdb w' v L := by
  obtain ⟨ao, n, c, h1, h2, h3, h4⟩ := h
  refine ⟨ao, n, c, h1, h2, h3, ?_⟩
  rcases h4 with h4 | ⟨b, off, h5, h6⟩
  · exact .inl h4
  · exact .inr ⟨b, off, h5, h6.keep hb⟩

theorem fineL_good {L : List Pc} (h : L.length ≤ 1048576) : fineL (good L) := ⟨good_fit, Nat.le_trans (good_le L) h⟩

/-- a store into a block that is no node -/
theorem At.put {w : World} {b i t : Nat} {cs : Array Value} {v : Value} (hb : w.heap[b]? = some (.cells cs t (0, 0))) (ht : t ≠ 116) : ∀ {T : Tr} {a : Option Addr}, At w T a → At (w.setCell ⟨b, i, none⟩ v) T a
  | (Tr.mk none), _, h => h
  | (Tr.mk (some (c, l, p, r))), _, ⟨b', la, ra, e, h, h1, h2⟩ => by
    refine ⟨b', la, ra, e, ?_, h1.put hb ht, h2.put hb ht⟩
    rw [Below.heap_setCell _ _ _ _ ?_]
    · exact h
    · intro e1
      have e2 : b' = b := e1
      subst e2
      rw [hb] at h
      have := Option.some.inj h
      unfold nodeObj at this
      injection this with _ e3 _
      exact ht e3

set_option maxHeartbeats 4000000 in
theorem Build_any (v : Value) (L : List Pc) (w : World) (hz : L.length ≤ 1048576) (h : Hid (Rdb w v L)) :
    Calls Try.prog 14 #[v] w fun e w' => ∃ a, e = .returned (.agg #[.pointer a]) ∧ At w' (Tr.buildT (good L)) a ∧ Below w.heap.size w w' := by
  obtain ⟨ao, n, c, rfl, hn, hc, hr⟩ := h.out
  have HR : Hid (L = [] ∨ ∃ b off, ao = some ⟨b, off, none⟩ ∧ Row w b off L) := hr
  subst hn
  clear h hr
  obtain ⟨i0, hi, hz0, hz1, hz2⟩ := info_parts info32
  go_enter Try.func14, Try.ntmps14
  go_wp2
  go_loopw [3, 8] (fun g i wr => ∃ j : Nat, j ≤ L.length ∧ i = .int .i64 j ∧ wr.ownsRow (w.heap.size + 1) 32 4 g (good (L.take j)).length (cells (good (L.take j))) ∧ Below (w.alloc (.cells #[.pointer none] 26)).heap.size (w.alloc (.cells #[.pointer none] 26)) wr) (fun _ i _ => L.length - (intOf i).toNat)
  case atStart => exact ⟨0, Nat.zero_le _, rfl, World.ownsRow_nil _ _ _ _, Below.refl _ _⟩
  case round =>
    obtain ⟨j, hj, rfl, hown, hb⟩ := hrel
    have HW : Hid (wr.ownsRow (w.heap.size + 1) 32 4 u3 (good (L.take j)).length (cells (good (L.take j)))) := hown
    have HB : Hid (Below (w.alloc (.cells #[.pointer none] 26)).heap.size (w.alloc (.cells #[.pointer none] 26)) wr) := hb
    clear hown hb
    by_cases hlt : j < L.length
    · rcases HR.out with hn | ⟨b, off, rfl, hr⟩
      · rw [hn] at hlt; simp at hlt
      rcases hp : L[j]? with _ | ⟨s, o, n, k⟩
      · have := List.getElem?_eq_none_iff.1 hp; omega
      obtain ⟨r0, r1, r2, r3⟩ := row4 (hr.keep (bA HB.out)) hp
      have hj0 : (0 : Int) ≤ (j : Int) := by omega
      have hjl : (j : Int) < (L.length : Int) := by omega
      have HG : Hid (good (L.take (j + 1)) = good (L.take j) ++ if fitB n k = true then [⟨s, o, n, k⟩] else []) := good_take hp
      have hgl : (good (L.take j)).length ≤ j := by have := good_le (L.take j); have := List.length_take_le j L; omega
      clear hr hp
      cases hf : fitB n k with
      | false =>
        rw [hf] at HG
        go_wp2_with (go_at_call 45; refine (fit_any s o n k _).mono ?_; rintro e w' ⟨rfl, rfl⟩; rw [hf])
        go_roundw
        case rel => exact ⟨j + 1, by omega, by go_num, by rw [HG.out]; simpa using (HW.out.alloc _).alloc _, bAlloc (bAlloc HB.out _) _⟩
        case measure => simp [intOf]; omega
      | true =>
        rw [hf] at HG
        go_wp2_with (first | (go_at_call 45; refine (fit_any s o n k _).mono ?_; rintro e w' ⟨rfl, rfl⟩; rw [hf])
                           | (at_builtin; refine wpList_append_own _ rfl (.tmp 14) (.tmp 16) 33 rfl (w.heap.size + 1) 32 i0 (.agg #[.int .i64 0, .int .i64 0, .int .i64 0, .int .i64 0]) 4 32 Try.underlying33 hi hz0 hz1 hz2 rfl (by decide) u3 (good (L.take j)).length (cells (good (L.take j))) rfl (((HW.out.alloc _).alloc _).alloc _) ⟨wr.heap.size + 1 + 1, 0, none⟩ 1 1 [.int .i64 s, .int .i64 o, .int .i64 n, .int .i64 k] rfl rfl ?qd2 ?qd3 ?qd4 ?qd5 ?qd6 ?_))
        case qd2 => exact fun k' u hk => by have := lit_cells ((wr.alloc (.cells #[.int .i64 s, .int .i64 o, .int .i64 n, .int .i64 k] 32)).alloc (.cells #[.int .i64 s, .int .i64 o, .int .i64 n, .int .i64 k] 32)) #[.int .i64 s, .int .i64 o, .int .i64 n, .int .i64 k] 32 k' u hk; simpa using this
        case qd3 => intro u hu; simp at hu; rcases hu with rfl | rfl | rfl | rfl <;> rfl
        case qd4 => unfold maxLen; omega
        case qd5 => omega
        case qd6 => have := HB.out.size; simp at this ⊢; omega
        intro v' w2 hown hgrow _
        have HW2 : Hid (w2.ownsRow (w.heap.size + 1) 32 4 v' (good (L.take (j + 1))).length (cells (good (L.take (j + 1))))) := by
          unfold Hid
          rw [HG.out]
          simp only [if_true, List.length_append, cells_append]
          exact hown
        have HB2 : Hid (Below (w.alloc (.cells #[.pointer none] 26)).heap.size (w.alloc (.cells #[.pointer none] 26)) w2) := (bAlloc (bAlloc (bAlloc HB.out _) _) _).grown hgrow (by have := HB.out.size; simp at this ⊢; omega) (fun k hk => by have := (HW.out.lt k hk).1; simpa using this)
        clear hown hgrow
        go_wp2
        go_roundw
        case rel => exact ⟨j + 1, by omega, by go_num, HW2.out, HB2.out⟩
        case measure => simp [intOf]; omega
    · obtain rfl : j = L.length := by omega
      rw [List.take_length] at HW
      have HB' := HB.out
      have c0 : (w.alloc (.cells #[.pointer none] 26)).cell? ⟨w.heap.size, 0, none⟩ = some (.pointer none) := by simp
      have f0 : (w.alloc (.cells #[.pointer none] 26)).frozen? ⟨w.heap.size, 0, none⟩ = false := by simp
      have z0 : wr.cell? ⟨w.heap.size, 0, none⟩ = some (.pointer none) := by rw [HB'.cell (by simp)]; exact c0
      have z1 : wr.frozen? ⟨w.heap.size, 0, none⟩ = false := by rw [HB'.frozen (by simp)]; exact f0
      clear c0 f0 HB'
      have hzl : (w.alloc (.cells #[.pointer none] 26)).heap.size ≤ wr.heap.size := HB.out.size
      simp at hzl
      go_wp2_with (go_at_call 46; refine (build_any _ (good L) _ _ (Nat.le_refl _) (fineL_good hz) (own_rdb HW.out)).mono ?_; rintro e w9 ⟨x9, rfl, hx9, hb9⟩; have y0 : w9.cell? ⟨w.heap.size, 0, none⟩ = some (.pointer none) := (hb9.cell (p := ⟨w.heap.size, 0, none⟩) (by simp; omega)).trans z0; have y1 : w9.frozen? ⟨w.heap.size, 0, none⟩ = false := (hb9.frozen (p := ⟨w.heap.size, 0, none⟩) (by simp; omega)).trans z1)
      have hh : wr.heap[w.heap.size]? = some (.cells #[.pointer none] 26 (0, 0)) := by
        rw [HB.out.block w.heap.size (by simp)]; exact heap_alloc_new _ _
      refine bodyPost_ret (v := .agg #[.pointer x9]) (by simp [results, Try.results14, go_sem, y0]) rfl ⟨x9, rfl, hx9.put (nkeep hh hb9) (by decide), ?_⟩
      exact ((bA HB.out).trans (hb9.mono (by omega))).setCell (p := ⟨w.heap.size, 0, none⟩) (Nat.le_refl _) _
end Go.Proofs.Ytcaegdfbbjfgpaa

