/- The contracts of join and of get. -/
import Derived.Test.YtpifjghhlcjedaaJoinL2
namespace Go.Proofs.Ytpifjghhlcjedaa
open Go.RowKit

set_option maxHeartbeats 4000000 in
theorem join_any (s o n k : Int) (l r : Tr) (la ra : Option Addr) (w : World) (hf : Hid (fineL (l.list ++ ⟨s, o, n, k⟩ :: r.list))) (wl : Hid l.whole) (wr : Hid r.whole) (hl : Hid (At w l la)) (hr : Hid (At w r ra)) :
    Calls Try.prog 56 #[.pointer la, .agg #[.int .i64 s, .int .i64 o, .int .i64 n, .int .i64 k], .pointer ra] w fun e w' => Gave w (Tr.joinT l ⟨s, o, n, k⟩ r) e w' := by
  by_cases h1 : l.bh = r.bh
  · rw [show Tr.joinT l ⟨s, o, n, k⟩ r = (Tr.mk (some (false, l, ⟨s, o, n, k⟩, r))) from by rw [Tr.joinT, if_pos h1]]
    go_enter Try.func56, Try.ntmps56
    go_wp2_with (first | (go_at_call_of 90 (Value.pointer la); refine (black_any l _ _ (hl.out.alloc _)).mono ?_; rintro e w' ⟨rfl, rfl⟩; rw [h1])
                       | (go_at_call_of 90 (Value.pointer ra); refine (black_any r _ _ (hr.out.alloc _)).mono ?_; rintro e w' ⟨rfl, rfl⟩)
                       | (go_at_call 91; refine (make_any false l s o n k r la ra _ (hf.out.of rfl) (hl.out.alloc _) (hr.out.alloc _)).mono ?_; rintro e w9 ⟨b9, rfl, hat9, hb9⟩))
    go_ret
    exact ⟨_, rfl, hat9, bA hb9⟩
  · have hne := ne_bh h1
    by_cases h2 : r.bh < l.bh
    · rw [show Tr.joinT l ⟨s, o, n, k⟩ r = (Tr.jr ⟨s, o, n, k⟩ r l).blk from by rw [Tr.joinT, if_neg h1, if_pos h2]]
      have hg : (r.bh : Int) < (l.bh : Int) := by omega
      have H1 : Hid (l.bh ≠ r.bh) := h1
      have H2 : Hid (r.bh < l.bh) := h2
      clear h1 h2
      go_enter Try.func56, Try.ntmps56
      go_wp2_with (first | (go_at_call_of 90 (Value.pointer la); refine (black_any l _ _ (hl.out.alloc _)).mono ?_; rintro e w' ⟨rfl, rfl⟩)
                         | (go_at_call_of 90 (Value.pointer ra); refine (black_any r _ _ (hr.out.alloc _)).mono ?_; rintro e w' ⟨rfl, rfl⟩)
                         | (go_at_call 92; refine (joinRight_any s o n k r ra wr.out.1 wr.out.2 l la _ hf.out wl.out.1 (Nat.le_of_lt H2.out) (hl.out.alloc _) (hr.out.alloc _)).mono ?_; rintro e w9 ⟨a9, rfl, hat9, hb9⟩)
                         | (go_at_call 93; refine (blackened_any _ _ _ (hf.out.of (Tr.jr_list _ _ _)) hat9).mono ?_; rintro e w8 ⟨a8, rfl, hat8, hb8⟩))
      go_ret
      exact ⟨_, rfl, hat8, (bA hb9).trans (hb8.mono (bA hb9).size)⟩
    · rw [show Tr.joinT l ⟨s, o, n, k⟩ r = (Tr.jl l ⟨s, o, n, k⟩ r).blk from by rw [Tr.joinT, if_neg h1, if_neg h2]]
      have hg : (l.bh : Int) < (r.bh : Int) := by omega
      have H2 : Hid (l.bh < r.bh) := by unfold Hid; omega
      clear h1 h2
      go_enter Try.func56, Try.ntmps56
      go_wp2_with (first | (go_at_call_of 90 (Value.pointer la); refine (black_any l _ _ (hl.out.alloc _)).mono ?_; rintro e w' ⟨rfl, rfl⟩)
                         | (go_at_call_of 90 (Value.pointer ra); refine (black_any r _ _ (hr.out.alloc _)).mono ?_; rintro e w' ⟨rfl, rfl⟩)
                         | (go_at_call 94; refine (joinLeft_any s o n k l la wl.out.1 wl.out.2 r ra _ hf.out wr.out.1 (Nat.le_of_lt H2.out) (hl.out.alloc _) (hr.out.alloc _)).mono ?_; rintro e w9 ⟨a9, rfl, hat9, hb9⟩)
                         | (go_at_call 93; refine (blackened_any _ _ _ (hf.out.of (Tr.jl_list _ _ _)) hat9).mono ?_; rintro e w8 ⟨a8, rfl, hat8, hb8⟩))
      go_ret
      exact ⟨_, rfl, hat8, (bA hb9).trans (hb8.mono (bA hb9).size)⟩

theorem list_left {c : Bool} {l r : Tr} {p : Pc} {i : Nat} (h : i < l.size) : ((Tr.mk (some (c, l, p, r)))).list[i]? = l.list[i]? := by
  simp only [Tr.list]; exact List.getElem?_append_left (by rw [Tr.size_list]; exact h)
theorem list_here {c : Bool} {l r : Tr} {p : Pc} {i : Nat} (h : i = l.size) : ((Tr.mk (some (c, l, p, r)))).list[i]? = some p := by
  subst h; simp only [Tr.list]; rw [List.getElem?_append_right (by rw [Tr.size_list]; exact Nat.le_refl _)]; simp [Tr.size_list]
theorem list_right {c : Bool} {l r : Tr} {p : Pc} {i : Nat} (h : l.size < i) : ((Tr.mk (some (c, l, p, r)))).list[i]? = r.list[i - l.size - 1]? := by
  simp only [Tr.list]; rw [List.getElem?_append_right (by rw [Tr.size_list]; omega), Tr.size_list]
  obtain ⟨j, hj⟩ : ∃ j, i - l.size = j + 1 := ⟨i - l.size - 1, by omega⟩
  rw [hj, List.getElem?_cons_succ, Nat.add_sub_cancel]

theorem sl {w : World} {b : Nat} {c : Bool} {l : Tr} {s o n k : Int} {r : Tr} {la ra : Option Addr} (h : w.heap[b]? = some (nodeObj c l ⟨s, o, n, k⟩ r la ra)) (x : Obj) :
    (w.alloc x).cell? ⟨b, 0, none⟩ = some (.int .i64 s) ∧ (w.alloc x).cell? ⟨b, 1, none⟩ = some (.int .i64 o) ∧ (w.alloc x).cell? ⟨b, 2, none⟩ = some (.int .i64 n) ∧ (w.alloc x).cell? ⟨b, 3, none⟩ = some (.int .i64 k) ∧ (w.alloc x).cell? ⟨b, 10, none⟩ = some (.pointer la) ∧ (w.alloc x).cell? ⟨b, 11, none⟩ = some (.pointer ra) := by
  have q := ncells (nkeep h (bAlloc (Below.refl _ _) x))
  exact ⟨q.c0, q.c1, q.c2, q.c3, q.c10, q.c11⟩

/-- Block b of W is a variable that holds a piece. -/
def PcAt (W : World) (b : Nat) (s o n k : Int) : Prop :=
  b < W.heap.size ∧ W.cell? ⟨b, 0, none⟩ = some (.int .i64 s) ∧ W.cell? ⟨b, 1, none⟩ = some (.int .i64 o) ∧ W.cell? ⟨b, 2, none⟩ = some (.int .i64 n) ∧ W.cell? ⟨b, 3, none⟩ = some (.int .i64 k) ∧
    W.frozen? ⟨b, 0, none⟩ = false ∧ W.frozen? ⟨b, 1, none⟩ = false ∧ W.frozen? ⟨b, 2, none⟩ = false ∧ W.frozen? ⟨b, 3, none⟩ = false
theorem PcAt.new (w : World) (s o n k : Int) : PcAt (w.alloc (.cells #[.int .i64 s, .int .i64 o, .int .i64 n, .int .i64 k] 32)) w.heap.size s o n k := by
  unfold PcAt; simp
theorem PcAt.keep {W w1 : World} {b : Nat} {s o n k : Int} (h : PcAt W b s o n k) (hB : Below W.heap.size W w1) : PcAt w1 b s o n k := by
  obtain ⟨hb, h0, h1, h2, h3, f0, f1, f2, f3⟩ := h
  have hz := hB.size
  refine ⟨by omega, ?_, ?_, ?_, ?_, ?_, ?_, ?_, ?_⟩
  · rw [hB.cell (p := ⟨b, 0, none⟩) hb]; exact h0
  · rw [hB.cell (p := ⟨b, 1, none⟩) hb]; exact h1
  · rw [hB.cell (p := ⟨b, 2, none⟩) hb]; exact h2
  · rw [hB.cell (p := ⟨b, 3, none⟩) hb]; exact h3
  · rw [hB.frozen (p := ⟨b, 0, none⟩) hb]; exact f0
  · rw [hB.frozen (p := ⟨b, 1, none⟩) hb]; exact f1
  · rw [hB.frozen (p := ⟨b, 2, none⟩) hb]; exact f2
  · rw [hB.frozen (p := ⟨b, 3, none⟩) hb]; exact f3
theorem below_put4 {a w : World} {b : Nat} (h : Below a.heap.size a w) (hb : a.heap.size ≤ b) (x0 x1 x2 x3 : Value) :
    Below a.heap.size a ((((w.setCell ⟨b, 0, none⟩ x0).setCell ⟨b, 1, none⟩ x1).setCell ⟨b, 2, none⟩ x2).setCell ⟨b, 3, none⟩ x3) :=
  (((h.setCell hb x0).setCell hb x1).setCell hb x2).setCell hb x3

set_option maxHeartbeats 4000000 in
theorem get_any : ∀ (t : Tr) (i : Nat) (a : Option Addr) (w : World), i < t.size → t.size ≤ 1048576 → Hid (At w t a) →
    Calls Try.prog 68 #[.pointer a, .int .i64 (i : Nat)] w fun e w' => ∃ s o n k, t.list[i]? = some ⟨s, o, n, k⟩ ∧ e = .returned (.agg #[.int .i64 s, .int .i64 o, .int .i64 n, .int .i64 k]) ∧ Below w.heap.size w w'
  | (Tr.mk none), i, a, w, hi, _, h => absurd hi (by simp [Tr.size])
  | (Tr.mk (some (c, l, ⟨s, o, n, k⟩, r))), i, a, w, hi, hz, h => by
    have ihl := get_any l
    have ihr := get_any r
    obtain ⟨b, la, ra, rfl, hn, hl, hr⟩ := h.out
    have HL : Hid (At w l la) := hl
    have HR : Hid (At w r ra) := hr
    have c10 := fun x => (sl hn x).2.2.2.2.1
    have c11 := fun x => (sl hn x).2.2.2.2.2
    have c0 := fun x => (sl hn x).1
    have c1 := fun x => (sl hn x).2.1
    have c2 := fun x => (sl hn x).2.2.1
    have c3 := fun x => (sl hn x).2.2.2.1
    clear hn hl hr h
    simp only [Tr.size] at hi hz
    rcases Nat.lt_trichotomy i l.size with h1 | h1 | h1
    · have HI : Hid (l.size ≤ 1048576 ∧ i < l.size) := ⟨by omega, h1⟩
      have g1 : (i : Int) < (l.size : Int) := by omega
      have e := list_left (c := c) (p := ⟨s, o, n, k⟩) (r := r) h1
      rw [e]
      clear e hi hz h1 c11 c0 c1 c2 c3
      have IHL : Hid (∀ (i : Nat) (a : Option Addr) (w : World), i < l.size → l.size ≤ 1048576 → Hid (At w l a) →
        Calls Try.prog 68 #[.pointer a, .int .i64 (i : Nat)] w fun e w' => ∃ s o n k, l.list[i]? = some ⟨s, o, n, k⟩ ∧ e = .returned (.agg #[.int .i64 s, .int .i64 o, .int .i64 n, .int .i64 k]) ∧ Below w.heap.size w w') := ihl
      clear ihl ihr
      go_enter Try.func68, Try.ntmps68
      go_wp2_with (first | (go_at_call 61; refine (pieces_any l _ _ (HL.out.alloc _)).mono ?_; rintro e w' ⟨rfl, rfl⟩)
                         | (go_at_call 68; refine (IHL.out i la _ HI.out.2 HI.out.1 (HL.out.alloc _)).mono ?_; rintro e w9 ⟨s9, o9, n9, k9, hg9, rfl, hb9⟩; obtain ⟨-, z0, z1, z2, z3, f0, f1, f2, f3⟩ := (PcAt.new w 0 0 0 0).keep hb9))
      refine bodyPost_ret (v := .agg #[.int .i64 s9, .int .i64 o9, .int .i64 n9, .int .i64 k9]) (by simp [results, Try.results68, go_sem, z0, z1, z2, z3]) rfl ⟨s9, o9, n9, k9, hg9, rfl, ?_⟩
      exact below_put4 (bA hb9) (Nat.le_refl _) _ _ _ _
    · subst h1
      rw [list_here rfl]
      clear ihl ihr hi hz c11
      go_enter Try.func68, Try.ntmps68
      go_wp2_with (first | (go_at_call 61; refine (pieces_any l _ _ (HL.out.alloc _)).mono ?_; rintro e w' ⟨rfl, rfl⟩))
      refine bodyPost_ret (v := .agg #[.int .i64 s, .int .i64 o, .int .i64 n, .int .i64 k]) (by simp [results, Try.results68, go_sem]) rfl ⟨s, o, n, k, rfl, rfl, ?_⟩
      first | exact bAlloc (Below.refl _ _) _ | exact below_put4 (bAlloc (Below.refl _ _) _) (Nat.le_refl _) _ _ _ _
    · have HI : Hid (r.size ≤ 1048576 ∧ i - l.size - 1 < r.size) := ⟨by omega, by omega⟩
      have g1 : (l.size : Int) < (i : Int) := by omega
      have g2 : ((i : Int) == (l.size : Int)) = false := by rw [beq_eq_false_iff_ne]; omega
      have g3 : wrap64 (wrap64 ((i : Int) - (l.size : Int)) - 1) = ((i - l.size - 1 : Nat) : Int) := by rw [w64 (x := (i : Int) - (l.size : Int)) (by omega) (by omega), w64 (by omega) (by omega)]; omega
      have e := list_right (c := c) (p := ⟨s, o, n, k⟩) (r := r) h1
      rw [e]
      have IHR : Hid (∀ (i : Nat) (a : Option Addr) (w : World), i < r.size → r.size ≤ 1048576 → Hid (At w r a) →
        Calls Try.prog 68 #[.pointer a, .int .i64 (i : Nat)] w fun e w' => ∃ s o n k, r.list[i]? = some ⟨s, o, n, k⟩ ∧ e = .returned (.agg #[.int .i64 s, .int .i64 o, .int .i64 n, .int .i64 k]) ∧ Below w.heap.size w w') := ihr
      clear e hi hz h1 c0 c1 c2 c3 ihl ihr
      go_enter Try.func68, Try.ntmps68
      go_wp2_with (first | (go_at_call 61; refine (pieces_any l _ _ (HL.out.alloc _)).mono ?_; rintro e w' ⟨rfl, rfl⟩)
                         | (go_at_call 68; refine (IHR.out (i - l.size - 1) ra _ HI.out.2 HI.out.1 (HR.out.alloc _)).mono ?_; rintro e w9 ⟨s9, o9, n9, k9, hg9, rfl, hb9⟩; obtain ⟨-, z0, z1, z2, z3, f0, f1, f2, f3⟩ := (PcAt.new w 0 0 0 0).keep hb9))
      refine bodyPost_ret (v := .agg #[.int .i64 s9, .int .i64 o9, .int .i64 n9, .int .i64 k9]) (by simp [results, Try.results68, go_sem, z0, z1, z2, z3]) rfl ⟨s9, o9, n9, k9, hg9, rfl, ?_⟩
      exact below_put4 (bA hb9) (Nat.le_refl _) _ _ _ _
end Go.Proofs.Ytpifjghhlcjedaa
