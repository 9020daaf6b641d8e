/- The contracts of before and find. -/
import Derived.Test.YtpifjghhlcjedaaAsk
namespace Go.Proofs.Ytpifjghhlcjedaa
open Go.RowKit

/-- the bytes and the line ends of a list of pieces -/
def sB (L : List Pc) : Int := (L.map Pc.l).sum
def sL (L : List Pc) : Int := (L.map Pc.n).sum
theorem sB_append (L M : List Pc) : sB (L ++ M) = sB L + sB M := by simp [sB]
theorem sL_append (L M : List Pc) : sL (L ++ M) = sL L + sL M := by simp [sL]
theorem sB_cons (p : Pc) (M : List Pc) : sB (p :: M) = p.l + sB M := by simp [sB]
theorem sL_cons (p : Pc) (M : List Pc) : sL (p :: M) = p.n + sL M := by simp [sL]
theorem byt_list : ∀ t : Tr, t.byt = sB t.list
  | (Tr.mk none) => rfl
  | (Tr.mk (some (c, l, p, r))) => by simp only [Tr.byt, Tr.list, sB_append, sB_cons, byt_list l, byt_list r]; omega
theorem lin_list : ∀ t : Tr, t.lin = sL t.list
  | (Tr.mk none) => rfl
  | (Tr.mk (some (c, l, p, r))) => by simp only [Tr.lin, Tr.list, sL_append, sL_cons, lin_list l, lin_list r]; omega

theorem take_left {c : Bool} {l r : Tr} {p : Pc} {i : Nat} (h : i ≤ l.size) : ((Tr.mk (some (c, l, p, r)))).list.take i = l.list.take i := by
  simp only [Tr.list]; exact List.take_append_of_le_length (by rw [Tr.size_list]; exact h)
theorem take_right {c : Bool} {l r : Tr} {p : Pc} {i : Nat} (h : l.size < i) : ((Tr.mk (some (c, l, p, r)))).list.take i = l.list ++ p :: r.list.take (i - l.size - 1) := by
  have z := Tr.size_list l
  have e : i = l.list.length + ((i - l.size - 1) + 1) := by omega
  simp only [Tr.list]
  conv => lhs; rw [e, List.take_length_add_append, List.take_succ_cons]

set_option maxHeartbeats 400000 in
theorem before_nil (i : Int) (w : World) : Calls Try.prog 110 #[.pointer none, .int .i64 i] w fun e w' => e = .returned (.tuple #[.int .i64 0, .int .i64 0]) ∧ w' = w := by
  go_enter Try.func110, Try.ntmps110
  go_wp2
  go_ret2
  exact ⟨rfl, rfl⟩

theorem sB_bounds {L : List Pc} (h : fineL L) (i : Nat) : 0 ≤ sB (L.take i) ∧ sB (L.take i) ≤ 2251799813685248 ∧ 0 ≤ sL (L.take i) ∧ sL (L.take i) ≤ 2251799813685248 := by
  have key : ∀ M : List Pc, (∀ p ∈ M, p.fit) → 0 ≤ sL M ∧ sL M ≤ sB M ∧ sB M ≤ 2147483647 * (M.length : Int) := by
    intro M
    induction M with
    | nil => intro _; simp [sB, sL]
    | cons p M ih =>
      intro hM
      have a := ih (fun q hq => hM q (List.mem_cons_of_mem _ hq))
      have b := hM p (List.mem_cons_self ..)
      unfold Pc.fit at b
      rw [sB_cons, sL_cons, List.length_cons]
      push_cast
      omega
  have k := key (L.take i) (fun p hp => h.1 p (List.mem_of_mem_take hp))
  have hl : (L.take i).length ≤ 1048576 := by have := h.2; rw [List.length_take]; omega
  omega

theorem ret2 {a b c d : Int} (h : a = b) (h' : c = d) : Ending.returned (.tuple #[.int .i64 a, .int .i64 c]) = .returned (.tuple #[.int .i64 b, .int .i64 d]) := by rw [h, h']
theorem i64_in {x : Int} (h1 : -9223372036854775808 ≤ x) (h2 : x ≤ 9223372036854775807) : IntKind.i64.wrap x = x := by rw [IntKind.wrap_i64]; omega
theorem fine_bounds {t : Tr} (h : t.fine) : 0 ≤ t.byt ∧ t.byt ≤ 2251799813685248 ∧ 0 ≤ t.lin ∧ t.lin ≤ 2251799813685248 := by
  have a := t.fits_bounds h.1
  have b := h.2
  omega
theorem wrapE1 {c : Bool} {l r : Tr} {s o n k : Int} (h : ((Tr.mk (some (c, l, ⟨s, o, n, k⟩, r)))).fine) (i : Nat) : IntKind.i64.wrap (IntKind.i64.wrap (((Tr.mk (some (c, l, ⟨s, o, n, k⟩, r)))).byt - r.byt) + sB (r.list.take i)) = l.byt + n + sB (r.list.take i) := by
  have a := fine_bounds h.left
  have b := fine_bounds h.right
  have p := h.piece
  have q := sB_bounds ((Tr.fine_list r).1 h.right) i
  simp only [Tr.byt, Pc.fit] at *
  rw [show l.byt + n + r.byt - r.byt = l.byt + n from by omega, i64_in (x := l.byt + n) (by omega) (by omega), i64_in (by omega) (by omega)]
theorem wrapE2 {c : Bool} {l r : Tr} {s o n k : Int} (h : ((Tr.mk (some (c, l, ⟨s, o, n, k⟩, r)))).fine) (i : Nat) : IntKind.i64.wrap (IntKind.i64.wrap (((Tr.mk (some (c, l, ⟨s, o, n, k⟩, r)))).lin - r.lin) + sL (r.list.take i)) = l.lin + k + sL (r.list.take i) := by
  have a := fine_bounds h.left
  have b := fine_bounds h.right
  have p := h.piece
  have q := sB_bounds ((Tr.fine_list r).1 h.right) i
  simp only [Tr.lin, Pc.fit] at *
  rw [show l.lin + k + r.lin - r.lin = l.lin + k from by omega, i64_in (x := l.lin + k) (by omega) (by omega), i64_in (by omega) (by omega)]

set_option maxHeartbeats 4000000 in
theorem before_right (c : Bool) (l r : Tr) (s o n k : Int) (i : Nat) (a : Option Addr) (w : World) (hi : Hid (l.size < i)) (hz : Hid (i ≤ 1048576)) (hf : Hid ((Tr.mk (some (c, l, ⟨s, o, n, k⟩, r)))).fine) (h : Hid (At w ((Tr.mk (some (c, l, ⟨s, o, n, k⟩, r)))) a))
    (IH : Hid (∀ a w, At w r a → Calls Try.prog 110 #[.pointer a, .int .i64 ((i - l.size - 1 : Nat) : Int)] w fun e w' => e = .returned (.tuple #[.int .i64 (sB (r.list.take (i - l.size - 1))), .int .i64 (sL (r.list.take (i - l.size - 1)))]) ∧ Below w.heap.size w w')) :
    Calls Try.prog 110 #[.pointer a, .int .i64 (i : Nat)] w fun e w' => e = .returned (.tuple #[.int .i64 (sB (((Tr.mk (some (c, l, ⟨s, o, n, k⟩, r)))).list.take i)), .int .i64 (sL (((Tr.mk (some (c, l, ⟨s, o, n, k⟩, r)))).list.take i))]) ∧ Below w.heap.size w w' := by
  obtain ⟨b, la, ra, rfl, hn, hl, hr⟩ := h.out
  have HL : Hid (At w l la) := hl
  have HR : Hid (At w r ra) := hr
  have HN : Hid (w.heap[b]? = some (nodeObj c l ⟨s, o, n, k⟩ r la ra)) := hn
  have c10 := (ncells hn).c10
  have c11 := (ncells hn).c11
  have g1 : (l.size : Int) < (i : Int) := by have := hi.out; omega
  have g3 : wrap64 (wrap64 ((i : Int) - (l.size : Int)) - 1) = ((i - l.size - 1 : Nat) : Int) := by
    have h1 := hi.out; have h2 := hz.out
    rw [w64 (x := (i : Int) - (l.size : Int)) (by omega) (by omega), w64 (by omega) (by omega)]; omega
  have e1 : Hid (sB (((Tr.mk (some (c, l, ⟨s, o, n, k⟩, r)))).list.take i) = l.byt + n + sB (r.list.take (i - l.size - 1))) := by
    unfold Hid; rw [take_right hi.out, sB_append, sB_cons, ← byt_list]; show l.byt + (n + _) = _; omega
  have e2 : Hid (sL (((Tr.mk (some (c, l, ⟨s, o, n, k⟩, r)))).list.take i) = l.lin + k + sL (r.list.take (i - l.size - 1))) := by
    unfold Hid; rw [take_right hi.out, sL_append, sL_cons, ← lin_list]; show l.lin + (k + _) = _; omega
  have bB := hf.out.1.1
  have E1 : Hid (IntKind.i64.wrap (IntKind.i64.wrap (((Tr.mk (some (c, l, ⟨s, o, n, k⟩, r)))).byt - r.byt) + sB (r.list.take (i - l.size - 1))) = l.byt + n + sB (r.list.take (i - l.size - 1))) := wrapE1 hf.out _
  have E2 : Hid (IntKind.i64.wrap (IntKind.i64.wrap (((Tr.mk (some (c, l, ⟨s, o, n, k⟩, r)))).lin - r.lin) + sL (r.list.take (i - l.size - 1))) = l.lin + k + sL (r.list.take (i - l.size - 1))) := wrapE2 hf.out _
  clear hn hl hr h bB
  generalize HX : sB (r.list.take (i - l.size - 1)) = X at *
  generalize HY : sL (r.list.take (i - l.size - 1)) = Y at *
  go_enter Try.func110, Try.ntmps110
  go_wp2_with (first | (go_at_call 61; refine (pieces_any l _ _ HL).mono ?_; rintro e w' ⟨rfl, rfl⟩)
                     | (go_at_call 110; refine (IH.out ra _ HR.out).mono ?_; rintro e w9 ⟨rfl, hb9⟩))
  have HR9 : Hid (At w9 r ra) := HR.out.keep hb9
  have q := ncells (nkeep HN.out hb9)
  have d8 := q.c8
  have d9 := q.c9
  have d11 := q.c11
  clear q HL HR HN c10 c11 IH g1
  go_region_held3 (fun w' => w'.cell? ⟨b, 8, none⟩ = some (.int .i64 ((Tr.mk (some (c, l, ⟨s, o, n, k⟩, r)))).byt) ∧ w'.cell? ⟨b, 9, none⟩ = some (.int .i64 ((Tr.mk (some (c, l, ⟨s, o, n, k⟩, r)))).lin) ∧ w'.cell? ⟨b, 11, none⟩ = some (.pointer ra)) (first | assumption | simp [*, go_sem])
    (first | (go_at_call 89; refine (bytes_any r ra _ HR9.out.drew).mono ?_; rintro e w' ⟨rfl, rfl⟩)
           | (go_at_call 96; refine (lines_any r ra _ HR9.out.drew).mono ?_; rintro e w' ⟨rfl, rfl⟩))
  go_wp2
  go_ret2
  exact ⟨ret2 (E1.out.trans e1.out.symm) (E2.out.trans e2.out.symm), hb9.drew⟩

set_option maxHeartbeats 1000000 in
theorem before_left (c : Bool) (l r : Tr) (s o n k : Int) (i : Nat) (a : Option Addr) (w : World) (hi : Hid (i ≤ l.size)) (h : Hid (At w ((Tr.mk (some (c, l, ⟨s, o, n, k⟩, r)))) a))
    (IH : Hid (∀ a w, At w l a → Calls Try.prog 110 #[.pointer a, .int .i64 (i : Nat)] w fun e w' => e = .returned (.tuple #[.int .i64 (sB (l.list.take i)), .int .i64 (sL (l.list.take i))]) ∧ Below w.heap.size w w')) :
    Calls Try.prog 110 #[.pointer a, .int .i64 (i : Nat)] w fun e w' => e = .returned (.tuple #[.int .i64 (sB (l.list.take i)), .int .i64 (sL (l.list.take i))]) ∧ Below w.heap.size w w' := by
  obtain ⟨b, la, ra, rfl, hn, hl, hr⟩ := h.out
  have HL : Hid (At w l la) := hl
  have c10 := (ncells hn).c10
  have g1 : (i : Int) ≤ (l.size : Int) := by have := hi.out; omega
  clear hn hl hr h
  generalize HX : sB (l.list.take i) = X at *
  generalize HY : sL (l.list.take i) = Y at *
  go_enter Try.func110, Try.ntmps110
  go_wp2_with (first | (go_at_call 61; refine (pieces_any l _ _ HL).mono ?_; rintro e w' ⟨rfl, rfl⟩)
                     | (go_at_call 110; refine (IH.out la _ HL.out).mono ?_; rintro e w9 ⟨rfl, hb9⟩))
  go_ret2
  exact ⟨rfl, hb9⟩

theorem before_any : ∀ (t : Tr) (i : Nat) (a : Option Addr) (w : World), i ≤ t.size → t.fine → At w t a →
    Calls Try.prog 110 #[.pointer a, .int .i64 (i : Nat)] w fun e w' => e = .returned (.tuple #[.int .i64 (sB (t.list.take i)), .int .i64 (sL (t.list.take i))]) ∧ Below w.heap.size w w'
  | (Tr.mk none), i, a, w, _, _, h => by
    have e : a = none := h
    subst e
    refine (before_nil i w).mono ?_
    rintro e w' ⟨rfl, rfl⟩
    exact ⟨by simp [Tr.list, sB, sL], Below.refl _ _⟩
  | (Tr.mk (some (c, l, ⟨s, o, n, k⟩, r))), i, a, w, hi, hf, h => by
    have z := hf.2
    simp only [Tr.size] at hi z
    by_cases hc : i ≤ l.size
    · rw [take_left hc]
      exact before_left c l r s o n k i a w hc h (fun a w h => before_any l i a w hc hf.left h)
    · exact before_right c l r s o n k i a w (by unfold Hid; omega) (by unfold Hid; omega) hf h (fun a w h => before_any r (i - l.size - 1) a w (by omega) hf.right h)

set_option maxHeartbeats 1000000 in
theorem Before_yes (t : Tr) (a : Option Addr) (i : Nat) (w : World) (hi : i ≤ t.size) (hf : Hid t.fine) (h : Hid (At w t a)) :
    Calls Try.prog 84 #[.agg #[.pointer a], .int .i64 (i : Nat)] w fun e w' => e = .returned (.tuple #[.int .i64 (sB (t.list.take i)), .int .i64 (sL (t.list.take i)), .int .i64 0]) ∧ Below w.heap.size w w' := by
  have hd : decide (0 ≤ (i : Int) ∧ (i : Int) ≤ (t.size : Int)) = true := by simp; omega
  go_enter Try.func84, Try.ntmps84
  go_wp2_with (first | (go_at_call 57; refine (hasGap_any t _ _ _ (h.out.alloc _)).mono ?_; rw [hd]; rintro e w9 ⟨rfl, hb9⟩; obtain ⟨c9, f9⟩ := bcell hb9)
                     | (go_at_call 110; refine (before_any t i _ _ hi hf.out ((h.out.alloc _).keep hb9)).mono ?_; rintro e w8 ⟨rfl, hb8⟩))
  go_ret3
  exact ⟨rfl, (bA hb9).trans (hb8.mono (bA hb9).size)⟩
set_option maxHeartbeats 1000000 in
theorem Before_no (t : Tr) (a : Option Addr) (i : Int) (w : World) (hd : decide (0 ≤ i ∧ i ≤ (t.size : Int)) = false) (h : Hid (At w t a)) :
    Calls Try.prog 84 #[.agg #[.pointer a], .int .i64 i] w fun e w' => e = .returned (.tuple #[.int .i64 0, .int .i64 0, .int .i64 20]) ∧ Below w.heap.size w w' := by
  go_enter Try.func84, Try.ntmps84
  go_wp2_with (first | (go_at_call 57; refine (hasGap_any t _ _ _ (h.out.alloc _)).mono ?_; rw [hd]; rintro e w9 ⟨rfl, hb9⟩; obtain ⟨c9, f9⟩ := bcell hb9))
  go_ret3
  exact ⟨rfl, bA hb9⟩
end Go.Proofs.Ytpifjghhlcjedaa
