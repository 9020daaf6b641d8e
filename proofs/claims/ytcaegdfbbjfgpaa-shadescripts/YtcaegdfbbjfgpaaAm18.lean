/- The contracts of before and find. -/
import Derived.Test.YtcaegdfbbjfgpaaAm04
import Derived.Test.YtcaegdfbbjfgpaaAm16
import Derived.Test.YtcaegdfbbjfgpaaAm17
import Derived.Test.YtcaegdfbbjfgpaaAm09
import Derived.Deep.CutRange
import Derived.Test.YtcaegdfbbjfgpaaAm15
namespace Go.Proofs.Ytcaegdfbbjfgpaa
open Go.RowKit

/-- the bytes and the line ends of a list of pieces -/
def sB (L : List Pc) : Int := (L.map Pc.l).sum
def sL (L : List Pc) : Int := (L.map Pc.n).sum
theorem sB_append (L M : List Pc) : sB (L ++ M) = sB L + sB M := by simp [sB]
theorem sL_append (L M : List Pc) : sL (L ++ M) = sL L + sL M := by simp [sL]
theorem sB_cons (p : Pc) (M : List Pc) : sB (p :: M) = p.l + sB M := by simp [sB]
theorem sL_cons (p : Pc) (M : List Pc) : sL (p :: M) = p.n + sL M := by simp [sL]
theorem byt_list : ∀ t : Tr, t.byt = sB t.list
  | (Tr.mk none) => rfl
  | (Tr.mk (some (c, l, p, r))) => by simp only [Tr.byt, Tr.list, sB_append, sB_cons, byt_list l, byt_list r]; omega
theorem lin_list : ∀ t : Tr, t.lin = sL t.list
  | (Tr.mk none) => rfl
  | (Tr.mk (some (c, l, p, r))) => by simp only [Tr.lin, Tr.list, sL_append, sL_cons, lin_list l, lin_list r]; omega

theorem take_left {c : Bool} {l r : Tr} {p : Pc} {i : Nat} (h : i ≤ l.size) : ((Tr.mk (some (c, l, p, r)))).list.take i = l.list.take i := by
  simp only [Tr.list]; exact List.take_append_of_le_length (by rw [Tr.size_list]; exact h)
theorem take_right {c : Bool} {l r : Tr} {p : Pc} {i : Nat} (h : l.size < i) : ((Tr.mk (some (c, l, p, r)))).list.take i = l.list ++ p :: r.list.take (i - l.size - 1) := by
  have z := Tr.size_list l
  have e : i = l.list.length + ((i - l.size - 1) + 1) := by omega
  simp only [Tr.list]
  conv => lhs; rw [e, List.take_length_add_append, List.take_succ_cons]

set_option maxHeartbeats 400000 in
theorem before_nil (i : Int) (w : World) : Calls Try.prog 67 #[.pointer none, .int .i64 i] w fun e w' => e = .returned (.tuple #[.int .i64 0, .int .i64 0]) ∧ w' = w := by
  go_enter Try.func67, Try.ntmps67
  go_wp2
  go_ret2
  exact ⟨rfl, rfl⟩

theorem sB_bounds {L : List Pc} (h : fineL L) (i : Nat) : 0 ≤ sB (L.take i) ∧ sB (L.take i) ≤ 2251799813685248 ∧ 0 ≤ sL (L.take i) ∧ sL (L.take i) ≤ 2251799813685248 := by
  have key : ∀ M : List Pc, (∀ p ∈ M, p.fit) → 0 ≤ sL M ∧ sL M ≤ sB M ∧ sB M ≤ 2147483647 * (M.length : Int) := by
    intro M
    induction M with
    | nil => intro _; simp [sB, sL]
    | cons p M ih =>
      intro hM
      have a := ih (fun q hq => hM q (List.mem_cons_of_mem _ hq))
      have b := hM p (List.mem_cons_self ..)
      unfold Pc.fit at b
      rw [sB_cons, sL_cons, List.length_cons]
      push_cast
      omega
  have k := key (L.take i) (fun p hp => h.1 p (List.mem_of_mem_take hp))
  have hl : (L.take i).length ≤ 1048576 := by have := h.2; rw [List.length_take]; omega
  omega

theorem ret2 {a b c d : Int} (h : a = b) (h' : c = d) : Ending.returned (.tuple #[.int .i64 a, .int .i64 c]) = .returned (.tuple #[.int .i64 b, .int .i64 d]) := by rw [h, h']
theorem i64_in {x : Int} (h1 : -9223372036854775808 ≤ x) (h2 : x ≤ 9223372036854775807) : IntKind.i64.wrap x = x := by rw [IntKind.wrap_i64]; omega
theorem fine_bounds {t : Tr} (h : t.fine) : 0 ≤ t.byt ∧ t.byt ≤ 2251799813685248 ∧ 0 ≤ t.lin ∧ t.lin ≤ 2251799813685248 := by
  have a := t.fits_bounds h.1
  have b := h.2
  omega
theorem wrapE1 {c : Bool} {l r : Tr} {s o n k : Int} (h : ((Tr.mk (some (c, l, ⟨s, o, n, k⟩, r)))).fine) (i : Nat) : IntKind.i64.wrap (IntKind.i64.wrap (((Tr.mk (some (c, l, ⟨s, o, n, k⟩, r)))).byt - r.byt) + sB (r.list.take i)) = l.byt + n + sB (r.list.take i) := by
  have a := fine_bounds h.left
  have b := fine_bounds h.right
  have p := h.piece
  have q := sB_bounds ((Tr.fine_list r).1 h.right) i
  simp only [Tr.byt, Pc.fit] at *
  rw [show l.byt + n + r.byt - r.byt = l.byt + n from by omega, i64_in (x := l.byt + n) (by omega) (by omega), i64_in (by omega) (by omega)]
theorem wrapE2 {c : Bool} {l r : Tr} {s o n k : Int} (h : ((Tr.mk (some (c, l, ⟨s, o, n, k⟩, r)))).fine) (i : Nat) : IntKind.i64.wrap (IntKind.i64.wrap (((Tr.mk (some (c, l, ⟨s, o, n, k⟩, r)))).lin - r.lin) + sL (r.list.take i)) = l.lin + k + sL (r.list.take i) := by
  have a := fine_bounds h.left
  have b := fine_bounds h.right
  have p := h.piece
  have q := sB_bounds ((Tr.fine_list r).1 h.right) i
  simp only [Tr.lin, Pc.fit] at *
  rw [show l.lin + k + r.lin - r.lin = l.lin + k from by omega, i64_in (x := l.lin + k) (by omega) (by omega), i64_in (by omega) (by omega)]

set_option maxHeartbeats 4000000 in
theorem before_right (c : Bool) (l r : Tr) (s o n k : Int) (i : Nat) (a : Option Addr) (w : World) (hi : Hid (l.size < i)) (hz : Hid (i ≤ 1048576)) (hf : Hid ((Tr.mk (some (c, l, ⟨s, o, n, k⟩, r)))).fine) (h : Hid (At w ((Tr.mk (some (c, l, ⟨s, o, n, k⟩, r)))) a))
    (IH : Hid (∀ a w, At w r a → Calls Try.prog 67 #[.pointer a, .int .i64 ((i - l.size - 1 : Nat) : Int)] w fun e w' => e = .returned (.tuple #[.int .i64 (sB (r.list.take (i - l.size - 1))), .int .i64 (sL (r.list.take (i - l.size - 1)))]) ∧ Below w.heap.size w w')) :
    Calls Try.prog 67 #[.pointer a, .int .i64 (i : Nat)] w fun e w' => e = .returned (.tuple #[.int .i64 (sB (((Tr.mk (some (c, l, ⟨s, o, n, k⟩, r)))).list.take i)), .int .i64 (sL (((Tr.mk (some (c, l, ⟨s, o, n, k⟩, r)))).list.take i))]) ∧ Below w.heap.size w w' := by
  obtain ⟨b, la, ra, rfl, hn, hl, hr⟩ := h.out
  have HL : Hid (At w l la) := hl
  have HR : Hid (At w r ra) := hr
  have HN : Hid (w.heap[b]? = some (nodeObj c l ⟨s, o, n, k⟩ r la ra)) := hn
  have c10 := (ncells hn).c10
  have c11 := (ncells hn).c11
  have g1 : (l.size : Int) < (i : Int) := by have := hi.out; omega
  have g3 : wrap64 (wrap64 ((i : Int) - (l.size : Int)) - 1) = ((i - l.size - 1 : Nat) : Int) := by
    have h1 := hi.out; have h2 := hz.out
    rw [w64 (x := (i : Int) - (l.size : Int)) (by omega) (by omega), w64 (by omega) (by omega)]; omega
  have e1 : Hid (sB (((Tr.mk (some (c, l, ⟨s, o, n, k⟩, r)))).list.take i) = l.byt + n + sB (r.list.take (i - l.size - 1))) := by
    unfold Hid; rw [take_right hi.out, sB_append, sB_cons, ← byt_list]; show l.byt + (n + _) = _; omega
  have e2 : Hid (sL (((Tr.mk (some (c, l, ⟨s, o, n, k⟩, r)))).list.take i) = l.lin + k + sL (r.list.take (i - l.size - 1))) := by
    unfold Hid; rw [take_right hi.out, sL_append, sL_cons, ← lin_list]; show l.lin + (k + _) = _; omega
  have bB := hf.out.1.1
  have E1 : Hid (IntKind.i64.wrap (IntKind.i64.wrap (((Tr.mk (some (c, l, ⟨s, o, n, k⟩, r)))).byt - r.byt) + sB (r.list.take (i - l.size - 1))) = l.byt + n + sB (r.list.take (i - l.size - 1))) := wrapE1 hf.out _
  have E2 : Hid (IntKind.i64.wrap (IntKind.i64.wrap (((Tr.mk (some (c, l, ⟨s, o, n, k⟩, r)))).lin - r.lin) + sL (r.list.take (i - l.size - 1))) = l.lin + k + sL (r.list.take (i - l.size - 1))) := wrapE2 hf.out _
  clear hn hl hr h bB
  generalize HX : sB (r.list.take (i - l.size - 1)) = X at *
  generalize HY : sL (r.list.take (i - l.size - 1)) = Y at *
  go_enter Try.func67, Try.ntmps67
  go_wp2_with (first | (go_at_call 51; refine (pieces_any l _ _ HL).mono ?_; rintro e w' ⟨rfl, rfl⟩)
                     | (go_at_call 67; refine (IH.out ra _ HR.out).mono ?_; rintro e w9 ⟨rfl, hb9⟩))
  have HR9 : Hid (At w9 r ra) := HR.out.keep hb9
  have q := ncells (nkeep HN.out hb9)
  have d8 := q.c8
  have d9 := q.c9
  have d11 := q.c11
  clear q HL HR HN c10 c11 IH g1
  go_region_held3 (fun w' => w'.cell? ⟨b, 8, none⟩ = some (.int .i64 ((Tr.mk (some (c, l, ⟨s, o, n, k⟩, r)))).byt) ∧ w'.cell? ⟨b, 9, none⟩ = some (.int .i64 ((Tr.mk (some (c, l, ⟨s, o, n, k⟩, r)))).lin) ∧ w'.cell? ⟨b, 11, none⟩ = some (.pointer ra)) (first | assumption | simp [*, go_sem])
    (first | (go_at_call 52; refine (bytes_any r ra _ HR9.out.drew).mono ?_; rintro e w' ⟨rfl, rfl⟩)
           | (go_at_call 53; refine (lines_any r ra _ HR9.out.drew).mono ?_; rintro e w' ⟨rfl, rfl⟩))
  go_wp2
  go_ret2
  exact ⟨ret2 (E1.out.trans e1.out.symm) (E2.out.trans e2.out.symm), hb9.drew⟩

set_option maxHeartbeats 1000000 in
theorem before_left (c : Bool) (l r : Tr) (s o n k : Int) (i : Nat) (a : Option Addr) (w : World) (hi : Hid (i ≤ l.size)) (h : Hid (At w ((Tr.mk (some (c, l, ⟨s, o, n, k⟩, r)))) a))
    (IH : Hid (∀ a w, At w l a → Calls Try.prog 67 #[.pointer a, .int .i64 (i : Nat)] w fun e w' => e = .returned (.tuple #[.int .i64 (sB (l.list.take i)), .int .i64 (sL (l.list.take i))]) ∧ Below w.heap.size w w')) :
    Calls Try.prog 67 #[.pointer a, .int .i64 (i : Nat)] w fun e w' => e = .returned (.tuple #[.int .i64 (sB (l.list.take i)), .int .i64 (sL (l.list.take i))]) ∧ Below w.heap.size w w' := by
  obtain ⟨b, la, ra, rfl, hn, hl, hr⟩ := h.out
  have HL : Hid (At w l la) := hl
  have c10 := (ncells hn).c10
  have g1 : (i : Int) ≤ (l.size : Int) := by have := hi.out; omega
  clear hn hl hr h
  generalize HX : sB (l.list.take i) = X at *
  generalize HY : sL (l.list.take i) = Y at *
  go_enter Try.func67, Try.ntmps67
  go_wp2_with (first | (go_at_call 51; refine (pieces_any l _ _ HL).mono ?_; rintro e w' ⟨rfl, rfl⟩)
                     | (go_at_call 67; refine (IH.out la _ HL.out).mono ?_; rintro e w9 ⟨rfl, hb9⟩))
  go_ret2
  exact ⟨rfl, hb9⟩

theorem before_any : ∀ (t : Tr) (i : Nat) (a : Option Addr) (w : World), i ≤ t.size → t.fine → At w t a →
    Calls Try.prog 67 #[.pointer a, .int .i64 (i : Nat)] w fun e w' => e = .returned (.tuple #[.int .i64 (sB (t.list.take i)), .int .i64 (sL (t.list.take i))]) ∧ Below w.heap.size w w'
  | (Tr.mk none), i, a, w, _, _, h => by
    have e : a = none := h
    subst e
    refine (before_nil i w).mono ?_
    rintro e w' ⟨rfl, rfl⟩
    exact ⟨by simp [Tr.list, sB, sL], Below.refl _ _⟩
  | (Tr.mk (some (c, l, ⟨s, o, n, k⟩, r))), i, a, w, hi, hf, h => by
    have z := hf.2
    simp only [Tr.size] at hi z
    by_cases hc : i ≤ l.size
    · rw [take_left hc]
      exact before_left c l r s o n k i a w hc h (fun a w h => before_any l i a w hc hf.left h)
    · exact before_right c l r s o n k i a w (by unfold Hid; omega) (by unfold Hid; omega) hf h (fun a w h => before_any r (i - l.size - 1) a w (by omega) hf.right h)

set_option maxHeartbeats 1000000 in
theorem Before_yes (t : Tr) (a : Option Addr) (i : Nat) (w : World) (hi : i ≤ t.size) (hf : Hid t.fine) (h : Hid (At w t a)) :
    Calls Try.prog 36 #[.agg #[.pointer a], .int .i64 (i : Nat)] w fun e w' => e = .returned (.tuple #[.int .i64 (sB (t.list.take i)), .int .i64 (sL (t.list.take i)), .int .i64 0]) ∧ Below w.heap.size w w' := by
  have hd : decide (0 ≤ (i : Int) ∧ (i : Int) ≤ (t.size : Int)) = true := by simp; omega
  go_enter Try.func36, Try.ntmps36
  go_wp2_with (first | (go_at_call 61; refine (hasGap_any t _ _ _ (h.out.alloc _)).mono ?_; rw [hd]; rintro e w9 ⟨rfl, hb9⟩; obtain ⟨c9, f9⟩ := bcell hb9)
                     | (go_at_call 67; refine (before_any t i _ _ hi hf.out ((h.out.alloc _).keep hb9)).mono ?_; rintro e w8 ⟨rfl, hb8⟩))
  go_ret3
  exact ⟨rfl, (bA hb9).trans (hb8.mono (bA hb9).size)⟩
set_option maxHeartbeats 1000000 in
theorem Before_no (t : Tr) (a : Option Addr) (i : Int) (w : World) (hd : decide (0 ≤ i ∧ i ≤ (t.size : Int)) = false) (h : Hid (At w t a)) :
    Calls Try.prog 36 #[.agg #[.pointer a], .int .i64 i] w fun e w' => e = .returned (.tuple #[.int .i64 0, .int .i64 0, .int .i64 20]) ∧ Below w.heap.size w w' := by
  go_enter Try.func36, Try.ntmps36
  go_wp2_with (first | (go_at_call 61; refine (hasGap_any t _ _ _ (h.out.alloc _)).mono ?_; rw [hd]; rintro e w9 ⟨rfl, hb9⟩; obtain ⟨c9, f9⟩ := bcell hb9))
  go_ret3
  exact ⟨rfl, bA hb9⟩
end Go.Proofs.Ytcaegdfbbjfgpaa

/- The contracts of find and Find, over bytes. -/
namespace Go.Proofs.Ytcaegdfbbjfgpaa
open Go.RowKit

/-- the answer of a search: a place and what is inside it -/
def Hit52 (L : List Pc) (m : Int) (j : Nat) (inside : Int) : Prop := ∃ p, L[j]? = some p ∧ 0 ≤ inside ∧ inside < p.l ∧ m = sB (L.take j) + inside

theorem hit_left52 {c : Bool} {l r : Tr} {p : Pc} {m : Int} {j : Nat} {x : Int} (h : Hit52 l.list m j x) : Hit52 ((Tr.mk (some (c, l, p, r)))).list m j x := by
  obtain ⟨q, h1, h2, h3, h4⟩ := h
  have hj := (List.getElem?_eq_some_iff.1 h1).1
  rw [Tr.size_list] at hj
  exact ⟨q, by rw [list_left hj]; exact h1, h2, h3, by rw [take_left (by omega)]; exact h4⟩
theorem hit_here52 {c : Bool} {l r : Tr} {p : Pc} {m : Int} (h1 : l.byt ≤ m) (h2 : m < l.byt + p.l) : Hit52 ((Tr.mk (some (c, l, p, r)))).list m l.size (m - l.byt) := by
  refine ⟨p, list_here rfl, by omega, by omega, ?_⟩
  rw [take_left (Nat.le_refl _), List.take_of_length_le (by rw [Tr.size_list]; exact Nat.le_refl _), ← byt_list]; omega
theorem hit_right52 {c : Bool} {l r : Tr} {p : Pc} {m : Int} {j : Nat} {x : Int} (h : Hit52 r.list (m - (l.byt + p.l)) j x) : Hit52 ((Tr.mk (some (c, l, p, r)))).list m (l.size + 1 + j) x := by
  obtain ⟨q, h1, h2, h3, h4⟩ := h
  refine ⟨q, ?_, h2, h3, ?_⟩
  · rw [list_right (by omega), show l.size + 1 + j - l.size - 1 = j from by omega]; exact h1
  · rw [take_right (by omega), show l.size + 1 + j - l.size - 1 = j from by omega, sB_append, sB_cons, ← byt_list]; omega
theorem hit_lt52 {L : List Pc} {m : Int} {j : Nat} {x : Int} (h : Hit52 L m j x) : j < L.length := by
  obtain ⟨q, h1, -⟩ := h
  exact (List.getElem?_eq_some_iff.1 h1).1

set_option maxHeartbeats 4000000 in
theorem find52_node (c : Bool) (l : Tr) (s o n k : Int) (r : Tr) (a : Option Addr) (m : Int) (w : World) (h1 : 0 ≤ m) (h2 : m < ((Tr.mk (some (c, l, ⟨s, o, n, k⟩, r)))).byt) (hf : ((Tr.mk (some (c, l, ⟨s, o, n, k⟩, r)))).fine) (h : At w ((Tr.mk (some (c, l, ⟨s, o, n, k⟩, r)))) a)
    (IHL : Hid (∀ (a : Option Addr) (m : Int) (w : World), 0 ≤ m → m < l.byt → l.fine → At w l a → Calls Try.prog 84 #[.pointer a, .int .i64 m, .func (.func 52) #[] #[]] w fun e w' => ∃ (j : Nat) (x : Int), e = .returned (.tuple #[.int .i64 j, .int .i64 x]) ∧ Hit52 l.list m j x ∧ Below w.heap.size w w'))
    (IHR : Hid (∀ (a : Option Addr) (m : Int) (w : World), 0 ≤ m → m < r.byt → r.fine → At w r a → Calls Try.prog 84 #[.pointer a, .int .i64 m, .func (.func 52) #[] #[]] w fun e w' => ∃ (j : Nat) (x : Int), e = .returned (.tuple #[.int .i64 j, .int .i64 x]) ∧ Hit52 r.list m j x ∧ Below w.heap.size w w')) :
    Calls Try.prog 84 #[.pointer a, .int .i64 m, .func (.func 52) #[] #[]] w fun e w' => ∃ (j : Nat) (x : Int), e = .returned (.tuple #[.int .i64 j, .int .i64 x]) ∧ Hit52 ((Tr.mk (some (c, l, ⟨s, o, n, k⟩, r)))).list m j x ∧ Below w.heap.size w w' := by
  have HA : Hid (At w ((Tr.mk (some (c, l, ⟨s, o, n, k⟩, r)))) a) := h
  obtain ⟨b, la, ra, rfl, hn, hl, hr⟩ := id h
  have HL : Hid (At w l la) := hl
  have HR : Hid (At w r ra) := hr
  have c10 := (ncells hn).c10
  have c11 := (ncells hn).c11
  have FL := hf.left
  have FR := hf.right
  have bl := fine_bounds FL
  have br := fine_bounds FR
  have bp := hf.piece
  have bz := hf.2
  have HM : Hid (0 ≤ m ∧ m < l.byt + n + r.byt) := ⟨h1, h2⟩
  have e0 : ((Tr.mk (some (c, l, ⟨s, o, n, k⟩, r)))).byt = l.byt + n + r.byt := rfl
  have HF : Hid (l.fine ∧ r.fine) := ⟨FL, FR⟩
  simp only [Tr.size, Pc.fit] at bz bp
  have HZ : Hid (l.size + 1 + r.size ≤ 1048576) := bz
  clear h h1 h2 hf hn hl hr FL FR
  have HBD : Hid (0 ≤ l.byt ∧ l.byt ≤ 2251799813685248 ∧ 0 ≤ r.byt ∧ r.byt ≤ 2251799813685248 ∧ 0 ≤ n ∧ n ≤ 2147483647) := by unfold Hid; omega
  clear bl br bp bz
  by_cases g : m < l.byt
  · go_enter Try.func84, Try.ntmps84
    go_wp2_with (first | (go_at_call 52; refine (bytes_any l _ _ HL).mono ?_; rintro e w' ⟨rfl, rfl⟩)
                       | (go_at_call 84; refine (IHL.out la m _ HM.out.1 g HF.out.1 HL.out).mono ?_; rintro e w9 ⟨j, x, rfl, hh, hb9⟩))
    go_ret2
    exact ⟨j, x, rfl, hit_left52 hh, hb9⟩
  · have w1 : IntKind.i64.wrap (l.byt + n) = l.byt + n := by
      have := HBD.out; exact i64_in (by omega) (by omega)
    go_enter Try.func84, Try.ntmps84
    go_wp2_with (first | (go_at_call 52; refine (bytes_any l _ _ HL).mono ?_; rintro e w' ⟨rfl, rfl⟩))
    go_region_held3 (fun w' => w'.cell? ⟨b, 11, none⟩ = some (.pointer ra)) (first | assumption | simp [*, go_sem])
      (first | (go_at_call_of 52 (Value.pointer ra); refine (bytes_any r _ _ HR.out.drew).mono ?_; rintro e w' ⟨rfl, rfl⟩)
             | (go_at_call 52; refine (bytes_any _ _ _ HA.out.drew).mono ?_; rintro e w' ⟨rfl, rfl⟩; rw [e0]))
    (try rw [w1])
    by_cases g2 : m < l.byt + n
    · have w2 : wrap64 (m - l.byt) = m - l.byt := by have := HBD.out; have := HM.out; exact w64 (by omega) (by omega)
      go_wp2_with (first | (go_at_call 51; refine (pieces_any l _ _ HL.out.drew).mono ?_; rintro e w' ⟨rfl, rfl⟩))
      go_ret2
      exact ⟨l.size, m - l.byt, ret2 rfl w2, hit_here52 (by omega) g2, (Below.refl _ _).drew⟩
    · have w3 : wrap64 (m - (l.byt + n)) = m - (l.byt + n) := by have := HBD.out; have := HM.out; exact w64 (by omega) (by omega)
      go_wp2_with (first | (go_at_call 84; refine (IHR.out ra (m - (l.byt + n)) _ (by omega) (by have := HM.out; omega) HF.out.2 HR.out.drew).mono ?_; rintro e w9 ⟨j, x, rfl, hh, hb9⟩; have hjl := hit_lt52 hh; rw [Tr.size_list] at hjl; have HLT : Hid (j < r.size) := hjl; have cA : w9.cell? ⟨b, 10, none⟩ = some (.pointer la) := ((bD hb9).cell (p := ⟨b, 10, none⟩) (cell_lt c10)).trans c10; have HL9 : Hid (At w9 l la) := HL.out.keep (bD hb9))
                         | (go_at_call 51; refine (pieces_any l _ _ HL9).mono ?_; rintro e w' ⟨rfl, rfl⟩))
      go_ret2
      refine ⟨l.size + 1 + j, x, ret2 ?_ rfl, hit_right52 hh, bD hb9⟩
      have := HZ.out; have := HLT.out
      first | omega | (rw [w64 (x := (l.size : Int) + 1) (by omega) (by omega), w64 (by omega) (by omega)]; omega)

theorem find52_any : ∀ (t : Tr) (a : Option Addr) (m : Int) (w : World), 0 ≤ m → m < t.byt → t.fine → At w t a →
    Calls Try.prog 84 #[.pointer a, .int .i64 m, .func (.func 52) #[] #[]] w fun e w' => ∃ (j : Nat) (x : Int), e = .returned (.tuple #[.int .i64 j, .int .i64 x]) ∧ Hit52 t.list m j x ∧ Below w.heap.size w w'
  | (Tr.mk none), a, m, w, h1, h2, hf, h => absurd h2 (by simp only [Tr.byt]; omega)
  | (Tr.mk (some (c, l, ⟨s, o, n, k⟩, r))), a, m, w, h1, h2, hf, h => find52_node c l s o n k r a m w h1 h2 hf h (find52_any l) (find52_any r)

set_option maxHeartbeats 1000000 in
theorem tfind52_yes (t : Tr) (a : Option Addr) (m : Int) (w : World) (h0 : 0 ≤ m) (h1 : m < t.byt) (hf : Hid t.fine) (h : Hid (At w t a)) :
    Calls Try.prog 65 #[.agg #[.pointer a], .int .i64 m, .func (.func 52) #[] #[]] w fun e w' => ∃ (j : Nat) (x : Int), e = .returned (.tuple #[.int .i64 j, .int .i64 x, .bool true]) ∧ Hit52 t.list m j x ∧ Below w.heap.size w w' := by
  go_enter Try.func65, Try.ntmps65
  go_wp2_with (first | (go_at_call 52; refine (bytes_any t _ _ (h.out.alloc _)).mono ?_; rintro e w' ⟨rfl, rfl⟩)
                     | (go_at_call 84; refine (find52_any t a m _ h0 h1 hf.out (h.out.alloc _)).mono ?_; rintro e w9 ⟨j, x, rfl, hh, hb9⟩))
  go_ret3
  exact ⟨j, x, rfl, hh, bA hb9⟩
set_option maxHeartbeats 1000000 in
theorem tfind52_low (_t : Tr) (a : Option Addr) (m : Int) (w : World) (h0 : m < 0) :
    Calls Try.prog 65 #[.agg #[.pointer a], .int .i64 m, .func (.func 52) #[] #[]] w fun e w' => e = .returned (.tuple #[.int .i64 0, .int .i64 0, .bool false]) ∧ Below w.heap.size w w' := by
  go_enter Try.func65, Try.ntmps65
  go_wp2_with fail
  go_ret3
  exact ⟨rfl, bAlloc (Below.refl _ _) _⟩
set_option maxHeartbeats 1000000 in
theorem tfind52_high (t : Tr) (a : Option Addr) (m : Int) (w : World) (h0 : 0 ≤ m) (h1 : t.byt ≤ m) (h : Hid (At w t a)) :
    Calls Try.prog 65 #[.agg #[.pointer a], .int .i64 m, .func (.func 52) #[] #[]] w fun e w' => e = .returned (.tuple #[.int .i64 0, .int .i64 0, .bool false]) ∧ Below w.heap.size w w' := by
  go_enter Try.func65, Try.ntmps65
  go_wp2_with (first | (go_at_call 52; refine (bytes_any t _ _ (h.out.alloc _)).mono ?_; rintro e w' ⟨rfl, rfl⟩))
  go_ret3
  exact ⟨rfl, bAlloc (Below.refl _ _) _⟩

set_option maxHeartbeats 1000000 in
theorem Find52_yes (t : Tr) (a : Option Addr) (m : Int) (w : World) (h0 : 0 ≤ m) (h1 : m < t.byt) (hf : Hid t.fine) (h : Hid (At w t a)) :
    Calls Try.prog 33 #[.agg #[.pointer a], .int .i64 m] w fun e w' => ∃ (j : Nat) (x : Int), e = .returned (.tuple #[.int .i64 j, .int .i64 x, .bool true]) ∧ Hit52 t.list m j x ∧ Below w.heap.size w w' := by
  go_enter Try.func33, Try.ntmps33
  go_wp2_with (go_at_call 65; refine (tfind52_yes t a m _ h0 h1 hf (h.out.alloc _)).mono ?_; rintro e w9 ⟨j, x, rfl, hh, hb9⟩)
  go_ret3
  exact ⟨j, x, rfl, hh, bA hb9⟩
set_option maxHeartbeats 1000000 in
theorem Find52_no (t : Tr) (a : Option Addr) (m : Int) (w : World) (h0 : m < 0 ∨ t.byt ≤ m) (h : Hid (At w t a)) :
    Calls Try.prog 33 #[.agg #[.pointer a], .int .i64 m] w fun e w' => e = .returned (.tuple #[.int .i64 0, .int .i64 0, .bool false]) ∧ Below w.heap.size w w' := by
  have HC : Hid (∀ w, At w t a → Calls Try.prog 65 #[.agg #[.pointer a], .int .i64 m, .func (.func 52) #[] #[]] w fun e w' => e = .returned (.tuple #[.int .i64 0, .int .i64 0, .bool false]) ∧ Below w.heap.size w w') := fun w h => by
    by_cases g : m < 0
    · exact tfind52_low t a m w g
    · exact tfind52_high t a m w (by omega) (by omega) h
  clear h0
  go_enter Try.func33, Try.ntmps33
  go_wp2_with (go_at_call 65; refine (HC.out _ (h.out.alloc _)).mono ?_; rintro e w9 ⟨rfl, hb9⟩)
  go_ret3
  exact ⟨rfl, bA hb9⟩
end Go.Proofs.Ytcaegdfbbjfgpaa

/- The law's own 'alive': its fixed facts hold. -/
namespace Go.Proofs.Ytcaegdfbbjfgpaa
open Go.RowKit

def p1 : Pc := ⟨0, 0, 1, 0⟩
def p2 : Pc := ⟨0, 0, 2, 0⟩
def p3 : Pc := ⟨0, 0, 3, 0⟩
def tA : Tr := (Tr.mk (some (false, ((Tr.mk (some (false, (Tr.mk none), p1, (Tr.mk none))))), p2, ((Tr.mk (some (false, (Tr.mk none), p3, (Tr.mk none))))))))
def tB : Tr := (Tr.mk (some (false, ((Tr.mk (some (true, (Tr.mk none), p1, (Tr.mk none))))), p3, (Tr.mk none))))
theorem build123 : Tr.buildT (good (plainL [1, 2, 3])) = tA := by
  have e : good (plainL [1, 2, 3]) = [p1, p2, p3] := rfl
  rw [e, Tr.buildT_some (l := [p1, p2, p3]) (p := p2) rfl]
  show Tr.joinT (Tr.buildT [p1]) p2 (Tr.buildT [p3]) = tA
  rw [Tr.buildT_some (l := [p1]) (p := p1) rfl, Tr.buildT_some (l := [p3]) (p := p3) rfl]
  show Tr.joinT (Tr.joinT (Tr.buildT []) p1 (Tr.buildT [])) p2 (Tr.joinT (Tr.buildT []) p3 (Tr.buildT [])) = tA
  rw [Tr.buildT_nil]; rfl
theorem del123 : Tr.gluT (Tr.splitT tA 1).1 (Tr.splitT tA (1 + 1)).2 = tB := rfl
theorem whole123 : tA.whole := by rw [← build123]; exact (Tr.buildT_ok _ _ (Nat.le_refl _)).1
theorem fine123 : tA.fine := by rw [← build123]; exact (fineL_good (L := plainL [1, 2, 3]) (by decide) : fineL _).of (Tr.buildT_ok _ _ (Nat.le_refl _)).2

theorem ints_cells (w : World) (cs : List Int) : ∀ j x, cs[j]? = some x → (w.alloc (.cells (cs.map (Value.int .i64)).toArray 3)).cell? ⟨w.heap.size, j, none⟩ = some (.int .i64 x) := by
  intro j x h
  rw [World.cell?_alloc_mark]
  simp [h]

theorem hit3 {j : Nat} {x : Int} (h : Hit52 tA.list 3 j x) : j = 2 ∧ x = 0 := by
  obtain ⟨p, h1, h2, h3, h4⟩ := h
  have e : tA.list = [p1, p2, p3] := rfl
  rw [e] at h1 h4
  match j, h1, h4 with
  | 0, h1, h4 => simp [p1] at h1; subst h1; simp [sB] at h4 h3; omega
  | 1, h1, h4 => simp [p2] at h1; subst h1; simp [sB, p1] at h4 h3; omega
  | 2, h1, h4 => simp [sB, p1, p2] at h4; exact ⟨rfl, by omega⟩
  | j + 3, h1, h4 => simp at h1

theorem box_cell {w : World} {b : Nat} {a : Option Addr} (h : w.heap[b]? = some (Obj.cells #[.pointer a] 26 (0, 0))) : w.cell? ⟨b, 0, none⟩ = some (.pointer a) := by
  rw [cell_of_row w b 0 _ 26 (0, 0) h]; rfl

/-- the cells of the first piece of a row -/
theorem own_first {w : World} {base n c : Nat} {ao : Option Addr} {p : Pc} {L : List Pc} (h : w.ownsRow base 32 4 (.slice ao n c) n (cells (p :: L))) : ∃ g, ao = some ⟨g, 0, none⟩ ∧ w.cell? ⟨g, 0, none⟩ = some (.int .i64 p.s) ∧ w.cell? ⟨g, 1, none⟩ = some (.int .i64 p.o) ∧ w.cell? ⟨g, 2, none⟩ = some (.int .i64 p.l) ∧ w.cell? ⟨g, 3, none⟩ = some (.int .i64 p.n) := by
  obtain ⟨ao', n', c', e1, e2, e3, e4⟩ := own_rdb h
  obtain ⟨rfl, rfl, rfl⟩ : ao = ao' ∧ n = n' ∧ c = c' := by simpa using e1
  rcases e4 with e4 | ⟨b, off, rfl, hr⟩
  · cases e4
  · have hr0 := hr 0 p rfl
    rcases h.2 with ⟨h1, _⟩ | ⟨g, cap, cur, h1, _⟩
    · simp at h1
    · have : b = g ∧ off = 0 := by simp at h1; exact ⟨h1.1.1, h1.1.2⟩
      obtain ⟨rfl, rfl⟩ := this
      simp only [Nat.zero_mul, Nat.add_zero, Nat.zero_add] at hr0
      exact ⟨b, rfl, hr0⟩

theorem del_alive (a : Option Addr) (w : World) (h : At w tA a) : Calls Try.prog 30 #[.agg #[.pointer a], .int .i64 1] w fun e w' => ∃ x, e = .returned (.tuple #[.agg #[.pointer x], .int .i64 0]) ∧ At w' tB x ∧ Below w.heap.size w w' := by
  have k := Delete_yes tA a 1 w (show 1 < tA.size by decide) fine123 whole123 h
  rw [del123] at k
  exact k
theorem find_alive (a : Option Addr) (w : World) (h : At w tA a) : Calls Try.prog 33 #[.agg #[.pointer a], .int .i64 3] w fun e w' => e = .returned (.tuple #[.int .i64 2, .int .i64 0, .bool true]) ∧ Below w.heap.size w w' := by
  refine (Find52_yes tA a 3 w (by decide) (by decide) fine123 h).mono ?_
  rintro e w4 ⟨j, x, rfl, hh, hb4⟩
  obtain ⟨rfl, rfl⟩ := hit3 hh
  exact ⟨rfl, hb4⟩

/-- the two rows of the tree without its middle piece -/
theorem rowsB {w : World} {base c : Nat} {ao : Option Addr} (h : w.ownsRow base 72 10 (.slice ao tB.size c) tB.size (rcells (rowsT tB))) : ∃ g, ao = some ⟨g, 0, none⟩ ∧ 2 ≤ c ∧ w.cell? ⟨g, 2, none⟩ = some (.int .i64 3) ∧ w.cell? ⟨g, 14, none⟩ = some (.bool true) ∧ RowR w g 0 (rowsT tB) := by
  rcases h.2 with ⟨h1, h2⟩ | ⟨g, cap, cur, h1, hb, hg, h2, h3, h4, h5⟩
  · exact absurd h2 (by decide)
  · have e : ao = some ⟨g, 0, none⟩ ∧ c = cap := by simp at h1; exact h1
    obtain ⟨rfl, rfl⟩ := e
    have hR : RowR w g 0 (rowsT tB) := own_rowR h
    exact ⟨g, rfl, h2, (hR 0 _ rfl).2.2.1, (hR 1 _ rfl).2.2.2.2.1, hR⟩
theorem alp {w : World} {b o : Nat} {v : Value} (h : w.cell? ⟨b, o, none⟩ = some v) : ∀ x : Obj, (w.alloc x).cell? ⟨b, o, none⟩ = some v := fun x => by
  rw [World.cell?_alloc_past x b o (cell_lt h)]; exact h
theorem alp2 {w : World} {b o : Nat} {v : Value} (h : w.cell? ⟨b, o, none⟩ = some v) : ∀ x y : Obj, ((w.alloc x).alloc y).cell? ⟨b, o, none⟩ = some v := fun x y => alp (alp h x) y
theorem Check_last (w : World) (g c : Nat) (hc : 2 ≤ c) (h : RowR w g 0 (rowsT tB)) : Calls Try.prog 23 #[.slice (some ⟨g, 10, none⟩) 1 (c - 1)] w fun e w' => e = .returned (.int .i64 21) ∧ Below w.heap.size w w' := by
  have k := Check_any ((rowsT tB).drop 1) (.slice (some ⟨g, 10, none⟩) 1 (c - 1)) w (by decide) ⟨_, _, _, rfl, by decide, by omega, .inr ⟨g, 10, rfl, by simpa using h.drop 1⟩⟩
  have e : checkB ((rowsT tB).drop 1) = false := by
    rw [← Bool.not_eq_true]
    intro hc
    obtain ⟨t, h1, -, h3⟩ := (checkB_iff (by decide)).1 hc
    cases t using Tr.el with
    | nil => simp [rowsT, tB] at h3
    | node c l p r =>
      have e2 := congrArg (fun L => (L.head?).map Rw.red) h3
      have e3 : c = true := by simpa [rowsT, rowOf, tB] using e2
      have := h1.2
      rw [e3] at this
      simp [Tr.red] at this
  rw [e] at k
  exact k
theorem plain_one (b : Nat) (w : World) (h : w.cell? ⟨b, 0, none⟩ = some (.int .i64 1)) :
    Calls Try.prog 38 #[.slice (some ⟨b, 0, none⟩) 1 1] w fun e w' => ∃ g c, e = .returned (.slice (some ⟨g, 0, none⟩) 1 c) ∧ w'.cell? ⟨g, 0, none⟩ = some (.int .i64 0) ∧ w'.cell? ⟨g, 1, none⟩ = some (.int .i64 0) ∧ w'.cell? ⟨g, 2, none⟩ = some (.int .i64 1) ∧ w'.cell? ⟨g, 3, none⟩ = some (.int .i64 0) ∧ Below w.heap.size w w' := by
  refine (plain_any b [1] w (by decide) (fun j x hj => ?_)).mono ?_
  · cases j with
    | zero => simp at hj; subst hj; exact h
    | succ j => simp at hj
  · rintro e w5 ⟨ao5, c5, rfl, ho5, hb5⟩
    obtain ⟨g5, rfl, q0, q1, q2, q3⟩ := own_first (p := ⟨0, 0, 1, 0⟩) (L := []) ho5
    exact ⟨g5, c5, rfl, q0, q1, q2, q3, hb5⟩

set_option maxRecDepth 100000 in
set_option maxHeartbeats 4000000 in
theorem alive_any (w : World) : Calls Try.prog 9 #[] w fun e w' => e = .returned (.bool true) ∧ Below w.heap.size w w' := by
  go_enter Try.func9, Try.ntmps9
  go_wp2_with (first | (go_at_call 38; refine (plain_any w.heap.size [1, 2, 3] _ (by decide) (ints_cells w [1, 2, 3])).mono ?_; rintro e w1 ⟨ao1, c1, rfl, ho1, hb1⟩)
                     | (go_at_call 14; refine (Build_any _ (plainL [1, 2, 3]) _ (by decide) (own_rdb ho1)).mono ?_; rw [build123]; rintro e w2 ⟨a2, rfl, hat2, hb2⟩; (have L2 : Below w.heap.size w w2 := (bA hb1).trans (hb2.mono (bA hb1).size)); (have T2 : Hid ((w2.alloc (.cells #[.pointer a2] 26)).heap[w2.heap.size]? = some (Obj.cells #[.pointer a2] 26 (0, 0))) := heap_alloc_new _ _); (have H2 : Hid (At (w2.alloc (.cells #[.pointer a2] 26)) tA a2) := hat2.alloc _); clear hat2 ho1)
                     | (go_at_call 30; refine (del_alive a2 _ H2.out).mono ?_; rintro e w3 ⟨x3, rfl, hat3, hb3⟩; (have L3 : Below w.heap.size w w3 := L2.trans ((bA hb3).mono L2.size)); (have T3 : Hid ((w3.alloc (.cells #[.pointer x3] 26)).heap[w2.heap.size]? = some (Obj.cells #[.pointer a2] 26 (0, 0))) := nkeep (nkeep T2.out hb3) (bAlloc (Below.refl _ _) _)); (have U3 : Hid ((w3.alloc (.cells #[.pointer x3] 26)).heap[w3.heap.size]? = some (Obj.cells #[.pointer x3] 26 (0, 0))) := heap_alloc_new _ _); (have H3 : Hid (At (w3.alloc (.cells #[.pointer x3] 26)) tA a2) := (H2.out.keep hb3).alloc _); (have D3 : Hid (At (w3.alloc (.cells #[.pointer x3] 26)) tB x3) := hat3.alloc _); (have t3 := box_cell T3.out); (have u3 := box_cell U3.out); clear hat3 H2 T2)
                     | (go_at_call 33; refine (find_alive a2 _ H3.out).mono ?_; rintro e w4 ⟨rfl, hb4⟩; (have L4 : Below w.heap.size w w4 := L3.trans ((bA hb4).mono L3.size)); (have T4 : Hid (w4.heap[w2.heap.size]? = some (Obj.cells #[.pointer a2] 26 (0, 0))) := nkeep T3.out hb4); (have U4 : Hid (w4.heap[w3.heap.size]? = some (Obj.cells #[.pointer x3] 26 (0, 0))) := nkeep U3.out hb4); (have H4 : Hid (At w4 tA a2) := H3.out.keep hb4); (have D4 : Hid (At w4 tB x3) := D3.out.keep hb4); (have t4 := box_cell T4.out); (have u4 := box_cell U4.out); clear H3 D3 T3 U3 t3 u3))
  go_cut [7, 8] from 24 to 32 (fun x7 x8 wx => x8 = .int .i64 20 ∧ Below w4.heap.size w4 wx)
  case first =>
    have T4a := alp t4
    have T4b := alp2 t4
    go_region_with
      (first | (go_at_call 38; refine (plain_one _ _ (by simp)).mono ?_; rintro e w5 ⟨g5, c5, rfl, q0, q1, q2, q3, hb5⟩; (have M5 := bD hb5); (have B45 : Below w4.heap.size w4 w5 := by first | exact bA M5 | exact bA2 M5); have k5 := box_cell (nkeep T4.out B45); (have k5a := alp k5); (have v0 := alp q0); (have v1 := alp q1); (have v2 := alp q2); (have v3 := alp q3))
             | (go_at_call 29; refine (Insert_place tA a2 4 0 0 1 0 _ (by decide) (by first | exact H4.out.keep B45 | exact (H4.out.keep B45).alloc _)).mono ?_; rintro e w6 ⟨rfl, hb6⟩; (have B56 : Below w5.heap.size w5 w6 := by first | exact hb6 | exact bA hb6); (have B46 : Below w4.heap.size w4 w6 := B45.trans (B56.mono B45.size)); (have M6 := M5.trans (B56.mono M5.size)); obtain ⟨c6, f6⟩ := bcell hb6; obtain ⟨d6, g6⟩ := bcell M6; have k6 := box_cell (nkeep T4.out B46)))
    all_goals (go_wp2_with fail; go_meet)
    all_goals first | exact ⟨rfl, bAlloc B46 _⟩ | exact ⟨rfl, B46.setCell (p := ⟨w5.heap.size, 0, none⟩) B45.size _⟩ | exact ⟨rfl, B46.setCell (p := ⟨w4.heap.size, 0, none⟩) (Nat.le_refl _) _⟩ | exact ⟨rfl, B46.setCell (p := ⟨w4.heap.size + 1, 0, none⟩) (Nat.le_succ _) _⟩
  case rest =>
  obtain ⟨rfl, X6⟩ := hcut
  have H6 : Hid (At wc tA a2) := H4.out.keep X6
  have D6 : Hid (At wc tB x3) := D4.out.keep X6
  have T6 : Hid (wc.heap[w2.heap.size]? = some (Obj.cells #[.pointer a2] 26 (0, 0))) := nkeep T4.out X6
  have U6 : Hid (wc.heap[w3.heap.size]? = some (Obj.cells #[.pointer x3] 26 (0, 0))) := nkeep U4.out X6
  have L6 : Below w.heap.size w wc := L4.trans (X6.mono L4.size)
  have t6 := box_cell T6.out
  have u6 := box_cell U6.out
  clear X6 H4 D4 T4 U4 t4 u4 L4
  go_wp2_with (first | (go_at_call 13; refine (Rows_any tB x3 _ (show tB.size ≤ 2097152 by decide) D6).mono ?_; rintro e w8 ⟨ao8, c8, rfl, ho8, hb8⟩; obtain ⟨g8, rfl, y0, y1, y2, y3⟩ := rowsB ho8; (have T8 : Hid (w8.heap[w2.heap.size]? = some (Obj.cells #[.pointer a2] 26 (0, 0))) := nkeep T6.out hb8); (have H8 : Hid (At w8 tA a2) := H6.out.keep hb8); (have t8 := box_cell T8.out); (have L8 : Below w.heap.size w w8 := L6.trans (hb8.mono L6.size)); (have Y3 : Hid (RowR w8 g8 0 (rowsT tB)) := y3); clear y3 ho8; (have t9 := alp t8); (have y5 := alp2 y1); (have y6 := alp2 y2); (have y7 : (2 : Int) ≤ (c8 : Int) := by omega); (have y8 : (1 : Int) ≤ (c8 : Int) := by omega); (have y9 : ¬ c8 = 1 := by omega); rw [show tB.size = 2 from rfl])
                     | (go_at_call 17; refine (Len_any tA a2 _ H8).mono ?_; rintro e w' ⟨rfl, rfl⟩; rw [show tA.size = 3 from rfl])
                     | (go_at_call 18; refine (Bytes_any tA a2 _ (H8.out.alloc _)).mono ?_; rintro e w' ⟨rfl, rfl⟩; rw [show tA.byt = 6 from rfl])
                     | (go_at_call 23; refine (Check_last _ g8 c8 y0 (Y3.out.keep (bAA _ _ _))).mono ?_; rintro e w7 ⟨rfl, hb7⟩))
  go_ret
  exact ⟨rfl, (bAlloc (bAlloc L8 _) _).trans (hb7.mono (by have := L8.size; simp; omega))⟩
end Go.Proofs.Ytcaegdfbbjfgpaa

/- The walks of the reference's Check and of quoinlaw02.ShadeChecks. -/
namespace Go.Proofs.Ytcaegdfbbjfgpaa
open Go.RowKit

set_option maxRecDepth 100000 in
set_option maxHeartbeats 2000000 in
/-- look, of no rows -/
theorem look_nil (ao : Option Addr) (c : Nat) (w : World) : Calls Try.prog 55 #[.slice ao 0 c] w fun e w' => Looked w [] e w' := by
  go_enter Try.func55, Try.ntmps55
  go_wp2_with fail
  go_loopg [4, 5] 0 (fun _ g i wr => g = .slice none 0 0 ∧ i = .int .i64 (-1) ∧ Blk wr w.heap.size 93 z6 ∧ Below w.heap.size w wr)
  case atStart => exact ⟨rfl, rfl, Blk.new _ _ _, bAlloc (Below.refl _ _) _⟩
  case round =>
    obtain ⟨rfl, rfl, hB, hb⟩ := hrel
    obtain ⟨z0, z1, z2, z3, z4, z5⟩ := blk6 hB
    have fz := hB.frozen
    have HB := Hid.mk' hb
    clear hB hb
    go_wp2_with fail
    refine bodyPost_ret (v := .tuple #[.agg #[.bool false, .int .i64 0, .int .i64 0, .int .i64 0, .int .i64 0, .int .i64 0], .bool true]) (by simp [results, Try.results55, go_sem, z0, z1, z2, z3, z4, z5]) rfl ⟨⟨false, 0, 0, 0, 0, 0, rfl, fun t ht => by simp [lookF] at ht, fun _ => rfl⟩, ?_⟩
    exact put6_below HB.out (Nat.le_refl _) _ _ _ _ _ _
theorem look_rdr (L : List Rw) (v : Value) (w : World) (hz : L.length ≤ 65536) (hr : Rdr w v L) : Calls Try.prog 55 #[v] w fun e w' => Looked w L e w' := by
  obtain ⟨ao, n, c, rfl, hn, _, h⟩ := hr
  rcases h with rfl | ⟨b, off, rfl, h⟩
  · simp at hn; subst hn; exact look_nil ao c w
  · exact look_any b off n c L w hn (by omega) h

set_option maxRecDepth 100000 in
set_option maxHeartbeats 2000000 in
theorem refCheck_any (L : List Rw) (v : Value) (w : World) (hz : L.length ≤ 65536) (hr : Hid (Rdr w v L)) :
    Calls Try.prog 24 #[v] w fun e w' => e = .returned (.int .i64 (if okF (lookF L) = true then 0 else 21)) ∧ Below w.heap.size w w' := by
  cases hk : okF (lookF L) with
  | true =>
    go_enter Try.func24, Try.ntmps24
    go_wp2_with (go_at_call 55; refine (look_rdr L v w hz hr.out).mono ?_; rintro e w9 ⟨⟨b0, i1, i2, i3, i4, i5, rfl, -, -⟩, hb9⟩; rw [hk])
    go_ret
    exact ⟨rfl, bAlloc hb9 _⟩
  | false =>
    go_enter Try.func24, Try.ntmps24
    go_wp2_with (go_at_call 55; refine (look_rdr L v w hz hr.out).mono ?_; rintro e w9 ⟨⟨b0, i1, i2, i3, i4, i5, rfl, -, -⟩, hb9⟩; rw [hk])
    go_ret
    exact ⟨rfl, bAlloc hb9 _⟩

set_option maxRecDepth 100000 in
set_option maxHeartbeats 2000000 in
theorem checks_walk (L : List Rw) (v : Value) (w : World) (hr : Hid (Rdr w v L)) :
    Calls Try.prog 5 #[v] w fun e w' => e = .returned (.bool true) ∧ Below w.heap.size w w' := by
  obtain ⟨ao, n, c, e1, hn, hc, -⟩ := hr.out
  subst e1
  by_cases hz : n ≤ 65536
  · have hk := check_look (L := L) (by omega)
    generalize hX : (if checkB L = true then (0 : Int) else 21) = X
    have HX := Hid.mk' hX
    have HY : Hid ((if okF (lookF L) = true then (0 : Int) else 21) = X) := by unfold Hid; rw [← hk]; exact hX
    have hz1 : L.length ≤ 1048576 := by omega
    have hz2 : L.length ≤ 65536 := by omega
    have hz3 : (n : Int) ≤ 65536 := by omega
    clear hX hk hn
    go_enter Try.func5, Try.ntmps5
    go_wp2_with (first | (go_at_call 9; refine (alive_any w).mono ?_; rintro e w9 ⟨rfl, hb9⟩; have H9 := Hid.mk' hb9; clear hb9)
                       | (go_at_call 23; (have Q := Check_any L _ w9 hz1 (hr.out.keep H9.out)); rw [HX.out] at Q; refine Q.mono ?_; clear Q; rintro e w8 ⟨rfl, hb8⟩; have H8 := Hid.mk' (bT H9.out hb8); clear hb8)
                       | (go_at_call 24; (have Q := refCheck_any L _ w8 hz2 (hr.out.keep H8.out)); rw [HY.out] at Q; refine Q.mono ?_; clear Q; rintro e w7 ⟨rfl, hb7⟩; have H7 := Hid.mk' (bT H8.out hb7); clear hb7))
    go_ret
    exact ⟨by first | rfl | simp, H7.out⟩
  · have hz3 : (65536 : Int) < (n : Int) := by omega
    go_enter Try.func5, Try.ntmps5
    go_wp2_with (go_at_call 9; refine (alive_any w).mono ?_; rintro e w9 ⟨rfl, hb9⟩; have H9 := Hid.mk' hb9; clear hb9)
    go_ret
    exact ⟨rfl, H9.out⟩
end Go.Proofs.Ytcaegdfbbjfgpaa

