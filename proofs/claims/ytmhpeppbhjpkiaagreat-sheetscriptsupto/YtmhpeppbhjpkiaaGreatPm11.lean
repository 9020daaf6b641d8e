/- The contracts of before and find. -/
import Derived.Test.YtmhpeppbhjpkiaaGreatPm04
namespace Go.Proofs.YtmhpeppbhjpkiaaGreat
open Go.RowKit

/-- the bytes and the line ends of a list of pieces -/
def sB (L : List Pc) : Int := (L.map Pc.l).sum
def sL (L : List Pc) : Int := (L.map Pc.n).sum
theorem sB_append (L M : List Pc) : sB (L ++ M) = sB L + sB M := by simp [sB]
theorem sL_append (L M : List Pc) : sL (L ++ M) = sL L + sL M := by simp [sL]
theorem sB_cons (p : Pc) (M : List Pc) : sB (p :: M) = p.l + sB M := by simp [sB]
theorem sL_cons (p : Pc) (M : List Pc) : sL (p :: M) = p.n + sL M := by simp [sL]
theorem byt_list : ∀ t : Tr, t.byt = sB t.list
  | (Tr.mk none) => rfl
  | (Tr.mk (some (c, l, p, r))) => by simp only [Tr.byt, Tr.list, sB_append, sB_cons, byt_list l, byt_list r]; omega
theorem lin_list : ∀ t : Tr, t.lin = sL t.list
  | (Tr.mk none) => rfl
  | (Tr.mk (some (c, l, p, r))) => by simp only [Tr.lin, Tr.list, sL_append, sL_cons, lin_list l, lin_list r]; omega

theorem take_left {c : Bool} {l r : Tr} {p : Pc} {i : Nat} (h : i ≤ l.size) : ((Tr.mk (some (c, l, p, r)))).list.take i = l.list.take i := by
  simp only [Tr.list]; exact List.take_append_of_le_length (by rw [Tr.size_list]; exact h)
theorem take_right {c : Bool} {l r : Tr} {p : Pc} {i : Nat} (h : l.size < i) : ((Tr.mk (some (c, l, p, r)))).list.take i = l.list ++ p :: r.list.take (i - l.size - 1) := by
  have z := Tr.size_list l
  have e : i = l.list.length + ((i - l.size - 1) + 1) := by omega
  simp only [Tr.list]
  conv => lhs; rw [e, List.take_length_add_append, List.take_succ_cons]

set_option maxHeartbeats 400000 in
theorem before_nil (i : Int) (w : World) : Calls Tryz.prog 110 #[.pointer none, .int .i64 i] w fun e w' => e = .returned (.tuple #[.int .i64 0, .int .i64 0]) ∧ w' = w := by
  go_enter Tryz.func110, Tryz.ntmps110
  go_wp2
  go_ret2
  exact ⟨rfl, rfl⟩

theorem sB_bounds {L : List Pc} (h : fineL L) (i : Nat) : 0 ≤ sB (L.take i) ∧ sB (L.take i) ≤ 2251799813685248 ∧ 0 ≤ sL (L.take i) ∧ sL (L.take i) ≤ 2251799813685248 := by
  have key : ∀ M : List Pc, (∀ p ∈ M, p.fit) → 0 ≤ sL M ∧ sL M ≤ sB M ∧ sB M ≤ 2147483647 * (M.length : Int) := by
    intro M
    induction M with
    | nil => intro _; simp [sB, sL]
    | cons p M ih =>
      intro hM
      have a := ih (fun q hq => hM q (List.mem_cons_of_mem _ hq))
      have b := hM p (List.mem_cons_self ..)
      unfold Pc.fit at b
      rw [sB_cons, sL_cons, List.length_cons]
      push_cast
      omega
  have k := key (L.take i) (fun p hp => h.1 p (List.mem_of_mem_take hp))
  have hl : (L.take i).length ≤ 1048576 := by have := h.2; rw [List.length_take]; omega
  omega

theorem ret2 {a b c d : Int} (h : a = b) (h' : c = d) : Ending.returned (.tuple #[.int .i64 a, .int .i64 c]) = .returned (.tuple #[.int .i64 b, .int .i64 d]) := by rw [h, h']
theorem i64_in {x : Int} (h1 : -9223372036854775808 ≤ x) (h2 : x ≤ 9223372036854775807) : IntKind.i64.wrap x = x := by rw [IntKind.wrap_i64]; omega
theorem fine_bounds {t : Tr} (h : t.fine) : 0 ≤ t.byt ∧ t.byt ≤ 2251799813685248 ∧ 0 ≤ t.lin ∧ t.lin ≤ 2251799813685248 := by
  have a := t.fits_bounds h.1
  have b := h.2
  omega
theorem wrapE1 {c : Bool} {l r : Tr} {s o n k : Int} (h : ((Tr.mk (some (c, l, ⟨s, o, n, k⟩, r)))).fine) (i : Nat) : IntKind.i64.wrap (IntKind.i64.wrap (((Tr.mk (some (c, l, ⟨s, o, n, k⟩, r)))).byt - r.byt) + sB (r.list.take i)) = l.byt + n + sB (r.list.take i) := by
  have a := fine_bounds h.left
  have b := fine_bounds h.right
  have p := h.piece
  have q := sB_bounds ((Tr.fine_list r).1 h.right) i
  simp only [Tr.byt, Pc.fit] at *
  rw [show l.byt + n + r.byt - r.byt = l.byt + n from by omega, i64_in (x := l.byt + n) (by omega) (by omega), i64_in (by omega) (by omega)]
theorem wrapE2 {c : Bool} {l r : Tr} {s o n k : Int} (h : ((Tr.mk (some (c, l, ⟨s, o, n, k⟩, r)))).fine) (i : Nat) : IntKind.i64.wrap (IntKind.i64.wrap (((Tr.mk (some (c, l, ⟨s, o, n, k⟩, r)))).lin - r.lin) + sL (r.list.take i)) = l.lin + k + sL (r.list.take i) := by
  have a := fine_bounds h.left
  have b := fine_bounds h.right
  have p := h.piece
  have q := sB_bounds ((Tr.fine_list r).1 h.right) i
  simp only [Tr.lin, Pc.fit] at *
  rw [show l.lin + k + r.lin - r.lin = l.lin + k from by omega, i64_in (x := l.lin + k) (by omega) (by omega), i64_in (by omega) (by omega)]

set_option maxHeartbeats 4000000 in
theorem before_right (c : Bool) (l r : Tr) (s o n k : Int) (i : Nat) (a : Option Addr) (w : World) (hi : Hid (l.size < i)) (hz : Hid (i ≤ 1048576)) (hf : Hid ((Tr.mk (some (c, l, ⟨s, o, n, k⟩, r)))).fine) (h : Hid (At w ((Tr.mk (some (c, l, ⟨s, o, n, k⟩, r)))) a))
    (IH : Hid (∀ a w, At w r a → Calls Tryz.prog 110 #[.pointer a, .int .i64 ((i - l.size - 1 : Nat) : Int)] w fun e w' => e = .returned (.tuple #[.int .i64 (sB (r.list.take (i - l.size - 1))), .int .i64 (sL (r.list.take (i - l.size - 1)))]) ∧ Below w.heap.size w w')) :
    Calls Tryz.prog 110 #[.pointer a, .int .i64 (i : Nat)] w fun e w' => e = .returned (.tuple #[.int .i64 (sB (((Tr.mk (some (c, l, ⟨s, o, n, k⟩, r)))).list.take i)), .int .i64 (sL (((Tr.mk (some (c, l, ⟨s, o, n, k⟩, r)))).list.take i))]) ∧ Below w.heap.size w w' := by
  obtain ⟨b, la, ra, rfl, hn, hl, hr⟩ := h.out
  have HL : Hid (At w l la) := hl
  have HR : Hid (At w r ra) := hr
  have HN : Hid (w.heap[b]? = some (nodeObj c l ⟨s, o, n, k⟩ r la ra)) := hn
  have c10 := (ncells hn).c10
  have c11 := (ncells hn).c11
  have g1 : (l.size : Int) < (i : Int) := by have := hi.out; omega
  have g3 : wrap64 (wrap64 ((i : Int) - (l.size : Int)) - 1) = ((i - l.size - 1 : Nat) : Int) := by
    have h1 := hi.out; have h2 := hz.out
    rw [w64 (x := (i : Int) - (l.size : Int)) (by omega) (by omega), w64 (by omega) (by omega)]; omega
  have e1 : Hid (sB (((Tr.mk (some (c, l, ⟨s, o, n, k⟩, r)))).list.take i) = l.byt + n + sB (r.list.take (i - l.size - 1))) := by
    unfold Hid; rw [take_right hi.out, sB_append, sB_cons, ← byt_list]; show l.byt + (n + _) = _; omega
  have e2 : Hid (sL (((Tr.mk (some (c, l, ⟨s, o, n, k⟩, r)))).list.take i) = l.lin + k + sL (r.list.take (i - l.size - 1))) := by
    unfold Hid; rw [take_right hi.out, sL_append, sL_cons, ← lin_list]; show l.lin + (k + _) = _; omega
  have bB := hf.out.1.1
  have E1 : Hid (IntKind.i64.wrap (IntKind.i64.wrap (((Tr.mk (some (c, l, ⟨s, o, n, k⟩, r)))).byt - r.byt) + sB (r.list.take (i - l.size - 1))) = l.byt + n + sB (r.list.take (i - l.size - 1))) := wrapE1 hf.out _
  have E2 : Hid (IntKind.i64.wrap (IntKind.i64.wrap (((Tr.mk (some (c, l, ⟨s, o, n, k⟩, r)))).lin - r.lin) + sL (r.list.take (i - l.size - 1))) = l.lin + k + sL (r.list.take (i - l.size - 1))) := wrapE2 hf.out _
  clear hn hl hr h bB
  generalize HX : sB (r.list.take (i - l.size - 1)) = X at *
  generalize HY : sL (r.list.take (i - l.size - 1)) = Y at *
  go_enter Tryz.func110, Tryz.ntmps110
  go_wp2_with (first | (go_at_call 86; refine (pieces_any l _ _ HL).mono ?_; rintro e w' ⟨rfl, rfl⟩)
                     | (go_at_call 110; refine (IH.out ra _ HR.out).mono ?_; rintro e w9 ⟨rfl, hb9⟩))
  have HR9 : Hid (At w9 r ra) := HR.out.keep hb9
  have q := ncells (nkeep HN.out hb9)
  have d8 := q.c8
  have d9 := q.c9
  have d11 := q.c11
  clear q HL HR HN c10 c11 IH g1
  go_region_held3 (fun w' => w'.cell? ⟨b, 8, none⟩ = some (.int .i64 ((Tr.mk (some (c, l, ⟨s, o, n, k⟩, r)))).byt) ∧ w'.cell? ⟨b, 9, none⟩ = some (.int .i64 ((Tr.mk (some (c, l, ⟨s, o, n, k⟩, r)))).lin) ∧ w'.cell? ⟨b, 11, none⟩ = some (.pointer ra)) (first | assumption | simp [*, go_sem])
    (first | (go_at_call 106; refine (bytes_any r ra _ HR9.out.drew).mono ?_; rintro e w' ⟨rfl, rfl⟩)
           | (go_at_call 108; refine (lines_any r ra _ HR9.out.drew).mono ?_; rintro e w' ⟨rfl, rfl⟩))
  go_wp2
  go_ret2
  exact ⟨ret2 (E1.out.trans e1.out.symm) (E2.out.trans e2.out.symm), hb9.drew⟩

set_option maxHeartbeats 1000000 in
theorem before_left (c : Bool) (l r : Tr) (s o n k : Int) (i : Nat) (a : Option Addr) (w : World) (hi : Hid (i ≤ l.size)) (h : Hid (At w ((Tr.mk (some (c, l, ⟨s, o, n, k⟩, r)))) a))
    (IH : Hid (∀ a w, At w l a → Calls Tryz.prog 110 #[.pointer a, .int .i64 (i : Nat)] w fun e w' => e = .returned (.tuple #[.int .i64 (sB (l.list.take i)), .int .i64 (sL (l.list.take i))]) ∧ Below w.heap.size w w')) :
    Calls Tryz.prog 110 #[.pointer a, .int .i64 (i : Nat)] w fun e w' => e = .returned (.tuple #[.int .i64 (sB (l.list.take i)), .int .i64 (sL (l.list.take i))]) ∧ Below w.heap.size w w' := by
  obtain ⟨b, la, ra, rfl, hn, hl, hr⟩ := h.out
  have HL : Hid (At w l la) := hl
  have c10 := (ncells hn).c10
  have g1 : (i : Int) ≤ (l.size : Int) := by have := hi.out; omega
  clear hn hl hr h
  generalize HX : sB (l.list.take i) = X at *
  generalize HY : sL (l.list.take i) = Y at *
  go_enter Tryz.func110, Tryz.ntmps110
  go_wp2_with (first | (go_at_call 86; refine (pieces_any l _ _ HL).mono ?_; rintro e w' ⟨rfl, rfl⟩)
                     | (go_at_call 110; refine (IH.out la _ HL.out).mono ?_; rintro e w9 ⟨rfl, hb9⟩))
  go_ret2
  exact ⟨rfl, hb9⟩

theorem before_any : ∀ (t : Tr) (i : Nat) (a : Option Addr) (w : World), i ≤ t.size → t.fine → At w t a →
    Calls Tryz.prog 110 #[.pointer a, .int .i64 (i : Nat)] w fun e w' => e = .returned (.tuple #[.int .i64 (sB (t.list.take i)), .int .i64 (sL (t.list.take i))]) ∧ Below w.heap.size w w'
  | (Tr.mk none), i, a, w, _, _, h => by
    have e : a = none := h
    subst e
    refine (before_nil i w).mono ?_
    rintro e w' ⟨rfl, rfl⟩
    exact ⟨by simp [Tr.list, sB, sL], Below.refl _ _⟩
  | (Tr.mk (some (c, l, ⟨s, o, n, k⟩, r))), i, a, w, hi, hf, h => by
    have z := hf.2
    simp only [Tr.size] at hi z
    by_cases hc : i ≤ l.size
    · rw [take_left hc]
      exact before_left c l r s o n k i a w hc h (fun a w h => before_any l i a w hc hf.left h)
    · exact before_right c l r s o n k i a w (by unfold Hid; omega) (by unfold Hid; omega) hf h (fun a w h => before_any r (i - l.size - 1) a w (by omega) hf.right h)

set_option maxHeartbeats 1000000 in
theorem Before_yes (t : Tr) (a : Option Addr) (i : Nat) (w : World) (hi : i ≤ t.size) (hf : Hid t.fine) (h : Hid (At w t a)) :
    Calls Tryz.prog 63 #[.agg #[.pointer a], .int .i64 (i : Nat)] w fun e w' => e = .returned (.tuple #[.int .i64 (sB (t.list.take i)), .int .i64 (sL (t.list.take i)), .int .i64 0]) ∧ Below w.heap.size w w' := by
  have hd : decide (0 ≤ (i : Int) ∧ (i : Int) ≤ (t.size : Int)) = true := by simp; omega
  go_enter Tryz.func63, Tryz.ntmps63
  go_wp2_with (first | (go_at_call 109; refine (hasGap_any t _ _ _ (h.out.alloc _)).mono ?_; rw [hd]; rintro e w9 ⟨rfl, hb9⟩; obtain ⟨c9, f9⟩ := bcell hb9)
                     | (go_at_call 110; refine (before_any t i _ _ hi hf.out ((h.out.alloc _).keep hb9)).mono ?_; rintro e w8 ⟨rfl, hb8⟩))
  go_ret3
  exact ⟨rfl, (bA hb9).trans (hb8.mono (bA hb9).size)⟩
set_option maxHeartbeats 1000000 in
theorem Before_no (t : Tr) (a : Option Addr) (i : Int) (w : World) (hd : decide (0 ≤ i ∧ i ≤ (t.size : Int)) = false) (h : Hid (At w t a)) :
    Calls Tryz.prog 63 #[.agg #[.pointer a], .int .i64 i] w fun e w' => e = .returned (.tuple #[.int .i64 0, .int .i64 0, .int .i64 20]) ∧ Below w.heap.size w w' := by
  go_enter Tryz.func63, Tryz.ntmps63
  go_wp2_with (first | (go_at_call 109; refine (hasGap_any t _ _ _ (h.out.alloc _)).mono ?_; rw [hd]; rintro e w9 ⟨rfl, hb9⟩; obtain ⟨c9, f9⟩ := bcell hb9))
  go_ret3
  exact ⟨rfl, bA hb9⟩
end Go.Proofs.YtmhpeppbhjpkiaaGreat

/- The contracts of find and Find, over bytes. -/
namespace Go.Proofs.YtmhpeppbhjpkiaaGreat
open Go.RowKit

/-- the answer of a search: a place and what is inside it -/
def Hit52 (L : List Pc) (m : Int) (j : Nat) (inside : Int) : Prop := ∃ p, L[j]? = some p ∧ 0 ≤ inside ∧ inside < p.l ∧ m = sB (L.take j) + inside

theorem hit_left52 {c : Bool} {l r : Tr} {p : Pc} {m : Int} {j : Nat} {x : Int} (h : Hit52 l.list m j x) : Hit52 ((Tr.mk (some (c, l, p, r)))).list m j x := by
  obtain ⟨q, h1, h2, h3, h4⟩ := h
  have hj := (List.getElem?_eq_some_iff.1 h1).1
  rw [Tr.size_list] at hj
  exact ⟨q, by rw [list_left hj]; exact h1, h2, h3, by rw [take_left (by omega)]; exact h4⟩
theorem hit_here52 {c : Bool} {l r : Tr} {p : Pc} {m : Int} (h1 : l.byt ≤ m) (h2 : m < l.byt + p.l) : Hit52 ((Tr.mk (some (c, l, p, r)))).list m l.size (m - l.byt) := by
  refine ⟨p, list_here rfl, by omega, by omega, ?_⟩
  rw [take_left (Nat.le_refl _), List.take_of_length_le (by rw [Tr.size_list]; exact Nat.le_refl _), ← byt_list]; omega
theorem hit_right52 {c : Bool} {l r : Tr} {p : Pc} {m : Int} {j : Nat} {x : Int} (h : Hit52 r.list (m - (l.byt + p.l)) j x) : Hit52 ((Tr.mk (some (c, l, p, r)))).list m (l.size + 1 + j) x := by
  obtain ⟨q, h1, h2, h3, h4⟩ := h
  refine ⟨q, ?_, h2, h3, ?_⟩
  · rw [list_right (by omega), show l.size + 1 + j - l.size - 1 = j from by omega]; exact h1
  · rw [take_right (by omega), show l.size + 1 + j - l.size - 1 = j from by omega, sB_append, sB_cons, ← byt_list]; omega
theorem hit_lt52 {L : List Pc} {m : Int} {j : Nat} {x : Int} (h : Hit52 L m j x) : j < L.length := by
  obtain ⟨q, h1, -⟩ := h
  exact (List.getElem?_eq_some_iff.1 h1).1

set_option maxHeartbeats 4000000 in
theorem find52_node (c : Bool) (l : Tr) (s o n k : Int) (r : Tr) (a : Option Addr) (m : Int) (w : World) (h1 : 0 ≤ m) (h2 : m < ((Tr.mk (some (c, l, ⟨s, o, n, k⟩, r)))).byt) (hf : ((Tr.mk (some (c, l, ⟨s, o, n, k⟩, r)))).fine) (h : At w ((Tr.mk (some (c, l, ⟨s, o, n, k⟩, r)))) a)
    (IHL : Hid (∀ (a : Option Addr) (m : Int) (w : World), 0 ≤ m → m < l.byt → l.fine → At w l a → Calls Tryz.prog 126 #[.pointer a, .int .i64 m, .func (.func 106) #[] #[]] w fun e w' => ∃ (j : Nat) (x : Int), e = .returned (.tuple #[.int .i64 j, .int .i64 x]) ∧ Hit52 l.list m j x ∧ Below w.heap.size w w'))
    (IHR : Hid (∀ (a : Option Addr) (m : Int) (w : World), 0 ≤ m → m < r.byt → r.fine → At w r a → Calls Tryz.prog 126 #[.pointer a, .int .i64 m, .func (.func 106) #[] #[]] w fun e w' => ∃ (j : Nat) (x : Int), e = .returned (.tuple #[.int .i64 j, .int .i64 x]) ∧ Hit52 r.list m j x ∧ Below w.heap.size w w')) :
    Calls Tryz.prog 126 #[.pointer a, .int .i64 m, .func (.func 106) #[] #[]] w fun e w' => ∃ (j : Nat) (x : Int), e = .returned (.tuple #[.int .i64 j, .int .i64 x]) ∧ Hit52 ((Tr.mk (some (c, l, ⟨s, o, n, k⟩, r)))).list m j x ∧ Below w.heap.size w w' := by
  have HA : Hid (At w ((Tr.mk (some (c, l, ⟨s, o, n, k⟩, r)))) a) := h
  obtain ⟨b, la, ra, rfl, hn, hl, hr⟩ := id h
  have HL : Hid (At w l la) := hl
  have HR : Hid (At w r ra) := hr
  have c10 := (ncells hn).c10
  have c11 := (ncells hn).c11
  have FL := hf.left
  have FR := hf.right
  have bl := fine_bounds FL
  have br := fine_bounds FR
  have bp := hf.piece
  have bz := hf.2
  have HM : Hid (0 ≤ m ∧ m < l.byt + n + r.byt) := ⟨h1, h2⟩
  have e0 : ((Tr.mk (some (c, l, ⟨s, o, n, k⟩, r)))).byt = l.byt + n + r.byt := rfl
  have HF : Hid (l.fine ∧ r.fine) := ⟨FL, FR⟩
  simp only [Tr.size, Pc.fit] at bz bp
  have HZ : Hid (l.size + 1 + r.size ≤ 1048576) := bz
  clear h h1 h2 hf hn hl hr FL FR
  have HBD : Hid (0 ≤ l.byt ∧ l.byt ≤ 2251799813685248 ∧ 0 ≤ r.byt ∧ r.byt ≤ 2251799813685248 ∧ 0 ≤ n ∧ n ≤ 2147483647) := by unfold Hid; omega
  clear bl br bp bz
  by_cases g : m < l.byt
  · go_enter Tryz.func126, Tryz.ntmps126
    go_wp2_with (first | (go_at_call 106; refine (bytes_any l _ _ HL).mono ?_; rintro e w' ⟨rfl, rfl⟩)
                       | (go_at_call 126; refine (IHL.out la m _ HM.out.1 g HF.out.1 HL.out).mono ?_; rintro e w9 ⟨j, x, rfl, hh, hb9⟩))
    go_ret2
    exact ⟨j, x, rfl, hit_left52 hh, hb9⟩
  · have w1 : IntKind.i64.wrap (l.byt + n) = l.byt + n := by
      have := HBD.out; exact i64_in (by omega) (by omega)
    go_enter Tryz.func126, Tryz.ntmps126
    go_wp2_with (first | (go_at_call 106; refine (bytes_any l _ _ HL).mono ?_; rintro e w' ⟨rfl, rfl⟩))
    go_region_held3 (fun w' => w'.cell? ⟨b, 11, none⟩ = some (.pointer ra)) (first | assumption | simp [*, go_sem])
      (first | (go_at_call_of 106 (Value.pointer ra); refine (bytes_any r _ _ HR.out.drew).mono ?_; rintro e w' ⟨rfl, rfl⟩)
             | (go_at_call 106; refine (bytes_any _ _ _ HA.out.drew).mono ?_; rintro e w' ⟨rfl, rfl⟩; rw [e0]))
    (try rw [w1])
    by_cases g2 : m < l.byt + n
    · have w2 : wrap64 (m - l.byt) = m - l.byt := by have := HBD.out; have := HM.out; exact w64 (by omega) (by omega)
      go_wp2_with (first | (go_at_call 86; refine (pieces_any l _ _ HL.out.drew).mono ?_; rintro e w' ⟨rfl, rfl⟩))
      go_ret2
      exact ⟨l.size, m - l.byt, ret2 rfl w2, hit_here52 (by omega) g2, (Below.refl _ _).drew⟩
    · have w3 : wrap64 (m - (l.byt + n)) = m - (l.byt + n) := by have := HBD.out; have := HM.out; exact w64 (by omega) (by omega)
      go_wp2_with (first | (go_at_call 126; refine (IHR.out ra (m - (l.byt + n)) _ (by omega) (by have := HM.out; omega) HF.out.2 HR.out.drew).mono ?_; rintro e w9 ⟨j, x, rfl, hh, hb9⟩; have hjl := hit_lt52 hh; rw [Tr.size_list] at hjl; have HLT : Hid (j < r.size) := hjl; have cA : w9.cell? ⟨b, 10, none⟩ = some (.pointer la) := ((bD hb9).cell (p := ⟨b, 10, none⟩) (cell_lt c10)).trans c10; have HL9 : Hid (At w9 l la) := HL.out.keep (bD hb9))
                         | (go_at_call 86; refine (pieces_any l _ _ HL9).mono ?_; rintro e w' ⟨rfl, rfl⟩))
      go_ret2
      refine ⟨l.size + 1 + j, x, ret2 ?_ rfl, hit_right52 hh, bD hb9⟩
      have := HZ.out; have := HLT.out
      first | omega | (rw [w64 (x := (l.size : Int) + 1) (by omega) (by omega), w64 (by omega) (by omega)]; omega)

theorem find52_any : ∀ (t : Tr) (a : Option Addr) (m : Int) (w : World), 0 ≤ m → m < t.byt → t.fine → At w t a →
    Calls Tryz.prog 126 #[.pointer a, .int .i64 m, .func (.func 106) #[] #[]] w fun e w' => ∃ (j : Nat) (x : Int), e = .returned (.tuple #[.int .i64 j, .int .i64 x]) ∧ Hit52 t.list m j x ∧ Below w.heap.size w w'
  | (Tr.mk none), a, m, w, h1, h2, hf, h => absurd h2 (by simp only [Tr.byt]; omega)
  | (Tr.mk (some (c, l, ⟨s, o, n, k⟩, r))), a, m, w, h1, h2, hf, h => find52_node c l s o n k r a m w h1 h2 hf h (find52_any l) (find52_any r)

set_option maxHeartbeats 1000000 in
theorem tfind52_yes (t : Tr) (a : Option Addr) (m : Int) (w : World) (h0 : 0 ≤ m) (h1 : m < t.byt) (hf : Hid t.fine) (h : Hid (At w t a)) :
    Calls Tryz.prog 105 #[.agg #[.pointer a], .int .i64 m, .func (.func 106) #[] #[]] w fun e w' => ∃ (j : Nat) (x : Int), e = .returned (.tuple #[.int .i64 j, .int .i64 x, .bool true]) ∧ Hit52 t.list m j x ∧ Below w.heap.size w w' := by
  go_enter Tryz.func105, Tryz.ntmps105
  go_wp2_with (first | (go_at_call 106; refine (bytes_any t _ _ (h.out.alloc _)).mono ?_; rintro e w' ⟨rfl, rfl⟩)
                     | (go_at_call 126; refine (find52_any t a m _ h0 h1 hf.out (h.out.alloc _)).mono ?_; rintro e w9 ⟨j, x, rfl, hh, hb9⟩))
  go_ret3
  exact ⟨j, x, rfl, hh, bA hb9⟩
set_option maxHeartbeats 1000000 in
theorem tfind52_low (_t : Tr) (a : Option Addr) (m : Int) (w : World) (h0 : m < 0) :
    Calls Tryz.prog 105 #[.agg #[.pointer a], .int .i64 m, .func (.func 106) #[] #[]] w fun e w' => e = .returned (.tuple #[.int .i64 0, .int .i64 0, .bool false]) ∧ Below w.heap.size w w' := by
  go_enter Tryz.func105, Tryz.ntmps105
  go_wp2_with fail
  go_ret3
  exact ⟨rfl, bAlloc (Below.refl _ _) _⟩
set_option maxHeartbeats 1000000 in
theorem tfind52_high (t : Tr) (a : Option Addr) (m : Int) (w : World) (h0 : 0 ≤ m) (h1 : t.byt ≤ m) (h : Hid (At w t a)) :
    Calls Tryz.prog 105 #[.agg #[.pointer a], .int .i64 m, .func (.func 106) #[] #[]] w fun e w' => e = .returned (.tuple #[.int .i64 0, .int .i64 0, .bool false]) ∧ Below w.heap.size w w' := by
  go_enter Tryz.func105, Tryz.ntmps105
  go_wp2_with (first | (go_at_call 106; refine (bytes_any t _ _ (h.out.alloc _)).mono ?_; rintro e w' ⟨rfl, rfl⟩))
  go_ret3
  exact ⟨rfl, bAlloc (Below.refl _ _) _⟩

set_option maxHeartbeats 1000000 in
theorem Find52_yes (t : Tr) (a : Option Addr) (m : Int) (w : World) (h0 : 0 ≤ m) (h1 : m < t.byt) (hf : Hid t.fine) (h : Hid (At w t a)) :
    Calls Tryz.prog 59 #[.agg #[.pointer a], .int .i64 m] w fun e w' => ∃ (j : Nat) (x : Int), e = .returned (.tuple #[.int .i64 j, .int .i64 x, .bool true]) ∧ Hit52 t.list m j x ∧ Below w.heap.size w w' := by
  go_enter Tryz.func59, Tryz.ntmps59
  go_wp2_with (go_at_call 105; refine (tfind52_yes t a m _ h0 h1 hf (h.out.alloc _)).mono ?_; rintro e w9 ⟨j, x, rfl, hh, hb9⟩)
  go_ret3
  exact ⟨j, x, rfl, hh, bA hb9⟩
set_option maxHeartbeats 1000000 in
theorem Find52_no (t : Tr) (a : Option Addr) (m : Int) (w : World) (h0 : m < 0 ∨ t.byt ≤ m) (h : Hid (At w t a)) :
    Calls Tryz.prog 59 #[.agg #[.pointer a], .int .i64 m] w fun e w' => e = .returned (.tuple #[.int .i64 0, .int .i64 0, .bool false]) ∧ Below w.heap.size w w' := by
  have HC : Hid (∀ w, At w t a → Calls Tryz.prog 105 #[.agg #[.pointer a], .int .i64 m, .func (.func 106) #[] #[]] w fun e w' => e = .returned (.tuple #[.int .i64 0, .int .i64 0, .bool false]) ∧ Below w.heap.size w w') := fun w h => by
    by_cases g : m < 0
    · exact tfind52_low t a m w g
    · exact tfind52_high t a m w (by omega) (by omega) h
  clear h0
  go_enter Tryz.func59, Tryz.ntmps59
  go_wp2_with (go_at_call 105; refine (HC.out _ (h.out.alloc _)).mono ?_; rintro e w9 ⟨rfl, hb9⟩)
  go_ret3
  exact ⟨rfl, bA hb9⟩
end Go.Proofs.YtmhpeppbhjpkiaaGreat

/- The contracts of find and FindLine, over line ends. -/
namespace Go.Proofs.YtmhpeppbhjpkiaaGreat
open Go.RowKit

/-- the answer of a search: a place and what is inside it -/
def Hit53 (L : List Pc) (m : Int) (j : Nat) (inside : Int) : Prop := ∃ p, L[j]? = some p ∧ 0 ≤ inside ∧ inside < p.n ∧ m = sL (L.take j) + inside

theorem hit_left53 {c : Bool} {l r : Tr} {p : Pc} {m : Int} {j : Nat} {x : Int} (h : Hit53 l.list m j x) : Hit53 ((Tr.mk (some (c, l, p, r)))).list m j x := by
  obtain ⟨q, h1, h2, h3, h4⟩ := h
  have hj := (List.getElem?_eq_some_iff.1 h1).1
  rw [Tr.size_list] at hj
  exact ⟨q, by rw [list_left hj]; exact h1, h2, h3, by rw [take_left (by omega)]; exact h4⟩
theorem hit_here53 {c : Bool} {l r : Tr} {p : Pc} {m : Int} (h1 : l.lin ≤ m) (h2 : m < l.lin + p.n) : Hit53 ((Tr.mk (some (c, l, p, r)))).list m l.size (m - l.lin) := by
  refine ⟨p, list_here rfl, by omega, by omega, ?_⟩
  rw [take_left (Nat.le_refl _), List.take_of_length_le (by rw [Tr.size_list]; exact Nat.le_refl _), ← lin_list]; omega
theorem hit_right53 {c : Bool} {l r : Tr} {p : Pc} {m : Int} {j : Nat} {x : Int} (h : Hit53 r.list (m - (l.lin + p.n)) j x) : Hit53 ((Tr.mk (some (c, l, p, r)))).list m (l.size + 1 + j) x := by
  obtain ⟨q, h1, h2, h3, h4⟩ := h
  refine ⟨q, ?_, h2, h3, ?_⟩
  · rw [list_right (by omega), show l.size + 1 + j - l.size - 1 = j from by omega]; exact h1
  · rw [take_right (by omega), show l.size + 1 + j - l.size - 1 = j from by omega, sL_append, sL_cons, ← lin_list]; omega
theorem hit_lt53 {L : List Pc} {m : Int} {j : Nat} {x : Int} (h : Hit53 L m j x) : j < L.length := by
  obtain ⟨q, h1, -⟩ := h
  exact (List.getElem?_eq_some_iff.1 h1).1

set_option maxHeartbeats 4000000 in
theorem find53_node (c : Bool) (l : Tr) (s o n k : Int) (r : Tr) (a : Option Addr) (m : Int) (w : World) (h1 : 0 ≤ m) (h2 : m < ((Tr.mk (some (c, l, ⟨s, o, n, k⟩, r)))).lin) (hf : ((Tr.mk (some (c, l, ⟨s, o, n, k⟩, r)))).fine) (h : At w ((Tr.mk (some (c, l, ⟨s, o, n, k⟩, r)))) a)
    (IHL : Hid (∀ (a : Option Addr) (m : Int) (w : World), 0 ≤ m → m < l.lin → l.fine → At w l a → Calls Tryz.prog 126 #[.pointer a, .int .i64 m, .func (.func 108) #[] #[]] w fun e w' => ∃ (j : Nat) (x : Int), e = .returned (.tuple #[.int .i64 j, .int .i64 x]) ∧ Hit53 l.list m j x ∧ Below w.heap.size w w'))
    (IHR : Hid (∀ (a : Option Addr) (m : Int) (w : World), 0 ≤ m → m < r.lin → r.fine → At w r a → Calls Tryz.prog 126 #[.pointer a, .int .i64 m, .func (.func 108) #[] #[]] w fun e w' => ∃ (j : Nat) (x : Int), e = .returned (.tuple #[.int .i64 j, .int .i64 x]) ∧ Hit53 r.list m j x ∧ Below w.heap.size w w')) :
    Calls Tryz.prog 126 #[.pointer a, .int .i64 m, .func (.func 108) #[] #[]] w fun e w' => ∃ (j : Nat) (x : Int), e = .returned (.tuple #[.int .i64 j, .int .i64 x]) ∧ Hit53 ((Tr.mk (some (c, l, ⟨s, o, n, k⟩, r)))).list m j x ∧ Below w.heap.size w w' := by
  have HA : Hid (At w ((Tr.mk (some (c, l, ⟨s, o, n, k⟩, r)))) a) := h
  obtain ⟨b, la, ra, rfl, hn, hl, hr⟩ := id h
  have HL : Hid (At w l la) := hl
  have HR : Hid (At w r ra) := hr
  have c10 := (ncells hn).c10
  have c11 := (ncells hn).c11
  have FL := hf.left
  have FR := hf.right
  have bl := fine_bounds FL
  have br := fine_bounds FR
  have bp := hf.piece
  have bz := hf.2
  have HM : Hid (0 ≤ m ∧ m < l.lin + k + r.lin) := ⟨h1, h2⟩
  have e0 : ((Tr.mk (some (c, l, ⟨s, o, n, k⟩, r)))).lin = l.lin + k + r.lin := rfl
  have HF : Hid (l.fine ∧ r.fine) := ⟨FL, FR⟩
  simp only [Tr.size, Pc.fit] at bz bp
  have HZ : Hid (l.size + 1 + r.size ≤ 1048576) := bz
  clear h h1 h2 hf hn hl hr FL FR
  have HBD : Hid (0 ≤ l.lin ∧ l.lin ≤ 2251799813685248 ∧ 0 ≤ r.lin ∧ r.lin ≤ 2251799813685248 ∧ 0 ≤ k ∧ k ≤ 2147483647) := by unfold Hid; omega
  clear bl br bp bz
  by_cases g : m < l.lin
  · go_enter Tryz.func126, Tryz.ntmps126
    go_wp2_with (first | (go_at_call 108; refine (lines_any l _ _ HL).mono ?_; rintro e w' ⟨rfl, rfl⟩)
                       | (go_at_call 126; refine (IHL.out la m _ HM.out.1 g HF.out.1 HL.out).mono ?_; rintro e w9 ⟨j, x, rfl, hh, hb9⟩))
    go_ret2
    exact ⟨j, x, rfl, hit_left53 hh, hb9⟩
  · have w1 : IntKind.i64.wrap (l.lin + k) = l.lin + k := by
      have := HBD.out; exact i64_in (by omega) (by omega)
    go_enter Tryz.func126, Tryz.ntmps126
    go_wp2_with (first | (go_at_call 108; refine (lines_any l _ _ HL).mono ?_; rintro e w' ⟨rfl, rfl⟩))
    go_region_held3 (fun w' => w'.cell? ⟨b, 11, none⟩ = some (.pointer ra)) (first | assumption | simp [*, go_sem])
      (first | (go_at_call_of 108 (Value.pointer ra); refine (lines_any r _ _ HR.out.drew).mono ?_; rintro e w' ⟨rfl, rfl⟩)
             | (go_at_call 108; refine (lines_any _ _ _ HA.out.drew).mono ?_; rintro e w' ⟨rfl, rfl⟩; rw [e0]))
    (try rw [w1])
    by_cases g2 : m < l.lin + k
    · have w2 : wrap64 (m - l.lin) = m - l.lin := by have := HBD.out; have := HM.out; exact w64 (by omega) (by omega)
      go_wp2_with (first | (go_at_call 86; refine (pieces_any l _ _ HL.out.drew).mono ?_; rintro e w' ⟨rfl, rfl⟩))
      go_ret2
      exact ⟨l.size, m - l.lin, ret2 rfl w2, hit_here53 (by omega) g2, (Below.refl _ _).drew⟩
    · have w3 : wrap64 (m - (l.lin + k)) = m - (l.lin + k) := by have := HBD.out; have := HM.out; exact w64 (by omega) (by omega)
      go_wp2_with (first | (go_at_call 126; refine (IHR.out ra (m - (l.lin + k)) _ (by omega) (by have := HM.out; omega) HF.out.2 HR.out.drew).mono ?_; rintro e w9 ⟨j, x, rfl, hh, hb9⟩; have hjl := hit_lt53 hh; rw [Tr.size_list] at hjl; have HLT : Hid (j < r.size) := hjl; have cA : w9.cell? ⟨b, 10, none⟩ = some (.pointer la) := ((bD hb9).cell (p := ⟨b, 10, none⟩) (cell_lt c10)).trans c10; have HL9 : Hid (At w9 l la) := HL.out.keep (bD hb9))
                         | (go_at_call 86; refine (pieces_any l _ _ HL9).mono ?_; rintro e w' ⟨rfl, rfl⟩))
      go_ret2
      refine ⟨l.size + 1 + j, x, ret2 ?_ rfl, hit_right53 hh, bD hb9⟩
      have := HZ.out; have := HLT.out
      first | omega | (rw [w64 (x := (l.size : Int) + 1) (by omega) (by omega), w64 (by omega) (by omega)]; omega)

theorem find53_any : ∀ (t : Tr) (a : Option Addr) (m : Int) (w : World), 0 ≤ m → m < t.lin → t.fine → At w t a →
    Calls Tryz.prog 126 #[.pointer a, .int .i64 m, .func (.func 108) #[] #[]] w fun e w' => ∃ (j : Nat) (x : Int), e = .returned (.tuple #[.int .i64 j, .int .i64 x]) ∧ Hit53 t.list m j x ∧ Below w.heap.size w w'
  | (Tr.mk none), a, m, w, h1, h2, hf, h => absurd h2 (by simp only [Tr.lin]; omega)
  | (Tr.mk (some (c, l, ⟨s, o, n, k⟩, r))), a, m, w, h1, h2, hf, h => find53_node c l s o n k r a m w h1 h2 hf h (find53_any l) (find53_any r)

set_option maxHeartbeats 1000000 in
theorem tfind53_yes (t : Tr) (a : Option Addr) (m : Int) (w : World) (h0 : 0 ≤ m) (h1 : m < t.lin) (hf : Hid t.fine) (h : Hid (At w t a)) :
    Calls Tryz.prog 105 #[.agg #[.pointer a], .int .i64 m, .func (.func 108) #[] #[]] w fun e w' => ∃ (j : Nat) (x : Int), e = .returned (.tuple #[.int .i64 j, .int .i64 x, .bool true]) ∧ Hit53 t.list m j x ∧ Below w.heap.size w w' := by
  go_enter Tryz.func105, Tryz.ntmps105
  go_wp2_with (first | (go_at_call 108; refine (lines_any t _ _ (h.out.alloc _)).mono ?_; rintro e w' ⟨rfl, rfl⟩)
                     | (go_at_call 126; refine (find53_any t a m _ h0 h1 hf.out (h.out.alloc _)).mono ?_; rintro e w9 ⟨j, x, rfl, hh, hb9⟩))
  go_ret3
  exact ⟨j, x, rfl, hh, bA hb9⟩
set_option maxHeartbeats 1000000 in
theorem tfind53_low (_t : Tr) (a : Option Addr) (m : Int) (w : World) (h0 : m < 0) :
    Calls Tryz.prog 105 #[.agg #[.pointer a], .int .i64 m, .func (.func 108) #[] #[]] w fun e w' => e = .returned (.tuple #[.int .i64 0, .int .i64 0, .bool false]) ∧ Below w.heap.size w w' := by
  go_enter Tryz.func105, Tryz.ntmps105
  go_wp2_with fail
  go_ret3
  exact ⟨rfl, bAlloc (Below.refl _ _) _⟩
set_option maxHeartbeats 1000000 in
theorem tfind53_high (t : Tr) (a : Option Addr) (m : Int) (w : World) (h0 : 0 ≤ m) (h1 : t.lin ≤ m) (h : Hid (At w t a)) :
    Calls Tryz.prog 105 #[.agg #[.pointer a], .int .i64 m, .func (.func 108) #[] #[]] w fun e w' => e = .returned (.tuple #[.int .i64 0, .int .i64 0, .bool false]) ∧ Below w.heap.size w w' := by
  go_enter Tryz.func105, Tryz.ntmps105
  go_wp2_with (first | (go_at_call 108; refine (lines_any t _ _ (h.out.alloc _)).mono ?_; rintro e w' ⟨rfl, rfl⟩))
  go_ret3
  exact ⟨rfl, bAlloc (Below.refl _ _) _⟩

set_option maxHeartbeats 1000000 in
theorem Find53_yes (t : Tr) (a : Option Addr) (m : Int) (w : World) (h0 : 0 ≤ m) (h1 : m < t.lin) (hf : Hid t.fine) (h : Hid (At w t a)) :
    Calls Tryz.prog 62 #[.agg #[.pointer a], .int .i64 m] w fun e w' => ∃ (j : Nat) (x : Int), e = .returned (.tuple #[.int .i64 j, .int .i64 x, .bool true]) ∧ Hit53 t.list m j x ∧ Below w.heap.size w w' := by
  go_enter Tryz.func62, Tryz.ntmps62
  go_wp2_with (go_at_call 105; refine (tfind53_yes t a m _ h0 h1 hf (h.out.alloc _)).mono ?_; rintro e w9 ⟨j, x, rfl, hh, hb9⟩)
  go_ret3
  exact ⟨j, x, rfl, hh, bA hb9⟩
set_option maxHeartbeats 1000000 in
theorem Find53_no (t : Tr) (a : Option Addr) (m : Int) (w : World) (h0 : m < 0 ∨ t.lin ≤ m) (h : Hid (At w t a)) :
    Calls Tryz.prog 62 #[.agg #[.pointer a], .int .i64 m] w fun e w' => e = .returned (.tuple #[.int .i64 0, .int .i64 0, .bool false]) ∧ Below w.heap.size w w' := by
  have HC : Hid (∀ w, At w t a → Calls Tryz.prog 105 #[.agg #[.pointer a], .int .i64 m, .func (.func 108) #[] #[]] w fun e w' => e = .returned (.tuple #[.int .i64 0, .int .i64 0, .bool false]) ∧ Below w.heap.size w w') := fun w h => by
    by_cases g : m < 0
    · exact tfind53_low t a m w g
    · exact tfind53_high t a m w (by omega) (by omega) h
  clear h0
  go_enter Tryz.func62, Tryz.ntmps62
  go_wp2_with (go_at_call 105; refine (HC.out _ (h.out.alloc _)).mono ?_; rintro e w9 ⟨rfl, hb9⟩)
  go_ret3
  exact ⟨rfl, bA hb9⟩
end Go.Proofs.YtmhpeppbhjpkiaaGreat

