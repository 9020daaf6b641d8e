/- The contracts of find and FindLine, over line ends. -/
import Derived.Test.YtpifjghhlcjedaaFind
namespace Go.Proofs.Ytpifjghhlcjedaa
open Go.RowKit

/-- the answer of a search: a place and what is inside it -/
def Hit53 (L : List Pc) (m : Int) (j : Nat) (inside : Int) : Prop := ∃ p, L[j]? = some p ∧ 0 ≤ inside ∧ inside < p.n ∧ m = sL (L.take j) + inside

theorem hit_left53 {c : Bool} {l r : Tr} {p : Pc} {m : Int} {j : Nat} {x : Int} (h : Hit53 l.list m j x) : Hit53 ((Tr.mk (some (c, l, p, r)))).list m j x := by
  obtain ⟨q, h1, h2, h3, h4⟩ := h
  have hj := (List.getElem?_eq_some_iff.1 h1).1
  rw [Tr.size_list] at hj
  exact ⟨q, by rw [list_left hj]; exact h1, h2, h3, by rw [take_left (by omega)]; exact h4⟩
theorem hit_here53 {c : Bool} {l r : Tr} {p : Pc} {m : Int} (h1 : l.lin ≤ m) (h2 : m < l.lin + p.n) : Hit53 ((Tr.mk (some (c, l, p, r)))).list m l.size (m - l.lin) := by
  refine ⟨p, list_here rfl, by omega, by omega, ?_⟩
  rw [take_left (Nat.le_refl _), List.take_of_length_le (by rw [Tr.size_list]; exact Nat.le_refl _), ← lin_list]; omega
theorem hit_right53 {c : Bool} {l r : Tr} {p : Pc} {m : Int} {j : Nat} {x : Int} (h : Hit53 r.list (m - (l.lin + p.n)) j x) : Hit53 ((Tr.mk (some (c, l, p, r)))).list m (l.size + 1 + j) x := by
  obtain ⟨q, h1, h2, h3, h4⟩ := h
  refine ⟨q, ?_, h2, h3, ?_⟩
  · rw [list_right (by omega), show l.size + 1 + j - l.size - 1 = j from by omega]; exact h1
  · rw [take_right (by omega), show l.size + 1 + j - l.size - 1 = j from by omega, sL_append, sL_cons, ← lin_list]; omega
theorem hit_lt53 {L : List Pc} {m : Int} {j : Nat} {x : Int} (h : Hit53 L m j x) : j < L.length := by
  obtain ⟨q, h1, -⟩ := h
  exact (List.getElem?_eq_some_iff.1 h1).1

set_option maxHeartbeats 4000000 in
theorem find53_node (c : Bool) (l : Tr) (s o n k : Int) (r : Tr) (a : Option Addr) (m : Int) (w : World) (h1 : 0 ≤ m) (h2 : m < ((Tr.mk (some (c, l, ⟨s, o, n, k⟩, r)))).lin) (hf : ((Tr.mk (some (c, l, ⟨s, o, n, k⟩, r)))).fine) (h : At w ((Tr.mk (some (c, l, ⟨s, o, n, k⟩, r)))) a)
    (IHL : Hid (∀ (a : Option Addr) (m : Int) (w : World), 0 ≤ m → m < l.lin → l.fine → At w l a → Calls Try.prog 113 #[.pointer a, .int .i64 m, .func (.func 96) #[] #[]] w fun e w' => ∃ (j : Nat) (x : Int), e = .returned (.tuple #[.int .i64 j, .int .i64 x]) ∧ Hit53 l.list m j x ∧ Below w.heap.size w w'))
    (IHR : Hid (∀ (a : Option Addr) (m : Int) (w : World), 0 ≤ m → m < r.lin → r.fine → At w r a → Calls Try.prog 113 #[.pointer a, .int .i64 m, .func (.func 96) #[] #[]] w fun e w' => ∃ (j : Nat) (x : Int), e = .returned (.tuple #[.int .i64 j, .int .i64 x]) ∧ Hit53 r.list m j x ∧ Below w.heap.size w w')) :
    Calls Try.prog 113 #[.pointer a, .int .i64 m, .func (.func 96) #[] #[]] w fun e w' => ∃ (j : Nat) (x : Int), e = .returned (.tuple #[.int .i64 j, .int .i64 x]) ∧ Hit53 ((Tr.mk (some (c, l, ⟨s, o, n, k⟩, r)))).list m j x ∧ Below w.heap.size w w' := by
  have HA : Hid (At w ((Tr.mk (some (c, l, ⟨s, o, n, k⟩, r)))) a) := h
  obtain ⟨b, la, ra, rfl, hn, hl, hr⟩ := id h
  have HL : Hid (At w l la) := hl
  have HR : Hid (At w r ra) := hr
  have c10 := (ncells hn).c10
  have c11 := (ncells hn).c11
  have FL := hf.left
  have FR := hf.right
  have bl := fine_bounds FL
  have br := fine_bounds FR
  have bp := hf.piece
  have bz := hf.2
  have HM : Hid (0 ≤ m ∧ m < l.lin + k + r.lin) := ⟨h1, h2⟩
  have e0 : ((Tr.mk (some (c, l, ⟨s, o, n, k⟩, r)))).lin = l.lin + k + r.lin := rfl
  have HF : Hid (l.fine ∧ r.fine) := ⟨FL, FR⟩
  simp only [Tr.size, Pc.fit] at bz bp
  have HZ : Hid (l.size + 1 + r.size ≤ 1048576) := bz
  clear h h1 h2 hf hn hl hr FL FR
  have HBD : Hid (0 ≤ l.lin ∧ l.lin ≤ 2251799813685248 ∧ 0 ≤ r.lin ∧ r.lin ≤ 2251799813685248 ∧ 0 ≤ k ∧ k ≤ 2147483647) := by unfold Hid; omega
  clear bl br bp bz
  by_cases g : m < l.lin
  · go_enter Try.func113, Try.ntmps113
    go_wp2_with (first | (go_at_call 96; refine (lines_any l _ _ HL).mono ?_; rintro e w' ⟨rfl, rfl⟩)
                       | (go_at_call 113; refine (IHL.out la m _ HM.out.1 g HF.out.1 HL.out).mono ?_; rintro e w9 ⟨j, x, rfl, hh, hb9⟩))
    go_ret2
    exact ⟨j, x, rfl, hit_left53 hh, hb9⟩
  · have w1 : IntKind.i64.wrap (l.lin + k) = l.lin + k := by
      have := HBD.out; exact i64_in (by omega) (by omega)
    go_enter Try.func113, Try.ntmps113
    go_wp2_with (first | (go_at_call 96; refine (lines_any l _ _ HL).mono ?_; rintro e w' ⟨rfl, rfl⟩))
    go_region_held3 (fun w' => w'.cell? ⟨b, 11, none⟩ = some (.pointer ra)) (first | assumption | simp [*, go_sem])
      (first | (go_at_call_of 96 (Value.pointer ra); refine (lines_any r _ _ HR.out.drew).mono ?_; rintro e w' ⟨rfl, rfl⟩)
             | (go_at_call 96; refine (lines_any _ _ _ HA.out.drew).mono ?_; rintro e w' ⟨rfl, rfl⟩; rw [e0]))
    (try rw [w1])
    by_cases g2 : m < l.lin + k
    · have w2 : wrap64 (m - l.lin) = m - l.lin := by have := HBD.out; have := HM.out; exact w64 (by omega) (by omega)
      go_wp2_with (first | (go_at_call 61; refine (pieces_any l _ _ HL.out.drew).mono ?_; rintro e w' ⟨rfl, rfl⟩))
      go_ret2
      exact ⟨l.size, m - l.lin, ret2 rfl w2, hit_here53 (by omega) g2, (Below.refl _ _).drew⟩
    · have w3 : wrap64 (m - (l.lin + k)) = m - (l.lin + k) := by have := HBD.out; have := HM.out; exact w64 (by omega) (by omega)
      go_wp2_with (first | (go_at_call 113; refine (IHR.out ra (m - (l.lin + k)) _ (by omega) (by have := HM.out; omega) HF.out.2 HR.out.drew).mono ?_; rintro e w9 ⟨j, x, rfl, hh, hb9⟩; have hjl := hit_lt53 hh; rw [Tr.size_list] at hjl; have HLT : Hid (j < r.size) := hjl; have cA : w9.cell? ⟨b, 10, none⟩ = some (.pointer la) := ((bD hb9).cell (p := ⟨b, 10, none⟩) (cell_lt c10)).trans c10; have HL9 : Hid (At w9 l la) := HL.out.keep (bD hb9))
                         | (go_at_call 61; refine (pieces_any l _ _ HL9).mono ?_; rintro e w' ⟨rfl, rfl⟩))
      go_ret2
      refine ⟨l.size + 1 + j, x, ret2 ?_ rfl, hit_right53 hh, bD hb9⟩
      have := HZ.out; have := HLT.out
      first | omega | (rw [w64 (x := (l.size : Int) + 1) (by omega) (by omega), w64 (by omega) (by omega)]; omega)

theorem find53_any : ∀ (t : Tr) (a : Option Addr) (m : Int) (w : World), 0 ≤ m → m < t.lin → t.fine → At w t a →
    Calls Try.prog 113 #[.pointer a, .int .i64 m, .func (.func 96) #[] #[]] w fun e w' => ∃ (j : Nat) (x : Int), e = .returned (.tuple #[.int .i64 j, .int .i64 x]) ∧ Hit53 t.list m j x ∧ Below w.heap.size w w'
  | (Tr.mk none), a, m, w, h1, h2, hf, h => absurd h2 (by simp only [Tr.lin]; omega)
  | (Tr.mk (some (c, l, ⟨s, o, n, k⟩, r))), a, m, w, h1, h2, hf, h => find53_node c l s o n k r a m w h1 h2 hf h (find53_any l) (find53_any r)

set_option maxHeartbeats 1000000 in
theorem tfind53_yes (t : Tr) (a : Option Addr) (m : Int) (w : World) (h0 : 0 ≤ m) (h1 : m < t.lin) (hf : Hid t.fine) (h : Hid (At w t a)) :
    Calls Try.prog 88 #[.agg #[.pointer a], .int .i64 m, .func (.func 96) #[] #[]] w fun e w' => ∃ (j : Nat) (x : Int), e = .returned (.tuple #[.int .i64 j, .int .i64 x, .bool true]) ∧ Hit53 t.list m j x ∧ Below w.heap.size w w' := by
  go_enter Try.func88, Try.ntmps88
  go_wp2_with (first | (go_at_call 96; refine (lines_any t _ _ (h.out.alloc _)).mono ?_; rintro e w' ⟨rfl, rfl⟩)
                     | (go_at_call 113; refine (find53_any t a m _ h0 h1 hf.out (h.out.alloc _)).mono ?_; rintro e w9 ⟨j, x, rfl, hh, hb9⟩))
  go_ret3
  exact ⟨j, x, rfl, hh, bA hb9⟩
set_option maxHeartbeats 1000000 in
theorem tfind53_low (_t : Tr) (a : Option Addr) (m : Int) (w : World) (h0 : m < 0) :
    Calls Try.prog 88 #[.agg #[.pointer a], .int .i64 m, .func (.func 96) #[] #[]] w fun e w' => e = .returned (.tuple #[.int .i64 0, .int .i64 0, .bool false]) ∧ Below w.heap.size w w' := by
  go_enter Try.func88, Try.ntmps88
  go_wp2_with fail
  go_ret3
  exact ⟨rfl, bAlloc (Below.refl _ _) _⟩
set_option maxHeartbeats 1000000 in
theorem tfind53_high (t : Tr) (a : Option Addr) (m : Int) (w : World) (h0 : 0 ≤ m) (h1 : t.lin ≤ m) (h : Hid (At w t a)) :
    Calls Try.prog 88 #[.agg #[.pointer a], .int .i64 m, .func (.func 96) #[] #[]] w fun e w' => e = .returned (.tuple #[.int .i64 0, .int .i64 0, .bool false]) ∧ Below w.heap.size w w' := by
  go_enter Try.func88, Try.ntmps88
  go_wp2_with (first | (go_at_call 96; refine (lines_any t _ _ (h.out.alloc _)).mono ?_; rintro e w' ⟨rfl, rfl⟩))
  go_ret3
  exact ⟨rfl, bAlloc (Below.refl _ _) _⟩

set_option maxHeartbeats 1000000 in
theorem Find53_yes (t : Tr) (a : Option Addr) (m : Int) (w : World) (h0 : 0 ≤ m) (h1 : m < t.lin) (hf : Hid t.fine) (h : Hid (At w t a)) :
    Calls Try.prog 83 #[.agg #[.pointer a], .int .i64 m] w fun e w' => ∃ (j : Nat) (x : Int), e = .returned (.tuple #[.int .i64 j, .int .i64 x, .bool true]) ∧ Hit53 t.list m j x ∧ Below w.heap.size w w' := by
  go_enter Try.func83, Try.ntmps83
  go_wp2_with (go_at_call 88; refine (tfind53_yes t a m _ h0 h1 hf (h.out.alloc _)).mono ?_; rintro e w9 ⟨j, x, rfl, hh, hb9⟩)
  go_ret3
  exact ⟨j, x, rfl, hh, bA hb9⟩
set_option maxHeartbeats 1000000 in
theorem Find53_no (t : Tr) (a : Option Addr) (m : Int) (w : World) (h0 : m < 0 ∨ t.lin ≤ m) (h : Hid (At w t a)) :
    Calls Try.prog 83 #[.agg #[.pointer a], .int .i64 m] w fun e w' => e = .returned (.tuple #[.int .i64 0, .int .i64 0, .bool false]) ∧ Below w.heap.size w w' := by
  have HC : Hid (∀ w, At w t a → Calls Try.prog 88 #[.agg #[.pointer a], .int .i64 m, .func (.func 96) #[] #[]] w fun e w' => e = .returned (.tuple #[.int .i64 0, .int .i64 0, .bool false]) ∧ Below w.heap.size w w') := fun w h => by
    by_cases g : m < 0
    · exact tfind53_low t a m w g
    · exact tfind53_high t a m w (by omega) (by omega) h
  clear h0
  go_enter Try.func83, Try.ntmps83
  go_wp2_with (go_at_call 88; refine (HC.out _ (h.out.alloc _)).mono ?_; rintro e w9 ⟨rfl, hb9⟩)
  go_ret3
  exact ⟨rfl, bA hb9⟩
end Go.Proofs.Ytpifjghhlcjedaa
