/- The contracts of find and FindLine, over line ends. -/
import Derived.Test.YtcaegdfbbjfgpaaAm18
import Derived.Test.YtcaegdfbbjfgpaaAm09
import Derived.Deep.LoopGhost
import Derived.Deep.CutRange
import Derived.Test.YtcaegdfbbjfgpaaAm19
namespace Go.Proofs.Ytcaegdfbbjfgpaa
open Go.RowKit

/-- the answer of a search: a place and what is inside it -/
def Hit53 (L : List Pc) (m : Int) (j : Nat) (inside : Int) : Prop := ∃ p, L[j]? = some p ∧ 0 ≤ inside ∧ inside < p.n ∧ m = sL (L.take j) + inside

theorem hit_left53 {c : Bool} {l r : Tr} {p : Pc} {m : Int} {j : Nat} {x : Int} (h : Hit53 l.list m j x) : Hit53 ((Tr.mk (some (c, l, p, r)))).list m j x := by
  obtain ⟨q, h1, h2, h3, h4⟩ := h
  have hj := (List.getElem?_eq_some_iff.1 h1).1
  rw [Tr.size_list] at hj
  exact ⟨q, by rw [list_left hj]; exact h1, h2, h3, by rw [take_left (by omega)]; exact h4⟩
theorem hit_here53 {c : Bool} {l r : Tr} {p : Pc} {m : Int} (h1 : l.lin ≤ m) (h2 : m < l.lin + p.n) : Hit53 ((Tr.mk (some (c, l, p, r)))).list m l.size (m - l.lin) := by
  refine ⟨p, list_here rfl, by omega, by omega, ?_⟩
  rw [take_left (Nat.le_refl _), List.take_of_length_le (by rw [Tr.size_list]; exact Nat.le_refl _), ← lin_list]; omega
theorem hit_right53 {c : Bool} {l r : Tr} {p : Pc} {m : Int} {j : Nat} {x : Int} (h : Hit53 r.list (m - (l.lin + p.n)) j x) : Hit53 ((Tr.mk (some (c, l, p, r)))).list m (l.size + 1 + j) x := by
  obtain ⟨q, h1, h2, h3, h4⟩ := h
  refine ⟨q, ?_, h2, h3, ?_⟩
  · rw [list_right (by omega), show l.size + 1 + j - l.size - 1 = j from by omega]; exact h1
  · rw [take_right (by omega), show l.size + 1 + j - l.size - 1 = j from by omega, sL_append, sL_cons, ← lin_list]; omega
theorem hit_lt53 {L : List Pc} {m : Int} {j : Nat} {x : Int} (h : Hit53 L m j x) : j < L.length := by
  obtain ⟨q, h1, -⟩ := h
  exact (List.getElem?_eq_some_iff.1 h1).1

set_option maxHeartbeats 4000000 in
theorem find53_node (c : Bool) (l : Tr) (s o n k : Int) (r : Tr) (a : Option Addr) (m : Int) (w : World) (h1 : 0 ≤ m) (h2 : m < ((Tr.mk (some (c, l, ⟨s, o, n, k⟩, r)))).lin) (hf : ((Tr.mk (some (c, l, ⟨s, o, n, k⟩, r)))).fine) (h : At w ((Tr.mk (some (c, l, ⟨s, o, n, k⟩, r)))) a)
    (IHL : Hid (∀ (a : Option Addr) (m : Int) (w : World), 0 ≤ m → m < l.lin → l.fine → At w l a → Calls Try.prog 84 #[.pointer a, .int .i64 m, .func (.func 53) #[] #[]] w fun e w' => ∃ (j : Nat) (x : Int), e = .returned (.tuple #[.int .i64 j, .int .i64 x]) ∧ Hit53 l.list m j x ∧ Below w.heap.size w w'))
    (IHR : Hid (∀ (a : Option Addr) (m : Int) (w : World), 0 ≤ m → m < r.lin → r.fine → At w r a → Calls Try.prog 84 #[.pointer a, .int .i64 m, .func (.func 53) #[] #[]] w fun e w' => ∃ (j : Nat) (x : Int), e = .returned (.tuple #[.int .i64 j, .int .i64 x]) ∧ Hit53 r.list m j x ∧ Below w.heap.size w w')) :
    Calls Try.prog 84 #[.pointer a, .int .i64 m, .func (.func 53) #[] #[]] w fun e w' => ∃ (j : Nat) (x : Int), e = .returned (.tuple #[.int .i64 j, .int .i64 x]) ∧ Hit53 ((Tr.mk (some (c, l, ⟨s, o, n, k⟩, r)))).list m j x ∧ Below w.heap.size w w' := by
  have HA : Hid (At w ((Tr.mk (some (c, l, ⟨s, o, n, k⟩, r)))) a) := h
  obtain ⟨b, la, ra, rfl, hn, hl, hr⟩ := id h
  have HL : Hid (At w l la) := hl
  have HR : Hid (At w r ra) := hr
  have c10 := (ncells hn).c10
  have c11 := (ncells hn).c11
  have FL := hf.left
  have FR := hf.right
  have bl := fine_bounds FL
  have br := fine_bounds FR
  have bp := hf.piece
  have bz := hf.2
  have HM : Hid (0 ≤ m ∧ m < l.lin + k + r.lin) := ⟨h1, h2⟩
  have e0 : ((Tr.mk (some (c, l, ⟨s, o, n, k⟩, r)))).lin = l.lin + k + r.lin := rfl
  have HF : Hid (l.fine ∧ r.fine) := ⟨FL, FR⟩
  simp only [Tr.size, Pc.fit] at bz bp
  have HZ : Hid (l.size + 1 + r.size ≤ 1048576) := bz
  clear h h1 h2 hf hn hl hr FL FR
  have HBD : Hid (0 ≤ l.lin ∧ l.lin ≤ 2251799813685248 ∧ 0 ≤ r.lin ∧ r.lin ≤ 2251799813685248 ∧ 0 ≤ k ∧ k ≤ 2147483647) := by unfold Hid; omega
  clear bl br bp bz
  by_cases g : m < l.lin
  · go_enter Try.func84, Try.ntmps84
    go_wp2_with (first | (go_at_call 53; refine (lines_any l _ _ HL).mono ?_; rintro e w' ⟨rfl, rfl⟩)
                       | (go_at_call 84; refine (IHL.out la m _ HM.out.1 g HF.out.1 HL.out).mono ?_; rintro e w9 ⟨j, x, rfl, hh, hb9⟩))
    go_ret2
    exact ⟨j, x, rfl, hit_left53 hh, hb9⟩
  · have w1 : IntKind.i64.wrap (l.lin + k) = l.lin + k := by
      have := HBD.out; exact i64_in (by omega) (by omega)
    go_enter Try.func84, Try.ntmps84
    go_wp2_with (first | (go_at_call 53; refine (lines_any l _ _ HL).mono ?_; rintro e w' ⟨rfl, rfl⟩))
    go_region_held3 (fun w' => w'.cell? ⟨b, 11, none⟩ = some (.pointer ra)) (first | assumption | simp [*, go_sem])
      (first | (go_at_call_of 53 (Value.pointer ra); refine (lines_any r _ _ HR.out.drew).mono ?_; rintro e w' ⟨rfl, rfl⟩)
             | (go_at_call 53; refine (lines_any _ _ _ HA.out.drew).mono ?_; rintro e w' ⟨rfl, rfl⟩; rw [e0]))
    (try rw [w1])
    by_cases g2 : m < l.lin + k
    · have w2 : wrap64 (m - l.lin) = m - l.lin := by have := HBD.out; have := HM.out; exact w64 (by omega) (by omega)
      go_wp2_with (first | (go_at_call 51; refine (pieces_any l _ _ HL.out.drew).mono ?_; rintro e w' ⟨rfl, rfl⟩))
      go_ret2
      exact ⟨l.size, m - l.lin, ret2 rfl w2, hit_here53 (by omega) g2, (Below.refl _ _).drew⟩
    · have w3 : wrap64 (m - (l.lin + k)) = m - (l.lin + k) := by have := HBD.out; have := HM.out; exact w64 (by omega) (by omega)
      go_wp2_with (first | (go_at_call 84; refine (IHR.out ra (m - (l.lin + k)) _ (by omega) (by have := HM.out; omega) HF.out.2 HR.out.drew).mono ?_; rintro e w9 ⟨j, x, rfl, hh, hb9⟩; have hjl := hit_lt53 hh; rw [Tr.size_list] at hjl; have HLT : Hid (j < r.size) := hjl; have cA : w9.cell? ⟨b, 10, none⟩ = some (.pointer la) := ((bD hb9).cell (p := ⟨b, 10, none⟩) (cell_lt c10)).trans c10; have HL9 : Hid (At w9 l la) := HL.out.keep (bD hb9))
                         | (go_at_call 51; refine (pieces_any l _ _ HL9).mono ?_; rintro e w' ⟨rfl, rfl⟩))
      go_ret2
      refine ⟨l.size + 1 + j, x, ret2 ?_ rfl, hit_right53 hh, bD hb9⟩
      have := HZ.out; have := HLT.out
      first | omega | (rw [w64 (x := (l.size : Int) + 1) (by omega) (by omega), w64 (by omega) (by omega)]; omega)

theorem find53_any : ∀ (t : Tr) (a : Option Addr) (m : Int) (w : World), 0 ≤ m → m < t.lin → t.fine → At w t a →
    Calls Try.prog 84 #[.pointer a, .int .i64 m, .func (.func 53) #[] #[]] w fun e w' => ∃ (j : Nat) (x : Int), e = .returned (.tuple #[.int .i64 j, .int .i64 x]) ∧ Hit53 t.list m j x ∧ Below w.heap.size w w'
  | (Tr.mk none), a, m, w, h1, h2, hf, h => absurd h2 (by simp only [Tr.lin]; omega)
  | (Tr.mk (some (c, l, ⟨s, o, n, k⟩, r))), a, m, w, h1, h2, hf, h => find53_node c l s o n k r a m w h1 h2 hf h (find53_any l) (find53_any r)

set_option maxHeartbeats 1000000 in
theorem tfind53_yes (t : Tr) (a : Option Addr) (m : Int) (w : World) (h0 : 0 ≤ m) (h1 : m < t.lin) (hf : Hid t.fine) (h : Hid (At w t a)) :
    Calls Try.prog 65 #[.agg #[.pointer a], .int .i64 m, .func (.func 53) #[] #[]] w fun e w' => ∃ (j : Nat) (x : Int), e = .returned (.tuple #[.int .i64 j, .int .i64 x, .bool true]) ∧ Hit53 t.list m j x ∧ Below w.heap.size w w' := by
  go_enter Try.func65, Try.ntmps65
  go_wp2_with (first | (go_at_call 53; refine (lines_any t _ _ (h.out.alloc _)).mono ?_; rintro e w' ⟨rfl, rfl⟩)
                     | (go_at_call 84; refine (find53_any t a m _ h0 h1 hf.out (h.out.alloc _)).mono ?_; rintro e w9 ⟨j, x, rfl, hh, hb9⟩))
  go_ret3
  exact ⟨j, x, rfl, hh, bA hb9⟩
set_option maxHeartbeats 1000000 in
theorem tfind53_low (_t : Tr) (a : Option Addr) (m : Int) (w : World) (h0 : m < 0) :
    Calls Try.prog 65 #[.agg #[.pointer a], .int .i64 m, .func (.func 53) #[] #[]] w fun e w' => e = .returned (.tuple #[.int .i64 0, .int .i64 0, .bool false]) ∧ Below w.heap.size w w' := by
  go_enter Try.func65, Try.ntmps65
  go_wp2_with fail
  go_ret3
  exact ⟨rfl, bAlloc (Below.refl _ _) _⟩
set_option maxHeartbeats 1000000 in
theorem tfind53_high (t : Tr) (a : Option Addr) (m : Int) (w : World) (h0 : 0 ≤ m) (h1 : t.lin ≤ m) (h : Hid (At w t a)) :
    Calls Try.prog 65 #[.agg #[.pointer a], .int .i64 m, .func (.func 53) #[] #[]] w fun e w' => e = .returned (.tuple #[.int .i64 0, .int .i64 0, .bool false]) ∧ Below w.heap.size w w' := by
  go_enter Try.func65, Try.ntmps65
  go_wp2_with (first | (go_at_call 53; refine (lines_any t _ _ (h.out.alloc _)).mono ?_; rintro e w' ⟨rfl, rfl⟩))
  go_ret3
  exact ⟨rfl, bAlloc (Below.refl _ _) _⟩

set_option maxHeartbeats 1000000 in
theorem Find53_yes (t : Tr) (a : Option Addr) (m : Int) (w : World) (h0 : 0 ≤ m) (h1 : m < t.lin) (hf : Hid t.fine) (h : Hid (At w t a)) :
    Calls Try.prog 34 #[.agg #[.pointer a], .int .i64 m] w fun e w' => ∃ (j : Nat) (x : Int), e = .returned (.tuple #[.int .i64 j, .int .i64 x, .bool true]) ∧ Hit53 t.list m j x ∧ Below w.heap.size w w' := by
  go_enter Try.func34, Try.ntmps34
  go_wp2_with (go_at_call 65; refine (tfind53_yes t a m _ h0 h1 hf (h.out.alloc _)).mono ?_; rintro e w9 ⟨j, x, rfl, hh, hb9⟩)
  go_ret3
  exact ⟨j, x, rfl, hh, bA hb9⟩
set_option maxHeartbeats 1000000 in
theorem Find53_no (t : Tr) (a : Option Addr) (m : Int) (w : World) (h0 : m < 0 ∨ t.lin ≤ m) (h : Hid (At w t a)) :
    Calls Try.prog 34 #[.agg #[.pointer a], .int .i64 m] w fun e w' => e = .returned (.tuple #[.int .i64 0, .int .i64 0, .bool false]) ∧ Below w.heap.size w w' := by
  have HC : Hid (∀ w, At w t a → Calls Try.prog 65 #[.agg #[.pointer a], .int .i64 m, .func (.func 53) #[] #[]] w fun e w' => e = .returned (.tuple #[.int .i64 0, .int .i64 0, .bool false]) ∧ Below w.heap.size w w') := fun w h => by
    by_cases g : m < 0
    · exact tfind53_low t a m w g
    · exact tfind53_high t a m w (by omega) (by omega) h
  clear h0
  go_enter Try.func34, Try.ntmps34
  go_wp2_with (go_at_call 65; refine (HC.out _ (h.out.alloc _)).mono ?_; rintro e w9 ⟨rfl, hb9⟩)
  go_ret3
  exact ⟨rfl, bA hb9⟩
end Go.Proofs.Ytcaegdfbbjfgpaa

/- The contract of quoinlaw02.asks. -/
namespace Go.Proofs.Ytcaegdfbbjfgpaa
open Go.RowKit

theorem Blk.put4 {W : World} {B e : Nat} {x0 x1 x2 x3 : Value} (h : Blk W B e #[x0, x1, x2, x3]) (a0 a1 a2 a3 : Value) : Blk ((((W.setCell ⟨B, 0, none⟩ a0).setCell ⟨B, 1, none⟩ a1).setCell ⟨B, 2, none⟩ a2).setCell ⟨B, 3, none⟩ a3) B e #[a0, a1, a2, a3] :=
  heap_setCell_same _ _ _ _ _ _ (heap_setCell_same _ _ _ _ _ _ (heap_setCell_same _ _ _ _ _ _ (heap_setCell_same _ _ _ _ _ _ h)))
theorem Blk.far4 {W : World} {B B' e : Nat} {cs : Array Value} (h : Blk W B' e cs) (hne : B' ≠ B) (a0 a1 a2 a3 : Value) : Blk ((((W.setCell ⟨B, 0, none⟩ a0).setCell ⟨B, 1, none⟩ a1).setCell ⟨B, 2, none⟩ a2).setCell ⟨B, 3, none⟩ a3) B' e cs := by
  unfold Blk
  rw [heap_setCell_other _ _ _ _ hne, heap_setCell_other _ _ _ _ hne, heap_setCell_other _ _ _ _ hne, heap_setCell_other _ _ _ _ hne]; exact h
/-- sums grow -/
theorem sB_mono {L : List Pc} (h : ∀ p ∈ L, p.fit) {i j : Nat} (hij : i ≤ j) : sB (L.take i) ≤ sB (L.take j) := by
  have : L.take j = L.take i ++ (L.drop i).take (j - i) := by rw [← List.take_add]; congr 1; omega
  rw [this, sB_append]
  have h2 : ∀ M : List Pc, (∀ p ∈ M, p.fit) → 0 ≤ sB M := by
    intro M
    induction M with
    | nil => intro _; simp [sB]
    | cons p M ih => intro hM; rw [sB_cons]; have := ih (fun q hq => hM q (List.mem_cons_of_mem _ hq)); have := (hM p (List.mem_cons_self ..)).1; omega
  have := h2 ((L.drop i).take (j - i)) (fun p hp => h p (List.mem_of_mem_drop (List.mem_of_mem_take hp)))
  omega
theorem sL_mono {L : List Pc} (h : ∀ p ∈ L, p.fit) {i j : Nat} (hij : i ≤ j) : sL (L.take i) ≤ sL (L.take j) := by
  have : L.take j = L.take i ++ (L.drop i).take (j - i) := by rw [← List.take_add]; congr 1; omega
  rw [this, sL_append]
  have h2 : ∀ M : List Pc, (∀ p ∈ M, p.fit) → 0 ≤ sL M := by
    intro M
    induction M with
    | nil => intro _; simp [sL]
    | cons p M ih => intro hM; rw [sL_cons]; have := ih (fun q hq => hM q (List.mem_cons_of_mem _ hq)); have := (hM p (List.mem_cons_self ..)).2.2.1; omega
  have := h2 ((L.drop i).take (j - i)) (fun p hp => h p (List.mem_of_mem_drop (List.mem_of_mem_take hp)))
  omega
theorem sB_succ {L : List Pc} {i : Nat} {p : Pc} (hp : L[i]? = some p) : sB (L.take (i + 1)) = sB (L.take i) + p.l := by
  obtain ⟨hi, rfl⟩ := List.getElem?_eq_some_iff.1 hp
  rw [List.take_succ_eq_append_getElem hi, sB_append, sB_cons]; simp [sB]
theorem sL_succ {L : List Pc} {i : Nat} {p : Pc} (hp : L[i]? = some p) : sL (L.take (i + 1)) = sL (L.take i) + p.n := by
  obtain ⟨hi, rfl⟩ := List.getElem?_eq_some_iff.1 hp
  rw [List.take_succ_eq_append_getElem hi, sL_append, sL_cons]; simp [sL]
/-- a list's bound sums -/
structure Smg (f : Pc → Int) (S : List Pc → Int) (L : List Pc) : Prop where
  succ : ∀ {i : Nat} {p : Pc}, L[i]? = some p → S (L.take (i + 1)) = S (L.take i) + f p
  mono : ∀ {i j : Nat}, i ≤ j → S (L.take i) ≤ S (L.take j)
/-- what a find answers -/
def Fa (f : Pc → Int) (S : List Pc → Int) (L : List Pc) (n fk fx : Int) (fo : Bool) : Prop :=
  (∃ (j : Nat) (p : Pc), fk = j ∧ fo = true ∧ L[j]? = some p ∧ 0 ≤ fx ∧ fx < f p ∧ n = S (L.take j) + fx) ∨ (fk = 0 ∧ fx = 0 ∧ fo = false ∧ (n < 0 ∨ S L ≤ n))
/-- what the law knows of it at piece number i -/
def Fi (fk fx : Int) (fo : Bool) (i : Nat) (k x : Int) (ok : Bool) : Prop :=
  (ok = true ∧ k = fk ∧ x = fx ∧ fo = true) ∨ (ok = false ∧ k = 0 ∧ x = 0 ∧ (fo = true → (i : Int) ≤ fk))
theorem Fi.step {f : Pc → Int} {S : List Pc → Int} {L : List Pc} {n fk fx k x : Int} {fo ok : Bool} {i : Nat} {p : Pc} (hS : Smg f S L) (hpos : 0 ≤ S (L.take 0)) (h : Fa f S L n fk fx fo) (hi : Fi fk fx fo i k x ok) (hp : L[i]? = some p) :
    (ok = true ∧ Fi fk fx fo (i + 1) k x ok) ∨ (ok = false ∧ n < S (L.take i) ∧ Fi fk fx fo (i + 1) k x ok) ∨ (ok = false ∧ S (L.take i) ≤ n ∧ f p ≤ n - S (L.take i) ∧ Fi fk fx fo (i + 1) k x ok) ∨ (ok = false ∧ S (L.take i) ≤ n ∧ n - S (L.take i) < f p ∧ Fi fk fx fo (i + 1) i (n - S (L.take i)) true) := by
  rcases hi with ⟨rfl, h1, h2, h3⟩ | ⟨rfl, h1, h2, h3⟩
  · exact .inl ⟨rfl, .inl ⟨rfl, h1, h2, h3⟩⟩
  · have hs := hS.succ hp
    rcases h with ⟨j, q, e1, e2, e3, e4, e5, e6⟩ | ⟨e1, e2, e3, e4⟩
    · have hij := h3 e2
      subst e1
      rcases Nat.lt_or_ge i j with hlt | hge
      · have hm := hS.mono (show i + 1 ≤ j by omega)
        refine .inr (.inr (.inl ⟨rfl, ?_, ?_, .inr ⟨rfl, h1, h2, fun _ => by omega⟩⟩))
        · have := hS.mono (show i ≤ j by omega); omega
        · omega
      · obtain rfl : j = i := by omega
        rw [hp] at e3
        cases e3
        refine .inr (.inr (.inr ⟨rfl, by omega, by omega, .inl ⟨rfl, rfl, by omega, e2⟩⟩))
    · have hF : Fi fk fx fo (i + 1) k x false := .inr ⟨rfl, h1, h2, fun h => by rw [e3] at h; cases h⟩
      rcases e4 with e4 | e4
      · refine .inr (.inl ⟨rfl, ?_, hF⟩)
        have := hS.mono (Nat.zero_le i); omega
      · have hl := (List.getElem?_eq_some_iff.1 hp).1
        have hm := hS.mono (show i + 1 ≤ L.length by omega)
        rw [List.take_length] at hm
        refine .inr (.inr (.inl ⟨rfl, ?_, by omega, hF⟩))
        have := hS.mono (show i ≤ L.length by omega)
        rw [List.take_length] at this
        omega
theorem Fi.fin {f : Pc → Int} {S : List Pc → Int} {L : List Pc} {n fk fx k x : Int} {fo ok : Bool} (h : Fa f S L n fk fx fo) (hi : Fi fk fx fo L.length k x ok) : fk = k ∧ fx = x ∧ fo = ok := by
  rcases hi with ⟨rfl, h1, h2, h3⟩ | ⟨rfl, h1, h2, h3⟩
  · exact ⟨h1.symm, h2.symm, h3⟩
  · rcases h with ⟨j, q, e1, e2, e3, _⟩ | ⟨e1, e2, e3, e4⟩
    · have := h3 e2
      have hl := (List.getElem?_eq_some_iff.1 e3).1
      omega
    · exact ⟨by omega, by omega, e3⟩
/-- what Get answers -/
def Ga (L : List Pc) (n : Int) (q : Pc) (e : Int) : Prop := (∃ j : Nat, n = j ∧ L[j]? = some q ∧ e = 0) ∨ (¬ (0 ≤ n ∧ n < (L.length : Int)) ∧ q = ⟨0, 0, 0, 0⟩ ∧ e = 20)
def Gi (n : Int) (q : Pc) (i : Nat) (u : Pc) (we : Int) : Prop := (0 ≤ n ∧ n < (i : Int) ∧ u = q ∧ we = 0) ∨ (¬ (0 ≤ n ∧ n < (i : Int)) ∧ u = ⟨0, 0, 0, 0⟩ ∧ we = 20)
theorem Gi.fin {L : List Pc} {n e we : Int} {q u : Pc} (h : Ga L n q e) (hi : Gi n q L.length u we) : q = u ∧ e = we := by
  rcases hi with ⟨h1, h2, h3, h4⟩ | ⟨h1, h2, h3⟩
  · rcases h with ⟨j, e1, e2, e3⟩ | ⟨e1, e2, e3⟩
    · exact ⟨h3.symm, by omega⟩
    · exact absurd ⟨h1, h2⟩ e1
  · rcases h with ⟨j, e1, e2, e3⟩ | ⟨e1, e2, e3⟩
    · exact absurd ⟨by omega, by have := (List.getElem?_eq_some_iff.1 e2).1; omega⟩ h1
    · exact ⟨by rw [e2, h2], by omega⟩

set_option maxRecDepth 100000 in
set_option maxHeartbeats 8000000 in
theorem asks_any (t : Tr) (a ao : Option Addr) (c : Nat) (n : Int) (w : World) (hz : t.size ≤ 5000) (hf : Hid t.fine) (h : Hid (At w t a)) (hr : Hid (Rdb w (.slice ao t.size c) t.list)) (hn0 : -9223372036854775808 ≤ n) (hn1 : n ≤ 9223372036854775807) :
    Calls Try.prog 22 #[.agg #[.pointer a], .slice ao t.size c, .int .i64 n] w fun e w' => e = .returned (.bool true) ∧ Below w.heap.size w w' := by
  have HL := Hid.mk' t.size_list
  have hfl := (Tr.fine_list t).1 hf.out
  have HSB : Hid (Smg Pc.l sB t.list) := ⟨fun hp => sB_succ hp, fun hij => sB_mono hfl.1 hij⟩
  have HSL : Hid (Smg Pc.n sL t.list) := ⟨fun hp => sL_succ hp, fun hij => sL_mono hfl.1 hij⟩
  have HBD := Hid.mk' (sB_bounds hfl)
  have HFB := Hid.mk' (show ∀ w, At w t a → Calls Try.prog 33 #[.agg #[.pointer a], .int .i64 n] w fun e w' => ∃ fk fx fo, e = .returned (.tuple #[.int .i64 fk, .int .i64 fx, .bool fo]) ∧ Fa Pc.l sB t.list n fk fx fo ∧ Below w.heap.size w w' from fun w h => by
    by_cases hh : 0 ≤ n ∧ n < t.byt
    · refine (Find52_yes t a n w hh.1 hh.2 hf h).mono ?_
      rintro e w' ⟨j, x, rfl, ⟨p, q1, q2, q3, q4⟩, hb⟩
      exact ⟨_, _, _, rfl, .inl ⟨j, p, rfl, rfl, q1, q2, q3, q4⟩, hb⟩
    · refine (Find52_no t a n w (by omega) h).mono ?_
      rintro e w' ⟨rfl, hb⟩
      exact ⟨_, _, _, rfl, .inr ⟨rfl, rfl, rfl, by rw [← byt_list]; omega⟩, hb⟩)
  have HFL := Hid.mk' (show ∀ w, At w t a → Calls Try.prog 34 #[.agg #[.pointer a], .int .i64 n] w fun e w' => ∃ fk fx fo, e = .returned (.tuple #[.int .i64 fk, .int .i64 fx, .bool fo]) ∧ Fa Pc.n sL t.list n fk fx fo ∧ Below w.heap.size w w' from fun w h => by
    by_cases hh : 0 ≤ n ∧ n < t.lin
    · refine (Find53_yes t a n w hh.1 hh.2 hf h).mono ?_
      rintro e w' ⟨j, x, rfl, ⟨p, q1, q2, q3, q4⟩, hb⟩
      exact ⟨_, _, _, rfl, .inl ⟨j, p, rfl, rfl, q1, q2, q3, q4⟩, hb⟩
    · refine (Find53_no t a n w (by omega) h).mono ?_
      rintro e w' ⟨rfl, hb⟩
      exact ⟨_, _, _, rfl, .inr ⟨rfl, rfl, rfl, by rw [← lin_list]; omega⟩, hb⟩)
  have HG := Hid.mk' (show ∀ w, At w t a → Calls Try.prog 35 #[.agg #[.pointer a], .int .i64 n] w fun e w' => ∃ (gs go gl gn ge : Int), e = .returned (.tuple #[.agg #[.int .i64 gs, .int .i64 go, .int .i64 gl, .int .i64 gn], .int .i64 ge]) ∧ Ga t.list n ⟨gs, go, gl, gn⟩ ge ∧ Below w.heap.size w w' from fun w h => by
    by_cases hh : 0 ≤ n ∧ n < (t.size : Int)
    · obtain ⟨i, rfl⟩ := Int.eq_ofNat_of_zero_le hh.1
      refine (Get_yes t a i w (by omega) (by omega) h).mono ?_
      rintro e w' ⟨s, o, l, k, q1, rfl, hb⟩
      exact ⟨_, _, _, _, _, rfl, .inl ⟨i, rfl, q1, rfl⟩, hb⟩
    · refine (Get_no t a n w (decide_eq_false hh) h).mono ?_
      rintro e w' ⟨rfl, hb⟩
      exact ⟨_, _, _, _, _, rfl, .inr ⟨by rw [HL.out]; exact hh, rfl, rfl⟩, hb⟩)
  have HBF := Hid.mk' (show ∀ w, At w t a → Calls Try.prog 36 #[.agg #[.pointer a], .int .i64 n] w fun e w' => ∃ (bb bl be : Int), e = .returned (.tuple #[.int .i64 bb, .int .i64 bl, .int .i64 be]) ∧ ((∃ j : Nat, n = j ∧ j ≤ t.size ∧ bb = sB (t.list.take j) ∧ bl = sL (t.list.take j) ∧ be = 0) ∨ (¬ (0 ≤ n ∧ n ≤ (t.size : Int)) ∧ bb = 0 ∧ bl = 0 ∧ be = 20)) ∧ Below w.heap.size w w' from fun w h => by
    by_cases hh : 0 ≤ n ∧ n ≤ (t.size : Int)
    · obtain ⟨i, rfl⟩ := Int.eq_ofNat_of_zero_le hh.1
      refine (Before_yes t a i w (by omega) hf h).mono ?_
      rintro e w' ⟨rfl, hb⟩
      exact ⟨_, _, _, rfl, .inl ⟨i, rfl, by omega, rfl, rfl, rfl⟩, hb⟩
    · refine (Before_no t a n w (decide_eq_false hh) h).mono ?_
      rintro e w' ⟨rfl, hb⟩
      exact ⟨_, _, _, rfl, .inr ⟨hh, rfl, rfl, rfl⟩, hb⟩)
  obtain ⟨m, hm⟩ : ∃ m, m = t.size := ⟨_, rfl⟩
  rw [← hm] at hr hz HL HBF ⊢
  obtain ⟨L, hLL⟩ : ∃ L, L = t.list := ⟨_, rfl⟩
  rw [← hLL] at hr HL HSB HSL HBD HFB HFL HG HBF
  clear hm hLL hf hfl
  go_enter Try.func22, Try.ntmps22
  go_wp2_with fail
  refine (HG.out _ (h.out.keep (bAlloc (Below.refl _ _) _))).mono ?_
  rintro e w1 ⟨gs, go, gl, gn, ge, rfl, hga, hb1⟩
  have GA := Hid.mk' hga
  have B1 := Hid.mk' (bT (bAlloc (Below.refl w.heap.size w) _) hb1)
  have x1 : w1.cell? ⟨w.heap.size, 0, none⟩ = some (.pointer a) := by rw [hb1.cell (p := ⟨w.heap.size, 0, none⟩) (by simp)]; simp
  have hz1 : w.heap.size < w1.heap.size := by have := hb1.size; simp at this; omega
  have K1 := Hid.mk' (Blk.new w1 32 #[.int .i64 gs, .int .i64 go, .int .i64 gl, .int .i64 gn])
  have C1 := Hid.mk' (bAlloc (Below.refl w1.heap.size w1) (.cells #[.int .i64 gs, .int .i64 go, .int .i64 gl, .int .i64 gn] 32))
  clear hga hb1
  go_upto_region 2 with fail
  generalize hV1 : w1.alloc (.cells #[.int .i64 gs, .int .i64 go, .int .i64 gl, .int .i64 gn] 32) = V1 at *
  clear hV1
  replace x1 : V1.cell? ⟨w.heap.size, 0, none⟩ = some (.pointer a) := by rw [C1.out.cell (p := ⟨w.heap.size, 0, none⟩) hz1]; exact x1
  have BV1 := Hid.mk' (bT B1.out C1.out)
  obtain ⟨pb, hpb⟩ : ∃ pb, pb = w1.heap.size := ⟨_, rfl⟩
  rw [← hpb] at K1 hz1 ⊢
  clear hpb C1 B1
  go_wp2_with fail
  refine (HBF.out _ (h.out.keep BV1.out)).mono ?_
  rintro e w2 ⟨bb, bl, be, rfl, hbf, hb2⟩
  have BF := Hid.mk' hbf
  have x2 : w2.cell? ⟨w.heap.size, 0, none⟩ = some (.pointer a) := by rw [hb2.cell (p := ⟨w.heap.size, 0, none⟩) (cell_lt x1)]; exact x1
  have K2 := Hid.mk' (K1.out.keep hb2)
  have B2 := Hid.mk' (bT BV1.out hb2)
  clear hbf hb2 x1 K1 BV1
  go_wp2_with fail
  refine (HFB.out _ (h.out.keep B2.out)).mono ?_
  rintro e w3 ⟨fk, fx, fo, rfl, hfa, hb3⟩
  have FB := Hid.mk' hfa
  have x3 : w3.cell? ⟨w.heap.size, 0, none⟩ = some (.pointer a) := by rw [hb3.cell (p := ⟨w.heap.size, 0, none⟩) (cell_lt x2)]; exact x2
  have K3 := Hid.mk' (K2.out.keep hb3)
  have B3 := Hid.mk' (bT B2.out hb3)
  clear hfa hb3 x2 K2 B2
  go_wp2_with fail
  refine (HFL.out _ (h.out.keep B3.out)).mono ?_
  rintro e w4 ⟨lk, lx, lo, rfl, hfa, hb4⟩
  have FL := Hid.mk' hfa
  have K4 := Hid.mk' (K3.out.keep hb4)
  have B4 := Hid.mk' (bT B3.out hb4)
  clear hfa hb4 x3 K3 B3 HFB HFL HG HBF
  go_upto_region 7 with fail
  have Q4 := Hid.mk' (Blk.new w4 32 #[.int .i64 0, .int .i64 0, .int .i64 0, .int .i64 0])
  have C4 := Hid.mk' (bAlloc (Below.refl w4.heap.size w4) (.cells #[.int .i64 0, .int .i64 0, .int .i64 0, .int .i64 0] 32))
  have hpq : pb < w4.heap.size := K4.out.lt
  generalize hV4 : w4.alloc (.cells #[.int .i64 0, .int .i64 0, .int .i64 0, .int .i64 0] 32) = V4 at *
  clear hV4
  have K5 := Hid.mk' (K4.out.keep C4.out)
  have B5 := Hid.mk' (bT B4.out C4.out)
  have hwq : w.heap.size ≤ w4.heap.size := B4.out.size
  obtain ⟨qb, hqb⟩ : ∃ qb, qb = w4.heap.size := ⟨_, rfl⟩
  rw [← hqb] at Q4 hpq hwq ⊢
  clear hqb C4 K4 B4
  go_wp2_with fail
  go_loopg [18, 19, 21, 23, 24, 25, 26, 27, 28, 29] m (fun g x18 x19 x21 x23 x24 x25 x26 x27 x28 x29 wr => ∃ (i : Nat) (we k1 y1 k2 y2 : Int) (ok1 ok2 : Bool) (us uo ul un : Int), i + g = m ∧ x18 = .int .i64 (sB (L.take i)) ∧ x19 = .int .i64 (sL (L.take i)) ∧ x21 = .int .i64 we ∧ x23 = .int .i64 k1 ∧ x24 = .int .i64 y1 ∧ x25 = .bool ok1 ∧ x26 = .int .i64 k2 ∧ x27 = .int .i64 y2 ∧ x28 = .bool ok2 ∧ x29 = .int .i64 (i : Int) ∧ Gi n ⟨gs, go, gl, gn⟩ i ⟨us, uo, ul, un⟩ we ∧ Fi fk fx fo i k1 y1 ok1 ∧ Fi lk lx lo i k2 y2 ok2 ∧ Blk wr pb 32 #[.int .i64 gs, .int .i64 go, .int .i64 gl, .int .i64 gn] ∧ Blk wr qb 32 #[.int .i64 us, .int .i64 uo, .int .i64 ul, .int .i64 un] ∧ Below w.heap.size w wr)
  case atStart => exact ⟨0, 20, 0, 0, 0, 0, false, false, 0, 0, 0, 0, by omega, rfl, rfl, rfl, rfl, rfl, rfl, rfl, rfl, rfl, rfl, .inr ⟨by omega, rfl, rfl⟩, .inr ⟨rfl, rfl, rfl, fun hh => by
      rcases FB.out with ⟨j, q, e1, _⟩ | ⟨_, _, e3, _⟩
      · rw [e1]; omega
      · rw [e3] at hh; cases hh⟩, .inr ⟨rfl, rfl, rfl, fun hh => by
      rcases FL.out with ⟨j, q, e1, _⟩ | ⟨_, _, e3, _⟩
      · rw [e1]; omega
      · rw [e3] at hh; cases hh⟩, K5.out, Q4.out, B5.out⟩
  case round =>
    obtain ⟨i, we, k1, y1, k2, y2, ok1, ok2, us, uo, ul, un, hig, rfl, rfl, rfl, rfl, rfl, rfl, rfl, rfl, rfl, rfl, hgi, hf1, hf2, hkp, hkq, hbw⟩ := hrel
    have GI := Hid.mk' hgi
    have F1 := Hid.mk' hf1
    have F2 := Hid.mk' hf2
    have KP := Hid.mk' hkp
    have KQ := Hid.mk' hkq
    have BW := Hid.mk' hbw
    clear hgi hf1 hf2 hkp hkq hbw K5 Q4 B5
    have hi0 : (0 : Int) ≤ (i : Int) := by omega
    have hbd := HBD.out i
    cases gk with
    | succ gk =>
      obtain ⟨⟨ps, po, pl, pn⟩, hp⟩ : ∃ p, L[i]? = some p := ⟨_, List.getElem?_eq_getElem (by have := HL.out; omega)⟩
      have HP := Hid.mk' hp
      obtain ⟨ao', n', c', e1, e2, e3, e4⟩ := hr.out.keep BW.out
      cases e1
      rcases e4 with e4 | ⟨b, off, rfl, hrow⟩
      · rw [e4] at hp; simp at hp
      obtain ⟨r0, r1, r2, r3⟩ := row4 hrow hp
      have HROW := Hid.mk' (fun W (hW : Below w.heap.size w W) => (show Row W b off L by
        obtain ⟨ao', n', c', e1, e2, e3, e4⟩ := hr.out.keep hW
        cases e1
        rcases e4 with e4 | ⟨b', off', e5, hrow⟩
        · have := HP.out; rw [e4] at this; simp at this
        · cases e5; exact hrow))
      have him : (i : Int) < (m : Int) := by omega
      have hsb1 := sB_succ hp
      have hsl1 := sL_succ hp
      have hbd2 := HBD.out (i + 1)
      have HSS := Hid.mk' (And.intro hsb1 hsl1)
      have S1 := Hid.mk' (Fi.step HSB.out (by simp [sB]) FB.out F1.out hp)
      have S2 := Hid.mk' (Fi.step HSL.out (by simp [sL]) FL.out F2.out hp)
      dsimp only at S1 S2 hsb1 hsl1 HSS
      rw [hsb1, hsl1] at hbd2
      clear hp hrow e2 e3 hsb1 hsl1
      generalize sB (L.take i) = SB at *
      generalize sL (L.take i) = SL at *
      obtain ⟨z1, z2, z3, z4⟩ := hbd
      obtain ⟨z5, z6, z7, z8⟩ := hbd2
      have q0 := KQ.out.cell (j := 0) (v := .int .i64 us) rfl
      have q1 := KQ.out.cell (j := 1) (v := .int .i64 uo) rfl
      have q2 := KQ.out.cell (j := 2) (v := .int .i64 ul) rfl
      have q3 := KQ.out.cell (j := 3) (v := .int .i64 un) rfl
      have g0 := KQ.out.frozen 0
      have g1 := KQ.out.frozen 1
      have g2 := KQ.out.frozen 2
      have g3 := KQ.out.frozen 3
      go_upto_if 66 with fail
      go_cut [21] from 67 to 71 (fun x21 wx => ∃ (we us uo ul un : Int), x21 = .int .i64 we ∧ Gi n ⟨gs, go, gl, gn⟩ (i + 1) ⟨us, uo, ul, un⟩ we ∧ Blk wx pb 32 #[.int .i64 gs, .int .i64 go, .int .i64 gl, .int .i64 gn] ∧ Blk wx qb 32 #[.int .i64 us, .int .i64 uo, .int .i64 ul, .int .i64 un] ∧ Below w.heap.size w wx)
      case first =>
        by_cases hin : (i : Int) = n
        · have hin1 : ((i : Int) == n) = true := by simpa using hin
          have HEQ := Hid.mk' (show (⟨ps, po, pl, pn⟩ : Pc) = ⟨gs, go, gl, gn⟩ by
            rcases GA.out with ⟨j, e1, e2, e3⟩ | ⟨e1, _⟩
            · have : j = i := by omega
              subst this
              rw [HP.out] at e2
              exact Option.some.inj e2
            · exact absurd ⟨by omega, by have := (List.getElem?_eq_some_iff.1 HP.out).1; omega⟩ e1)
          have hlt2 : n < ((i + 1 : Nat) : Int) := by omega
          have hnn : 0 ≤ n := by omega
          clear hin
          go_wp2
          go_meet
          case rel => exact ⟨0, ps, po, pl, pn, rfl, .inl ⟨hnn, hlt2, HEQ.out, rfl⟩, KP.out.far4 (by omega) _ _ _ _, KQ.out.put4 _ _ _ _, below_put4 BW.out (by omega) _ _ _ _⟩
        · have hin1 : ((i : Int) == n) = false := by simpa using hin
          have HGN := Hid.mk' (show Gi n ⟨gs, go, gl, gn⟩ (i + 1) ⟨us, uo, ul, un⟩ we by
            rcases GI.out with ⟨e1, e2, e3, e4⟩ | ⟨e1, e2, e3⟩
            · exact .inl ⟨e1, by omega, e3, e4⟩
            · exact .inr ⟨by omega, e2, e3⟩)
          clear hin
          go_wp2
          go_meet
          case rel => exact ⟨we, us, uo, ul, un, rfl, HGN.out, KP.out, KQ.out, BW.out⟩
      case rest =>
        obtain ⟨we2, us2, uo2, ul2, un2, rfl, hgi2, hkp2, hkq2, hb2⟩ := hcut
        have GI2 := Hid.mk' hgi2
        have KP2 := Hid.mk' hkp2
        have KQ2 := Hid.mk' hkq2
        have BW2 := Hid.mk' hb2
        obtain ⟨r0', r1', r2', r3'⟩ := row4 (HROW.out _ hb2) HP.out
        clear hgi2 hkp2 hkq2 hb2 GI KP KQ BW r0 r1 r2 r3 q0 q1 q2 q3 g0 g1 g2 g3
        obtain ⟨wAb, rfl⟩ : ∃ X, X = wc := ⟨_, rfl⟩
        go_upto_region 14 with fail
        go_cut [89] from 71 to 90 (fun xc wx => ∃ bo : Bool, xc = .bool bo ∧ ((bo = false ∧ Fi fk fx fo (i + 1) k1 y1 ok1) ∨ (bo = true ∧ Fi fk fx fo (i + 1) i (n - SB) true ∧ SB ≤ n)) ∧ wx = wAb)
        case first =>
          rcases S1.out with ⟨rfl, hF⟩ | ⟨rfl, h1, hF⟩ | ⟨rfl, h1, h2, hF⟩ | ⟨rfl, h1, h2, hF⟩
          · have HF := Hid.mk' hF
            clear hF
            go_wp2
            go_meet
            case rel => exact ⟨_, rfl, .inl ⟨rfl, HF.out⟩, rfl⟩
          · have HF := Hid.mk' hF
            clear hF
            have h3 : ¬ SB ≤ n := by omega
            go_wp2
            go_meet
            case rel => exact ⟨_, rfl, .inl ⟨rfl, HF.out⟩, rfl⟩
          · have HF := Hid.mk' hF
            clear hF
            have h3 : ¬ (n - SB < pl) := by omega
            go_wp2
            go_meet
            case rel => exact ⟨_, rfl, .inl ⟨rfl, HF.out⟩, rfl⟩
          · have HF := Hid.mk' hF
            clear hF
            go_wp2
            go_meet
            case rel => exact ⟨_, rfl, .inr ⟨rfl, HF.out, h1⟩, rfl⟩
        case rest =>
          obtain ⟨bo, rfl, hF, rfl⟩ := hcut
          obtain ⟨wBb, rfl⟩ : ∃ X, X = wc := ⟨_, rfl⟩
          have HF := Hid.mk' hF
          clear hF S1
          go_upto_if 89 with fail
          go_cut [23, 24, 25] from 90 to 94 (fun xa xb xc wx => ∃ (k x : Int) (ok : Bool), xa = .int .i64 k ∧ xb = .int .i64 x ∧ xc = .bool ok ∧ Fi fk fx fo (i + 1) k x ok ∧ wx = wBb)
          case first =>
            rcases HF.out with ⟨rfl, hF⟩ | ⟨rfl, hF, h1⟩
            · have HG := Hid.mk' hF
              clear hF
              go_wp2
              go_meet
              case rel => exact ⟨_, _, _, rfl, rfl, rfl, HG.out, rfl⟩
            · have HG := Hid.mk' hF
              clear hF
              go_wp2
              go_meet
              case rel => exact ⟨_, _, _, rfl, rfl, rfl, HG.out, rfl⟩
          case rest =>
            obtain ⟨kb, xb, ob, rfl, rfl, rfl, hFb, rfl⟩ := hcut
            have FFb := Hid.mk' hFb
            clear hFb HF
            obtain ⟨wAl, rfl⟩ : ∃ X, X = wc := ⟨_, rfl⟩
            go_upto_region 16 with fail
            go_cut [111] from 94 to 112 (fun xc wx => ∃ bo : Bool, xc = .bool bo ∧ ((bo = false ∧ Fi lk lx lo (i + 1) k2 y2 ok2) ∨ (bo = true ∧ Fi lk lx lo (i + 1) i (n - SL) true ∧ SL ≤ n)) ∧ wx = wAl)
            case first =>
              rcases S2.out with ⟨rfl, hF⟩ | ⟨rfl, h1, hF⟩ | ⟨rfl, h1, h2, hF⟩ | ⟨rfl, h1, h2, hF⟩
              · have HF := Hid.mk' hF
                clear hF
                go_wp2
                go_meet
                case rel => exact ⟨_, rfl, .inl ⟨rfl, HF.out⟩, rfl⟩
              · have HF := Hid.mk' hF
                clear hF
                have h3 : ¬ SL ≤ n := by omega
                go_wp2
                go_meet
                case rel => exact ⟨_, rfl, .inl ⟨rfl, HF.out⟩, rfl⟩
              · have HF := Hid.mk' hF
                clear hF
                have h3 : ¬ (n - SL < pn) := by omega
                go_wp2
                go_meet
                case rel => exact ⟨_, rfl, .inl ⟨rfl, HF.out⟩, rfl⟩
              · have HF := Hid.mk' hF
                clear hF
                go_wp2
                go_meet
                case rel => exact ⟨_, rfl, .inr ⟨rfl, HF.out, h1⟩, rfl⟩
            case rest =>
              obtain ⟨bo, rfl, hF, rfl⟩ := hcut
              obtain ⟨wBl, rfl⟩ : ∃ X, X = wc := ⟨_, rfl⟩
              have HF := Hid.mk' hF
              clear hF S2
              go_upto_if 111 with fail
              go_cut [26, 27, 28] from 112 to 116 (fun xa xb xc wx => ∃ (k x : Int) (ok : Bool), xa = .int .i64 k ∧ xb = .int .i64 x ∧ xc = .bool ok ∧ Fi lk lx lo (i + 1) k x ok ∧ wx = wBl)
              case first =>
                rcases HF.out with ⟨rfl, hF⟩ | ⟨rfl, hF, h1⟩
                · have HG := Hid.mk' hF
                  clear hF
                  go_wp2
                  go_meet
                  case rel => exact ⟨_, _, _, rfl, rfl, rfl, HG.out, rfl⟩
                · have HG := Hid.mk' hF
                  clear hF
                  go_wp2
                  go_meet
                  case rel => exact ⟨_, _, _, rfl, rfl, rfl, HG.out, rfl⟩
              case rest =>
                obtain ⟨kl, xl, ol, rfl, rfl, rfl, hFl, rfl⟩ := hcut
                have FFl := Hid.mk' hFl
                clear hFl HF
                go_wp2
                go_roundg gk
                case measure => omega
                case rel => exact ⟨i + 1, we2, kb, xb, kl, xl, ob, ol, us2, uo2, ul2, un2, by omega, by rw [HSS.out.1], by rw [HSS.out.2], rfl, rfl, rfl, rfl, rfl, rfl, rfl, by go_num, GI2.out, FFb.out, FFl.out, KP2.out, KQ2.out, BW2.out⟩
    | zero =>
      have hiL : i = L.length := by have := HL.out; omega
      subst hiL
      obtain ⟨ga1, ga2⟩ := Gi.fin GA.out GI.out
      obtain ⟨fa1, fa2, fa3⟩ := Fi.fin FB.out F1.out
      obtain ⟨la1, la2, la3⟩ := Fi.fin FL.out F2.out
      simp only [Pc.mk.injEq] at ga1
      obtain ⟨gb1, gb2, gb3, gb4⟩ := ga1
      subst gb1 gb2 gb3 gb4 ga2 fa1 fa2 fa3 la1 la2 la3
      clear GI F1 F2 FB FL GA hbd
      have p0 := KP.out.cell (j := 0) (v := .int .i64 gs) rfl
      have p1 := KP.out.cell (j := 1) (v := .int .i64 go) rfl
      have p2 := KP.out.cell (j := 2) (v := .int .i64 gl) rfl
      have p3 := KP.out.cell (j := 3) (v := .int .i64 gn) rfl
      have q0 := KQ.out.cell (j := 0) (v := .int .i64 gs) rfl
      have q1 := KQ.out.cell (j := 1) (v := .int .i64 go) rfl
      have q2 := KQ.out.cell (j := 2) (v := .int .i64 gl) rfl
      have q3 := KQ.out.cell (j := 3) (v := .int .i64 gn) rfl
      have him : ¬ ((L.length : Int) < (m : Int)) := by omega
      rcases BF.out with ⟨j, rfl, hj, rfl, rfl, rfl⟩ | ⟨hno, rfl, rfl, rfl⟩
      · obtain ⟨wz, rfl⟩ : ∃ X, X = wr := ⟨_, rfl⟩
        have hj0 : (0 : Int) ≤ (j : Int) := by omega
        have hj1 : (j : Int) ≤ (m : Int) := by omega
        clear BF
        go_wp2_with fail
        go_loopg [18, 19, 30] j (fun g x18 x19 x30 wx => ∃ k : Nat, k + g = j ∧ x18 = .int .i64 (sB (L.take k)) ∧ x19 = .int .i64 (sL (L.take k)) ∧ x30 = .int .i64 (k : Int) ∧ wz = wx)
        case atStart => exact ⟨0, by omega, rfl, rfl, rfl, rfl⟩
        case round =>
          obtain ⟨k, hkg, rfl, rfl, rfl, rfl⟩ := hrel
          have hk0 : (0 : Int) ≤ (k : Int) := by omega
          cases gk with
          | succ g2 =>
            have hkj : (k : Int) < (j : Int) := by omega
            have hkm : (k : Int) < (m : Int) := by omega
            obtain ⟨⟨ps, po, pl, pn⟩, hp⟩ : ∃ p, L[k]? = some p := ⟨_, List.getElem?_eq_getElem (by have := HL.out; omega)⟩
            obtain ⟨ao', n', c', e1, e2, e3, e4⟩ := hr.out.keep BW.out
            cases e1
            rcases e4 with e4 | ⟨b, off, rfl, hrow⟩
            · rw [e4] at hp; simp at hp
            obtain ⟨r0, r1, r2, r3⟩ := row4 hrow hp
            have hsb1 := sB_succ hp
            have hsl1 := sL_succ hp
            have hbd := HBD.out k
            have hbd2 := HBD.out (k + 1)
            have HSS := Hid.mk' (And.intro hsb1 hsl1)
            dsimp only at hsb1 hsl1 HSS
            rw [hsb1, hsl1] at hbd2
            clear hp hrow e2 e3 hsb1 hsl1
            generalize sB (L.take k) = SB at *
            generalize sL (L.take k) = SL at *
            obtain ⟨z1, z2, z3, z4⟩ := hbd
            obtain ⟨z5, z6, z7, z8⟩ := hbd2
            go_wp2
            go_roundg g2
            case measure => omega
            case rel => exact ⟨k + 1, by omega, by rw [HSS.out.1], by rw [HSS.out.2], by go_num, rfl⟩
          | zero =>
            have hkj : ¬ ((k : Int) < (j : Int)) := by omega
            obtain rfl : k = j := by omega
            go_wp2
            go_ret
            exact ⟨by first | rfl | simp, BW.out⟩
      · clear BF
        by_cases hneg : n < 0
        · have h5 : ¬ (0 ≤ n) := by omega
          clear hno
          go_wp2
          go_ret
          exact ⟨by first | rfl | simp, BW.out⟩
        · have h5 : 0 ≤ n := by omega
          have h6 : ¬ (n ≤ (m : Int)) := by omega
          clear hno
          go_wp2
          go_ret
          exact ⟨by first | rfl | simp, BW.out⟩
end Go.Proofs.Ytcaegdfbbjfgpaa

/- The walk of quoinlaw02.ShadeFinds. -/
namespace Go.Proofs.Ytcaegdfbbjfgpaa
open Go.RowKit

theorem buildT_fine {L : List Pc} (h : L.length ≤ 1048576) : (Tr.buildT (good L)).fine ∧ (Tr.buildT (good L)).whole :=
  ⟨(fineL_good h).of (Tr.buildT_ok _ _ (Nat.le_refl _)).2, (Tr.buildT_ok _ _ (Nat.le_refl _)).1⟩

/-- The box of a tree, and the tree. -/
def TB (w : World) (b : Nat) (t : Tr) (a : Option Addr) : Prop := w.heap[b]? = some (Obj.cells #[.pointer a] 26 (0, 0)) ∧ At w t a
theorem TB.keep {w w' : World} {b : Nat} {t : Tr} {a : Option Addr} (h : TB w b t a) (hb : Below w.heap.size w w') : TB w' b t a := ⟨nkeep h.1 hb, h.2.keep hb⟩
theorem TB.alloc {w : World} {b : Nat} {t : Tr} {a : Option Addr} (h : TB w b t a) (x : Obj) : TB (w.alloc x) b t a := h.keep (bAlloc (Below.refl _ _) x)
theorem TB.new {w : World} {t : Tr} {a : Option Addr} (h : At w t a) : TB (w.alloc (.cells #[.pointer a] 26)) w.heap.size t a := ⟨heap_alloc_new _ _, h.alloc _⟩
theorem TB.c {w : World} {b : Nat} {t : Tr} {a : Option Addr} (h : TB w b t a) : w.cell? ⟨b, 0, none⟩ = some (.pointer a) := box_cell h.1

theorem hitB {t : Tr} {m : Int} {j : Nat} {x : Int} (hf : t.fine) (h : Hit52 t.list m j x) : ∃ p, t.list[j]? = some p ∧ j < t.size ∧ 0 ≤ x ∧ x < p.l ∧ wrap64 (sB (t.list.take j) + x) = m := by
  obtain ⟨p, h1, h2, h3, h4⟩ := h
  have hj := (List.getElem?_eq_some_iff.1 h1).1
  rw [Tr.size_list] at hj
  have b := sB_bounds hf.list j
  have q := hf.list.1 p (List.mem_of_getElem? h1)
  unfold Pc.fit at q
  exact ⟨p, h1, hj, h2, h3, by rw [w64 (by omega) (by omega)]; omega⟩
theorem hitL {t : Tr} {m : Int} {j : Nat} {x : Int} (hf : t.fine) (h : Hit53 t.list m j x) : ∃ p, t.list[j]? = some p ∧ j < t.size ∧ 0 ≤ x ∧ x < p.n ∧ wrap64 (sL (t.list.take j) + x) = m := by
  obtain ⟨p, h1, h2, h3, h4⟩ := h
  have hj := (List.getElem?_eq_some_iff.1 h1).1
  rw [Tr.size_list] at hj
  have b := sB_bounds hf.list j
  have q := hf.list.1 p (List.mem_of_getElem? h1)
  unfold Pc.fit at q
  exact ⟨p, h1, hj, h2, h3, by rw [w64 (by omega) (by omega)]; omega⟩

set_option maxHeartbeats 4000000 in
theorem finds_long (ao : Option Addr) (n c : Nat) (m : Int) (w : World) (hn : (5000 : Int) < (n : Int)) :
    Calls Try.prog 7 #[.slice ao n c, .int .i64 m] w fun e w' => e = .returned (.bool true) ∧ Below w.heap.size w w' := by
  go_enter Try.func7, Try.ntmps7
  go_wp2_with (go_at_call 9; refine (alive_any _).mono ?_; rintro e w1 ⟨rfl, hb1⟩)
  go_ret
  exact ⟨rfl, hb1⟩
end Go.Proofs.Ytcaegdfbbjfgpaa

/- The walk of quoinlaw02.ShadeAsks. -/
namespace Go.Proofs.Ytcaegdfbbjfgpaa
open Go.RowKit

/-- a slice of numbers -/
def RdN (W : World) (ao : Option Addr) (A : List Int) : Prop := A = [] ∨ ∃ b off, ao = some ⟨b, off, none⟩ ∧ ∀ j x, A[j]? = some x → W.cell? ⟨b, off + j, none⟩ = some (.int .i64 x)
theorem RdN.keep {W W' : World} {ao : Option Addr} {A : List Int} (h : RdN W ao A) (hb : Below W.heap.size W W') : RdN W' ao A := by
  rcases h with h | ⟨b, off, e, h⟩
  · exact .inl h
  · exact .inr ⟨b, off, e, fun j x hj => by rw [hb.cell (p := ⟨b, off + j, none⟩) (cell_lt (h j x hj))]; exact h j x hj⟩

set_option maxHeartbeats 4000000 in
theorem asksL_long (ao : Option Addr) (n c : Nat) (v : Value) (w : World) (hn : (5000 : Int) < (n : Int)) :
    Calls Try.prog 4 #[.slice ao n c, v] w fun e w' => e = .returned (.bool true) ∧ Below w.heap.size w w' := by
  go_enter Try.func4, Try.ntmps4
  go_wp2_with (go_at_call 9; refine (alive_any _).mono ?_; rintro e w1 ⟨rfl, hb1⟩)
  go_ret
  exact ⟨rfl, hb1⟩

set_option maxRecDepth 100000 in
set_option maxHeartbeats 8000000 in
theorem asksL_walk (ao : Option Addr) (n c : Nat) (L : List Pc) (no : Option Addr) (nc an : Nat) (A : List Int) (w : World) (hn : (n : Int) ≤ (5000 : Int)) (hl : Hid (L.length ≤ 5000)) (hr : Hid (Rdb w (.slice ao n c) L)) (han : Hid (an = A.length)) (hA : Hid (RdN w no A)) (hA2 : Hid (∀ x ∈ A, -9223372036854775808 ≤ x ∧ x ≤ 9223372036854775807)) (hA3 : an ≤ 9223372036854775807) :
    Calls Try.prog 4 #[.slice ao n c, .slice no an nc] w fun e w' => e = .returned (.bool true) ∧ Below w.heap.size w w' := by
  obtain ⟨F0, F1⟩ := buildT_fine (L := L) (by have := hl.out; omega)
  have hsz : (Tr.buildT (good L)).size ≤ 5000 := by rw [← Tr.size_list, (Tr.buildT_ok _ (good L) (Nat.le_refl _)).2]; have := good_le L; have := hl.out; omega
  have HB := Hid.mk' (fun W (hW : Below w.heap.size w W) => Build_any _ L W (by have := hl.out; omega) (hr.out.keep hW))
  have HBR := Hid.mk' (fun W (hW : Below w.heap.size w W) => Buildr_any _ L W hl.out (hr.out.keep hW))
  have HF := Hid.mk' F0
  have HWH := Hid.mk' F1
  generalize hT : Tr.buildT (good L) = T at *
  clear hT F0 F1 hr hl
  go_enter Try.func4, Try.ntmps4
  go_wp2_with fail
  refine (alive_any _).mono ?_
  rintro e w1 ⟨rfl, hb1⟩
  have B1 := Hid.mk' hb1
  clear hb1
  go_wp2_with fail
  refine (HB.out w1 B1.out).mono ?_
  rintro e w2 ⟨a, rfl, hat, hb2⟩
  have B2 := Hid.mk' (bAlloc (bT B1.out hb2) (.cells #[.pointer a] 26))
  have K2 := Hid.mk' (TB.new hat)
  clear hat hb2 HB B1
  go_upto_region 6 with fail
  generalize hV2 : w2.alloc (.cells #[.pointer a] 26) = V2 at *
  obtain ⟨tb, htb⟩ : ∃ tb, tb = w2.heap.size := ⟨_, rfl⟩
  rw [← htb] at K2 ⊢
  clear hV2 htb
  go_wp2_with fail
  refine (HBR.out V2 B2.out).mono ?_
  rintro e w3 ⟨lr, rfl, hown3, hb3⟩
  have B3 := Hid.mk' (bT B2.out hb3)
  have K3 := Hid.mk' (K2.out.keep hb3)
  have R3 := Hid.mk' (own_rdr hown3)
  clear hown3 hb3 HBR B2 K2
  have DP := Hid.mk' (Piecesr_any T lr w3 hsz HF.out.1 R3.out)
  go_wp2_with fail
  refine DP.out.mono ?_
  rintro e w4 ⟨lp, rfl, hown4, hb4⟩
  have B4 := Hid.mk' (bT B3.out hb4)
  have K4 := Hid.mk' (K3.out.keep hb4)
  have R4 := Hid.mk' (R3.out.keep hb4)
  have P4 := Hid.mk' (own_rdb hown4)
  clear hown4 hb4 DP B3 K3 R3
  obtain ⟨pa, pn, pc, e1, e2, e3, e4⟩ := P4.out
  subst e1
  obtain rfl : pn = T.size := by rw [e2, Tr.size_list]
  have E4 := Hid.mk' e4
  clear e2 e4
  have HFL := Hid.mk' ((Tr.fine_list T).1 HF.out)
  go_wp2
  go_loopg [8, 9, 10] T.size (fun g x8 x9 x10 wr => ∃ k : Nat, k + g = T.size ∧ x10 = .int .i64 (k : Int) ∧ x8 = .int .i64 (sB (T.list.take k)) ∧ x9 = .int .i64 (sL (T.list.take k)) ∧ wr = w4)
  case atStart => exact ⟨0, by omega, rfl, by simp [sB], by simp [sL], rfl⟩
  case round =>
    obtain ⟨k, hk, rfl, rfl, rfl, rfl⟩ := hrel
    by_cases hlt : k < T.size
    · rcases E4.out with he | ⟨b, off, rfl, hrow⟩
      · have := T.size_list; rw [he] at this; simp at this; omega
      rcases hp : T.list[k]? with _ | ⟨s, o, l, m⟩
      · have := List.getElem?_eq_none_iff.1 hp; rw [T.size_list] at this; omega
      obtain ⟨r0, r1, r2, r3⟩ := row4 hrow hp
      have j0 : (0 : Int) ≤ (k : Int) := by omega
      have j1 : (k : Int) < (T.size : Int) := by omega
      have q1 := sB_succ hp
      have q2 := sL_succ hp
      simp only at q1 q2
      have q3 := sB_bounds HFL.out (k + 1)
      have z1 : IntKind.i64.wrap (sB (T.list.take k) + l) = sB (T.list.take (k + 1)) := by rw [IntKind.wrap_i64, ← q1]; omega
      have z2 : IntKind.i64.wrap (sL (T.list.take k) + m) = sL (T.list.take (k + 1)) := by rw [IntKind.wrap_i64, ← q2]; omega
      have z3 : IntKind.i64.wrap ((k : Int) + 1) = ((k + 1 : Nat) : Int) := by rw [IntKind.wrap_i64]; omega
      clear q1 q2 q3 hrow hp
      go_wp2
      go_roundg (gk - 1)
      case measure => omega
      case rel => exact ⟨k + 1, by omega, by go_num, rfl, rfl, rfl⟩
    · obtain rfl : k = T.size := by omega
      have hbt : sB (T.list.take T.size) = T.byt := by rw [← T.size_list, List.take_length]; exact (byt_list T).symm
      have hlt' : sL (T.list.take T.size) = T.lin := by rw [← T.size_list, List.take_length]; exact (lin_list T).symm
      rw [hbt, hlt']
      have t4 := K4.out.c
      have hbe : (T.byt == T.byt) = true := by simp
      have hle : (T.lin == T.lin) = true := by simp
      have HH := Hid.mk' (fun W (hW : Below wr.heap.size wr W) => Heightr_any T lr W (by omega) HWH.out.1 HF.out.1 (R4.out.keep hW))
      clear hbt hlt'
      go_upto_region 16 with (first
        | (go_at_call 17; refine (Len_any T a _ K4.out.2).mono ?_; rintro e w5 ⟨rfl, hw5⟩; (have D5 : Hid (Below wr.heap.size wr w5) := by rw [hw5]; exact bAlloc (Below.refl _ _) _); (have K5 := Hid.mk' (K4.out.keep D5.out)); (have t5 := K5.out.c); clear hw5 t4)
        | (go_at_call 18; refine (Bytes_any T a _ K5.out.2).mono ?_; rintro e w6 ⟨rfl, hw6⟩; (have D6 : Hid (Below wr.heap.size wr w6) := by rw [hw6]; exact bAlloc D5.out _); (have K6 := Hid.mk' (K4.out.keep D6.out)); (have t6 := K6.out.c); clear hw6 t5 K5 D5)
        | (go_at_call 19; refine (Lines_any T a _ K6.out.2).mono ?_; rintro e w7 ⟨rfl, hw7⟩; (have D7 : Hid (Below wr.heap.size wr w7) := by rw [hw7]; exact bAlloc D6.out _); (have K7 := Hid.mk' (K4.out.keep D7.out)); (have t7 := K7.out.c); clear hw7 t6 K6 D6)
        | (go_at_call 20; refine (Height_any T a _ K7.out.2).mono ?_; rintro e w8 ⟨rfl, hw8⟩; (have D8 : Hid (Below wr.heap.size wr w8) := by rw [hw8]; exact bAlloc D7.out _); (have K8 := Hid.mk' (K4.out.keep D8.out)); clear hw8 t7 K7 D7)
        | (go_at_call 21; refine (HH.out _ D8.out).mono ?_; rintro e w9 ⟨rfl, hb9⟩; (have D9 := Hid.mk' (bT D8.out hb9)); (have K9 := Hid.mk' (K4.out.keep D9.out)); (have P9 := Hid.mk' (P4.out.keep D9.out)); (have B9 := Hid.mk' (bT B4.out D9.out)); clear hb9 D9 K8 D8))
      clear HH K4 P4 E4 R4 B4
      have A9 := Hid.mk' (hA.out.keep B9.out)
      go_wp2
      go_loopg [11] A.length (fun g x11 wx => ∃ k : Nat, k + g = A.length ∧ x11 = .int .i64 (k : Int) ∧ Below w9.heap.size w9 wx)
      case atStart => exact ⟨0, by omega, rfl, Below.refl _ _⟩
      case round =>
        obtain ⟨k, hk, rfl, hbx⟩ := hrel
        have BX := Hid.mk' hbx
        clear hbx
        have KX := Hid.mk' (K9.out.keep BX.out)
        have hww := Hid.mk' (bT B9.out BX.out)
        by_cases hlt : k < A.length
        · rcases A9.out with he | ⟨ab, af, rfl, hcell⟩
          · rw [he] at hlt; simp at hlt
          rcases hp : A[k]? with _ | x
          · have := List.getElem?_eq_none_iff.1 hp; omega
          obtain ⟨xb0, xb1⟩ := hA2.out x (List.mem_of_getElem? hp)
          have c1 : wr.cell? ⟨ab, af + k, none⟩ = some (.int .i64 x) := by rw [BX.out.cell (p := ⟨ab, af + k, none⟩) (cell_lt (hcell k x hp))]; exact hcell k x hp
          have t1 := KX.out.c
          have HAS := Hid.mk' (fun W (hW : Below wr.heap.size wr W) => asks_any T a pa pc x W hsz HF (KX.out.2.keep hW) (P9.out.keep (bT BX.out hW)) xb0 xb1)
          have CX := Hid.mk' (fun W (hW : Below wr.heap.size wr W) => And.intro (KX.out.keep hW).c ((hW.cell (p := ⟨ab, af + k, none⟩) (cell_lt c1)).trans c1))
          have j0 : (0 : Int) ≤ (k : Int) := by omega
          have j1 : (k : Int) < (an : Int) := by have := han.out; omega
          clear hcell hp
          go_upto_region 19 with fail
          go_region_held3 (fun w' => w'.cell? ⟨tb, 0, none⟩ = some (.pointer a) ∧ w'.cell? ⟨ab, af + k, none⟩ = some (.int .i64 x)) (first | assumption | simp [*, go_sem])
            (first | (go_at_call 22; refine (HAS.out _ (Below.refl _ _).drew).mono ?_; rintro e5 w5 ⟨rfl, hb5⟩; have B5 := Hid.mk' (bD hb5); obtain ⟨c2, c3⟩ := CX.out _ B5.out))
          go_wp2
          go_roundg (gk - 1)
          case measure => omega
          case rel => exact ⟨k + 1, by omega, by go_num, bT BX.out B5.out⟩
        · have j1 : ¬ ((k : Int) < (an : Int)) := by have := han.out; omega
          go_wp2
          go_ret
          exact ⟨rfl, hww.out⟩
end Go.Proofs.Ytcaegdfbbjfgpaa

