/- A list of bytes in memory (Tx). -/
import Derived.Outline
import Derived.Shelf.Bytes.SlCountOne
import Derived.Test.YtaahklapoppgaaaRows
import Derived.Lib.Bytealg
import Derived.WalkKit
import Derived.WalkLawsBesides
import Derived.WalkSpells
import Derived.ArgAppend
import Derived.Maps.AppendAt
namespace Go.Proofs.Ytaahklapoppgaaa
open Go.RowKit

/-- byte number i, 0 beyond the end -/
def at8 (t : List UInt8) (i : Nat) : UInt8 := t.getD i 0
theorem at8_eq {t : List UInt8} {i : Nat} (h : i < t.length) : at8 t i = t[i] := by simp [at8, h]
/-- A fact that is no rewrite rule. -/
def Hid (p : Prop) : Prop := p
theorem Hid.out {p : Prop} (h : Hid p) : p := h
theorem Hid.mk' {p : Prop} (h : p) : Hid p := h
theorem mkH {p : Prop} (h : p) : Hid p := h

/-- The value '.slice ao n c' reads as the bytes l. -/
structure Tx (w : World) (ao : Option Addr) (n c : Nat) (l : List UInt8) : Prop where
  len : l.length = n
  cap : n ≤ c
  big : n ≤ 150000000000000
  nil : ao = none → c = 0
  cells : ∀ a, ao = some a → ∀ j, j < n → w.cell? (a.add j) = some (.int .u8 ((at8 l j).toNat : Int))

theorem lt_of_cell {w : World} {a : Addr} {v : Value} (h : w.cell? a = some v) : a.block < w.heap.size := by
  rcases Nat.lt_or_ge a.block w.heap.size with h' | h'
  · exact h'
  · simp [World.cell?, Array.getElem?_eq_none h'] at h
theorem Tx.keep {w w' : World} {ao : Option Addr} {n c : Nat} {l : List UInt8} (h : Tx w ao n c l) (hb : Below w.heap.size w w') : Tx w' ao n c l :=
  ⟨h.len, h.cap, h.big, h.nil, fun a ha j hj => by have h1 := h.cells a ha j hj; rw [hb.cell (lt_of_cell h1)]; exact h1⟩
theorem bAlloc {w W : World} (h : Below w.heap.size w W) (o : Obj) : Below w.heap.size w (W.alloc o) := h.alloc h.size o
theorem add_none (g o j : Nat) : (⟨g, o, none⟩ : Addr).add j = ⟨g, o + j, none⟩ := by unfold Addr.add; split <;> simp_all
theorem Tx.at {w : World} {ao : Option Addr} {n c : Nat} {l : List UInt8} (h : Tx w ao n c l) (hn : 0 < n) :
    ∃ g o, ao = some ⟨g, o, none⟩ ∧ ∀ j, j < n → w.cell? ⟨g, o + j, none⟩ = some (.int .u8 ((at8 l j).toNat : Int)) := by
  cases ao with
  | none => have := h.nil rfl; have := h.cap; omega
  | some a =>
    have h0 := h.cells a rfl 0 hn
    obtain ⟨g, o, s⟩ := a
    have hs : s = none := by simpa [Addr.add] using World.cell?_spot h0
    subst hs
    exact ⟨g, o, rfl, fun j hj => by have := h.cells _ rfl j hj; rwa [add_none] at this⟩

theorem bT {a b c : World} (h1 : Below a.heap.size a b) (h2 : Below b.heap.size b c) : Below a.heap.size a c := h1.trans (h2.mono h1.size)
theorem tx_nil (w : World) : Tx w none 0 0 [] := ⟨rfl, Nat.le_refl _, by omega, fun _ => rfl, fun a ha => by cases ha⟩
theorem Tx.none {w : World} {n c : Nat} {l : List UInt8} (h : Tx w none n c l) : n = 0 ∧ c = 0 ∧ l = [] := by
  have h1 := h.nil rfl
  have h2 := h.cap
  have h3 := h.len
  exact ⟨by omega, h1, List.eq_nil_of_length_eq_zero (by omega)⟩


/-- bytes as numbers -/
def nums (l : List UInt8) : List Int := l.map fun b => (b.toNat : Int)
theorem nums_length (l : List UInt8) : (nums l).length = l.length := by simp [nums]
theorem nums_getD (l : List UInt8) (i : Nat) (h : i < l.length) : (nums l).getD i 0 = ((at8 l i).toNat : Int) := by simp [nums, at8, h, List.getD]
theorem bytesOf_nums (l : List UInt8) : Lib.bytesOf (nums l) = l := by
  unfold Lib.bytesOf nums
  rw [List.map_map]
  conv => rhs; rw [← List.map_id l]
  apply List.map_congr_left
  intro b _
  simp
theorem Tx.hc {w : World} {a : Addr} {n c : Nat} {l : List UInt8} (h : Tx w (some a) n c l) : ∀ i, i < n → w.cell? (a.add i) = some (.int .u8 ((nums l).getD i 0)) := by
  intro i hi
  rw [h.cells a rfl i hi, nums_getD l i (by rw [h.len]; exact hi)]

end Go.Proofs.Ytaahklapoppgaaa

/- Edits as plain data. -/
namespace Go.Proofs.Ytaahklapoppgaaa

/-- an edit -/
structure Ed where
  a : Int
  O : List UInt8
  N : List UInt8
theorem Ed.ext' {x y : Ed} (h1 : x.a = y.a) (h2 : x.O = y.O) (h3 : x.N = y.N) : x = y := by cases x; cases y; simp_all
/-- does the edit fit the text? -/
def fitB (T : List UInt8) (d : Ed) : Bool := decide (0 ≤ d.a) && decide (d.a ≤ (T.length : Int)) && ((T.drop d.a.toNat).take d.O.length == d.O)
theorem fitB_iff {T : List UInt8} {d : Ed} : fitB T d = true ↔ ∃ p : Nat, d.a = (p : Int) ∧ p ≤ T.length ∧ (T.drop p).take d.O.length = d.O := by
  unfold fitB
  simp only [Bool.and_eq_true, decide_eq_true_eq, beq_iff_eq]
  constructor
  · rintro ⟨⟨h1, h2⟩, h3⟩
    exact ⟨d.a.toNat, by omega, by omega, h3⟩
  · rintro ⟨p, h1, h2, h3⟩
    refine ⟨⟨by omega, by omega⟩, ?_⟩
    rw [h1]; exact h3
theorem fit_len {T : List UInt8} {p : Nat} {O : List UInt8} (hp : p ≤ T.length) (h : (T.drop p).take O.length = O) : p + O.length ≤ T.length := by
  have := congrArg List.length h
  rw [List.length_take, List.length_drop] at this
  omega
/-- the text behind an edit -/
def stp (T : List UInt8) (d : Ed) : List UInt8 := T.take d.a.toNat ++ d.N ++ T.drop (d.a.toNat + d.O.length)
/-- the text behind edits -/
def app : List UInt8 → List Ed → Option (List UInt8)
  | T, [] => some T
  | T, d :: D => if fitB T d then app (stp T d) D else none
theorem app_append (T : List UInt8) (A B : List Ed) : app T (A ++ B) = (app T A).bind fun U => app U B := by
  induction A generalizing T with
  | nil => rfl
  | cons d A ih =>
    simp only [List.cons_append, app]
    split
    · exact ih _
    · rfl
theorem app_snoc {T U : List UInt8} {D : List Ed} (h : app T D = some U) (d : Ed) : app T (D ++ [d]) = if fitB U d then some (stp U d) else none := by
  rw [app_append, h]
  rfl
theorem stp_len {T : List UInt8} {d : Ed} (h : fitB T d = true) : (stp T d).length + d.O.length = T.length + d.N.length := by
  obtain ⟨p, h1, h2, h3⟩ := fitB_iff.1 h
  have := fit_len h2 h3
  unfold stp
  simp only [List.length_append, List.length_take, List.length_drop]
  omega
/-- how much is added -/
def nsum (D : List Ed) : Nat := (D.map fun d => d.N.length).sum
def osum (D : List Ed) : Nat := (D.map fun d => d.O.length).sum
theorem app_len {T U : List UInt8} {D : List Ed} (h : app T D = some U) : U.length + osum D = T.length + nsum D := by
  induction D generalizing T with
  | nil => simp [app] at h; subst h; simp [osum, nsum]
  | cons d D ih =>
    simp only [app] at h
    split at h
    · rename_i hf
      have h1 := ih h
      have h2 := stp_len hf
      simp only [osum, nsum, List.map_cons, List.sum_cons] at h1 ⊢
      omega
    · cases h
/-- an edit taken back -/
def swp (d : Ed) : Ed := ⟨d.a, d.N, d.O⟩
def inv (D : List Ed) : List Ed := (D.map swp).reverse
theorem swp_swp (d : Ed) : swp (swp d) = d := rfl
theorem inv_inv (D : List Ed) : inv (inv D) = D := by
  unfold inv
  rw [List.map_reverse, List.reverse_reverse, List.map_map]
  conv => rhs; rw [← List.map_id D]
  rfl
theorem inv_cons (d : Ed) (D : List Ed) : inv (d :: D) = inv D ++ [swp d] := by simp [inv]
theorem inv_length (D : List Ed) : (inv D).length = D.length := by simp [inv]
theorem fit_back {T : List UInt8} {d : Ed} (h : fitB T d = true) : fitB (stp T d) (swp d) = true ∧ stp (stp T d) (swp d) = T := by
  obtain ⟨p, h1, h2, h3⟩ := fitB_iff.1 h
  have hl := fit_len h2 h3
  obtain ⟨a, O, N⟩ := d
  dsimp only at h1 h3 hl
  subst h1
  have e1 : stp T ⟨(p : Int), O, N⟩ = T.take p ++ N ++ T.drop (p + O.length) := rfl
  have hp : (T.take p).length = p := by rw [List.length_take]; omega
  have e2 : (stp T ⟨(p : Int), O, N⟩).drop p = N ++ T.drop (p + O.length) := by rw [e1, List.append_assoc, List.drop_left' hp]
  constructor
  · refine fitB_iff.2 ⟨p, rfl, by rw [e1]; simp only [List.length_append]; omega, ?_⟩
    show ((stp T ⟨(p : Int), O, N⟩).drop p).take N.length = N
    rw [e2, List.take_left' rfl]
  · show (stp T ⟨(p : Int), O, N⟩).take p ++ O ++ (stp T ⟨(p : Int), O, N⟩).drop (p + N.length) = T
    have e3 : O ++ (T.drop p).drop O.length = T.drop p := by
      rw [show O ++ (T.drop p).drop O.length = (T.drop p).take O.length ++ (T.drop p).drop O.length by rw [h3]]
      exact List.take_append_drop _ _
    rw [← List.drop_drop, e2, List.drop_left' rfl, e1, List.append_assoc (T.take p), List.take_left' hp, List.append_assoc, ← List.drop_drop, e3, List.take_append_drop]
theorem app_back {T U : List UInt8} {D : List Ed} (h : app T D = some U) : app U (inv D) = some T := by
  induction D generalizing T with
  | nil => simp [app] at h; subst h; rfl
  | cons d D ih =>
    simp only [app] at h
    split at h
    · rename_i hf
      obtain ⟨h1, h2⟩ := fit_back hf
      rw [inv_cons, app_snoc (ih h), if_pos h1, h2]
    · cases h
/-- how many bytes two lists begin with in common -/
def cb : List UInt8 → List UInt8 → Nat
  | x :: a, y :: b => if x = y then cb a b + 1 else 0
  | [], _ => 0
  | _ :: _, [] => 0
theorem cb_le (a b : List UInt8) : cb a b ≤ a.length ∧ cb a b ≤ b.length := by
  induction a generalizing b with
  | nil => simp [cb]
  | cons x a ih =>
    cases b with
    | nil => simp [cb]
    | cons y b =>
      unfold cb
      split
      · have := ih b; simp only [List.length_cons]; omega
      · simp
theorem cb_take (a b : List UInt8) : a.take (cb a b) = b.take (cb a b) := by
  induction a generalizing b with
  | nil => simp [cb]
  | cons x a ih =>
    cases b with
    | nil => simp [cb]
    | cons y b =>
      unfold cb
      split
      · rename_i h; subst h; rw [List.take_succ_cons, List.take_succ_cons, ih b]
      · simp
theorem at8_cons_zero (x : UInt8) (a : List UInt8) : at8 (x :: a) 0 = x := rfl
theorem at8_cons_succ (x : UInt8) (a : List UInt8) (i : Nat) : at8 (x :: a) (i + 1) = at8 a i := rfl
theorem cb_stop (a b : List UInt8) : cb a b = a.length ∨ cb a b = b.length ∨ at8 a (cb a b) ≠ at8 b (cb a b) := by
  induction a generalizing b with
  | nil => simp [cb]
  | cons x a ih =>
    cases b with
    | nil => simp [cb]
    | cons y b =>
      unfold cb
      split
      · rename_i h
        subst h
        simp only [List.length_cons, at8_cons_succ]
        rcases ih b with h | h | h
        · left; omega
        · right; left; omega
        · right; right; exact h
      · rename_i h
        right; right; exact h
theorem cb_is {a b : List UInt8} {k : Nat} (h1 : k ≤ a.length) (h2 : k ≤ b.length) (h3 : ∀ i, i < k → at8 a i = at8 b i) (h4 : k = a.length ∨ k = b.length ∨ at8 a k ≠ at8 b k) : cb a b = k := by
  induction a generalizing b k with
  | nil => simp at h1; subst h1; simp [cb]
  | cons x a ih =>
    cases b with
    | nil => simp at h2; subst h2; simp [cb]
    | cons y b =>
      unfold cb
      cases k with
      | zero =>
        rcases h4 with h | h | h
        · simp at h
        · simp at h
        · rw [if_neg (by simpa only [at8_cons_zero] using h)]
      | succ k =>
        have h0 := h3 0 (by omega)
        rw [at8_cons_zero, at8_cons_zero] at h0
        rw [if_pos h0, ih (k := k) (by simpa using h1) (by simpa using h2) (fun i hi => by have := h3 (i + 1) (by omega); simpa only [at8_cons_succ] using this) (by simpa only [List.length_cons, at8_cons_succ, Nat.add_right_cancel_iff] using h4)]
theorem cb_self_eq {a b : List UInt8} (h1 : cb a b = a.length) (h2 : cb a b = b.length) : a = b := by
  have := cb_take a b
  rwa [h1, List.take_of_length_le (Nat.le_refl _), ← h1, h2, List.take_of_length_le (Nat.le_refl _)] at this
theorem cb_drop (a b : List UInt8) : cb (a.drop (cb a b)) (b.drop (cb a b)) = 0 := by
  refine cb_is (Nat.zero_le _) (Nat.zero_le _) (fun i hi => by omega) ?_
  rcases cb_stop a b with h | h | h
  · left; rw [h]; simp
  · right; left; rw [h]; simp
  · right; right
    have e : ∀ (l : List UInt8) (i : Nat), at8 (l.drop i) 0 = at8 l i := fun l i => by simp [at8, List.getD]
    rw [e, e]; exact h
theorem cb_same (a : List UInt8) : cb a a = a.length := cb_is (Nat.le_refl _) (Nat.le_refl _) (fun _ _ => rfl) (.inl rfl)
/-- how many they end with in common -/
def ce (a b : List UInt8) : Nat := cb a.reverse b.reverse
theorem ce_le (a b : List UInt8) : ce a b ≤ a.length ∧ ce a b ≤ b.length := by
  have := cb_le a.reverse b.reverse
  simpa [ce] using this
theorem ce_drop (a b : List UInt8) : a.drop (a.length - ce a b) = b.drop (b.length - ce a b) := by
  have h := cb_take a.reverse b.reverse
  rw [List.take_reverse, List.take_reverse] at h
  have := congrArg List.reverse h
  simpa [ce] using this
/-- an edit cut down; its place too great an int goes around -/
def cut (d : Ed) : Ed :=
  let n := cb d.O d.N
  let A := d.O.drop n
  let B := d.N.drop n
  ⟨IntKind.i64.wrap (d.a + (n : Int)), A.take (A.length - ce A B), B.take (B.length - ce A B)⟩
def trim (D : List Ed) : List Ed := (D.filter fun d => d.O != d.N).map cut
end Go.Proofs.Ytaahklapoppgaaa

/- Histories as plain data, towards layer 18: ways up a tree, what two ways share, and the text on every way. -/
namespace Go.Proofs.Ytaahklapoppgaaa

/-- a tree of changes: each one's parent has a lower number -/
def Low (par : Nat → Nat) (k : Nat) : Prop := ∀ i, 0 < i → i < k → par i < i
/-- the way from i up to the beginning, the beginning not among them -/
def wayF (par : Nat → Nat) : Nat → Nat → List Nat
  | 0, _ => []
  | f + 1, i => if i = 0 then [] else i :: wayF par f (par i)
def way (par : Nat → Nat) (i : Nat) : List Nat := wayF par i i
/-- crossing the nodes of l up leads from i to c -/
def Up (par : Nat → Nat) : Nat → List Nat → Nat → Prop
  | i, [], c => i = c
  | i, j :: l, c => j = i ∧ 0 < i ∧ Up par (par i) l c
theorem wayF_up {par : Nat → Nat} {k : Nat} (hp : Low par k) : ∀ f i, i ≤ f → i < k → Up par i (wayF par f i) 0
  | 0, i, h, _ => by have : i = 0 := by omega
                     subst this; rfl
  | f + 1, i, h, hk => by
    unfold wayF
    by_cases e : i = 0
    · rw [if_pos e]; exact e
    · rw [if_neg e]
      have := hp i (by omega) hk
      exact ⟨rfl, by omega, wayF_up hp f (par i) (by omega) (by omega)⟩
theorem wayF_more {par : Nat → Nat} {k : Nat} (hp : Low par k) : ∀ f f' i, i ≤ f → i ≤ f' → i < k → wayF par f i = wayF par f' i
  | 0, f', i, h, _, _ => by
    have : i = 0 := by omega
    subst this
    cases f' with
    | zero => rfl
    | succ f' => unfold wayF; rw [if_pos rfl]
  | f + 1, 0, i, _, h, _ => by
    have : i = 0 := by omega
    subst this
    unfold wayF; rw [if_pos rfl]
  | f + 1, f' + 1, i, h, h', hk => by
    unfold wayF
    by_cases e : i = 0
    · rw [if_pos e, if_pos e]
    · rw [if_neg e, if_neg e]
      have := hp i (by omega) hk
      rw [wayF_more hp f f' (par i) (by omega) (by omega) (by omega)]
theorem way_up {par : Nat → Nat} {k i : Nat} (hp : Low par k) (hk : i < k) : Up par i (way par i) 0 := wayF_up hp i i (Nat.le_refl _) hk
theorem way_zero (par : Nat → Nat) : way par 0 = [] := rfl
theorem way_step {par : Nat → Nat} {k i : Nat} (hp : Low par k) (h0 : 0 < i) (hk : i < k) : way par i = i :: way par (par i) := by
  obtain ⟨j, rfl⟩ : ∃ j, i = j + 1 := ⟨i - 1, by omega⟩
  have := hp (j + 1) h0 hk
  show wayF par (j + 1) (j + 1) = _
  unfold wayF
  rw [if_neg (by omega)]
  congr 1
  exact wayF_more hp j (par (j + 1)) (par (j + 1)) (by omega) (Nat.le_refl _) (by omega)
theorem Up.append {par : Nat → Nat} : ∀ {i : Nat} {a b : List Nat} {c : Nat}, Up par i (a ++ b) c ↔ ∃ d, Up par i a d ∧ Up par d b c
  | i, [], b, c => ⟨fun h => ⟨i, rfl, h⟩, fun ⟨d, h1, h2⟩ => by have : i = d := h1; subst this; exact h2⟩
  | i, j :: a, b, c => by
    constructor
    · rintro ⟨h1, h2, h3⟩
      obtain ⟨d, h4, h5⟩ := Up.append.1 h3
      exact ⟨d, ⟨h1, h2, h4⟩, h5⟩
    · rintro ⟨d, ⟨h1, h2, h3⟩, h4⟩
      exact ⟨h1, h2, Up.append.2 ⟨d, h3, h4⟩⟩
/-- where a way up begins is told by the way -/
theorem Up.head {par : Nat → Nat} {d : Nat} {l : List Nat} (h : Up par d l 0) : d = l.headD 0 := by
  cases l with
  | nil => exact h
  | cons j l => exact h.1.symm
theorem Up.mem {par : Nat → Nat} : ∀ {i : Nat} {l : List Nat} {c : Nat}, Up par i l c → ∀ j ∈ l, 0 < j
  | _, [], _, _, j, hj => by cases hj
  | i, j' :: l, c, ⟨h1, h2, h3⟩, j, hj => by
    rcases List.mem_cons.1 hj with rfl | hj
    · omega
    · exact Up.mem h3 j hj
/-- both ways without what they share at their ends -/
def strip (a b : List Nat) : List Nat × List Nat := match a.reverse, b.reverse with
  | x, y => let s := go x y; (s.1.reverse, s.2.reverse)
where go : List Nat → List Nat → List Nat × List Nat
  | x :: xs, y :: ys => if x = y then go xs ys else (x :: xs, y :: ys)
  | xs, ys => (xs, ys)
theorem strip_go : ∀ x y : List Nat, ∃ s, x = s ++ (strip.go x y).1 ∧ y = s ++ (strip.go x y).2 ∧ ((strip.go x y).1 = [] ∨ (strip.go x y).2 = [] ∨ (strip.go x y).1.head? ≠ (strip.go x y).2.head?)
  | [], y => ⟨[], by unfold strip.go; simp, by unfold strip.go; simp, by unfold strip.go; simp⟩
  | x :: xs, [] => ⟨[], by unfold strip.go; simp, by unfold strip.go; simp, by unfold strip.go; simp⟩
  | x :: xs, y :: ys => by
    by_cases e : x = y
    · subst e
      obtain ⟨s, h1, h2, h3⟩ := strip_go xs ys
      refine ⟨x :: s, ?_, ?_, ?_⟩
      · unfold strip.go; rw [if_pos rfl, List.cons_append, ← h1]
      · unfold strip.go; rw [if_pos rfl, List.cons_append, ← h2]
      · unfold strip.go; rw [if_pos rfl]; exact h3
    · exact ⟨[], by unfold strip.go; rw [if_neg e]; rfl, by unfold strip.go; rw [if_neg e]; rfl, by unfold strip.go; rw [if_neg e]; simp [e]⟩
theorem strip_ok (a b : List Nat) : ∃ s, a = (strip a b).1 ++ s ∧ b = (strip a b).2 ++ s := by
  obtain ⟨s, h1, h2, -⟩ := strip_go a.reverse b.reverse
  refine ⟨s.reverse, ?_, ?_⟩
  · have := congrArg List.reverse h1
    rw [List.reverse_reverse, List.reverse_append] at this
    exact this
  · have := congrArg List.reverse h2
    rw [List.reverse_reverse, List.reverse_append] at this
    exact this
/-- up from i to where both ways meet, and from there down to j -/
theorem path_ok {par : Nat → Nat} {k i j : Nat} (hp : Low par k) (hi : i < k) (hj : j < k) : ∃ c, Up par i (strip (way par i) (way par j)).1 c ∧ Up par j (strip (way par i) (way par j)).2 c := by
  obtain ⟨s, h1, h2⟩ := strip_ok (way par i) (way par j)
  have u1 := way_up hp hi
  have u2 := way_up hp hj
  rw [h1] at u1
  rw [h2] at u2
  obtain ⟨c, a1, a2⟩ := Up.append.1 u1
  obtain ⟨d, b1, b2⟩ := Up.append.1 u2
  have e : c = d := by rw [a2.head, b2.head]
  subst e
  exact ⟨c, a1, b1⟩
/-- texts: each change's edits make its text of its parent's -/
def Tex (par : Nat → Nat) (ed : Nat → List Ed) (tx : Nat → List UInt8) (k : Nat) : Prop := ∀ i, 0 < i → i < k → app (tx (par i)) (ed i) = some (tx i)
theorem app_cat {T U : List UInt8} {A B : List Ed} (h : app T A = some U) : app T (A ++ B) = app U B := by rw [app_append, h]; rfl
/-- all edits of a way up, one behind the other -/
theorem tex_up {par : Nat → Nat} {ed : Nat → List Ed} {tx : Nat → List UInt8} {k : Nat} (hp : Low par k) (ht : Tex par ed tx k) : ∀ {l : List Nat} {i c : Nat}, i < k → Up par i l c → app (tx i) (l.flatMap fun j => inv (ed j)) = some (tx c)
  | [], i, c, _, h => by have : i = c := h
                         subst this; rfl
  | j :: l, i, c, hi, ⟨h1, h2, h3⟩ => by
    subst h1
    have h4 := app_back (ht j h2 hi)
    rw [List.flatMap_cons, app_cat h4]
    exact tex_up hp ht (by have := hp j h2 hi; omega) h3
/-- and of a way down -/
theorem tex_down {par : Nat → Nat} {ed : Nat → List Ed} {tx : Nat → List UInt8} {k : Nat} (hp : Low par k) (ht : Tex par ed tx k) : ∀ {l : List Nat} {i c : Nat}, i < k → Up par i l c → app (tx c) (l.reverse.flatMap ed) = some (tx i)
  | [], i, c, _, h => by have : i = c := h
                         subst this; rfl
  | j :: l, i, c, hi, ⟨h1, h2, h3⟩ => by
    subst h1
    have h4 := tex_down hp ht (by have := hp j h2 hi; omega) h3
    rw [List.reverse_cons, List.flatMap_append, app_cat h4]
    simpa using ht j h2 hi
/-- the edits of a whole path lead from the one text to the other -/
theorem tex_path {par : Nat → Nat} {ed : Nat → List Ed} {tx : Nat → List UInt8} {k i j : Nat} (hp : Low par k) (ht : Tex par ed tx k) (hi : i < k) (hj : j < k) : app (tx i) ((strip (way par i) (way par j)).1.flatMap (fun n => inv (ed n)) ++ (strip (way par i) (way par j)).2.reverse.flatMap ed) = some (tx j) := by
  obtain ⟨c, h1, h2⟩ := path_ok hp hi hj
  rw [app_cat (tex_up hp ht hi h1)]
  exact tex_down hp ht hj h2
end Go.Proofs.Ytaahklapoppgaaa

/- Many rows of the call's own, each in a block of its own: written, grown, made. -/
namespace Go.Proofs.Ytaahklapoppgaaa
open Go.RowKit

theorem own_keep {w w' : World} {base e size n : Nat} {v : Value} {xs : List Value} (h : w.ownsRow base e size v n xs) (hb : Below w.heap.size w w') : w'.ownsRow base e size v n xs := by
  refine ⟨h.1, ?_⟩
  rcases h.2 with h0 | ⟨g, cap, cur, rfl, hb', hg, rest⟩
  · exact .inl h0
  · exact .inr ⟨g, cap, cur, rfl, hb', by rw [hb.block g (Array.getElem?_eq_some_iff.1 hg).1]; exact hg, rest⟩
theorem own_lower {w : World} {base base' e size n : Nat} {v : Value} {xs : List Value} (h : w.ownsRow base e size v n xs) (hb : base' ≤ base) : w.ownsRow base' e size v n xs := by
  refine ⟨h.1, ?_⟩
  rcases h.2 with h0 | ⟨g, cap, cur, rfl, hb', rest⟩
  · exact .inl h0
  · exact .inr ⟨g, cap, cur, rfl, by omega, rest⟩
theorem own_shape {w : World} {base e size n : Nat} {v : Value} {xs : List Value} (h : w.ownsRow base e size v n xs) : ∃ ao cap, v = .slice ao n cap := by
  rcases h.2 with ⟨rfl, rfl⟩ | ⟨g, cap, cur, rfl, _⟩
  · exact ⟨_, _, rfl⟩
  · exact ⟨_, _, rfl⟩
theorem lit_cells (w : World) (cs : Array Value) (e : TypeId) (j : Nat) (u : Value) (h : cs.toList[j]? = some u) : (w.alloc (.cells cs e)).cell? ((⟨w.heap.size, 0, none⟩ : Addr).add j) = some u := by
  rw [add_none, Nat.zero_add, World.cell?_alloc_mark, ← Array.getElem?_toList]; exact h

/-- a and b lie in no block together -/
def Far (a b : Value) : Prop := ∀ g, a.ownBlock = some g → b.ownBlock = some g → False
theorem Far.symm {a b : Value} (h : Far a b) : Far b a := fun g h1 h2 => h g h2 h1
theorem Far.ne {a b : Value} (h : Far a b) : a.ownBlock = none ∨ a.ownBlock ≠ b.ownBlock := by
  cases ha : a.ownBlock with
  | none => exact .inl rfl
  | some g => exact .inr fun e => h g ha e.symm
theorem Far.of {a b : Value} (h : a.ownBlock = none ∨ a.ownBlock ≠ b.ownBlock) : Far a b := fun g h1 h2 => by
  rcases h with h | h
  · rw [h] at h1; cases h1
  · exact h (h1.trans h2.symm)
theorem far_new {w w' : World} {base e s n e' s' n' : Nat} {x y : Value} {xs ys : List Value} (h : w.ownsRow base e s x n xs) (k : w'.ownsRow w.heap.size e' s' y n' ys) : Far x y := fun g h1 h2 => by
  have := (h.lt g h1).2
  have := (k.lt g h2).1
  omega
/-- rows of different types lie apart -/
theorem far_type {w : World} {base e s n base' e' s' n' : Nat} {x y : Value} {xs ys : List Value} (h : w.ownsRow base e s x n xs) (k : w.ownsRow base' e' s' y n' ys) (hne : e ≠ e') : Far x y := fun g h1 h2 => by
  rcases h.2 with ⟨rfl, _⟩ | ⟨g1, c1, u1, rfl, _, hg1, _⟩
  · simp [Value.ownBlock] at h1
  · rcases k.2 with ⟨rfl, _⟩ | ⟨g2, c2, u2, rfl, _, hg2, _⟩
    · simp [Value.ownBlock] at h2
    · simp [Value.ownBlock] at h1 h2
      subst h1 h2
      rw [hg1] at hg2
      simp at hg2
      exact hne hg2.2

structure Rw where
  t : Nat
  s : Nat
  v : Value
  n : Nat
  xs : List Value

structure Rws (w W : World) (R : List Rw) : Prop where
  own : ∀ (i : Nat) (r : Rw), R[i]? = some r → W.ownsRow w.heap.size r.t r.s r.v r.n r.xs
  far : ∀ (i j : Nat) (p q : Rw), i ≠ j → R[i]? = some p → R[j]? = some q → Far p.v q.v
  bel : Below w.heap.size w W

theorem Rws.keep {w W W' : World} {R : List Rw} (h : Rws w W R) (hb : Below W.heap.size W W') : Rws w W' R :=
  ⟨fun i r hi => own_keep (h.own i r hi) hb, h.far, bT h.bel hb⟩
theorem Rws.alloc {w W : World} {R : List Rw} (h : Rws w W R) (o : Obj) : Rws w (W.alloc o) R := h.keep (bAlloc (Below.refl _ _) o)
theorem Rws.drew {w W : World} {R : List Rw} (h : Rws w W R) : Rws w W.drew R := h.keep (Below.refl _ _).drew
theorem Rws.size {w W : World} {R : List Rw} (h : Rws w W R) : w.heap.size ≤ W.heap.size := h.bel.size
theorem Rws.nil (w : World) : Rws w w [] := ⟨fun i r hi => by simp at hi, fun i j p q _ hi => by simp at hi, Below.refl _ _⟩

theorem snoc_at {α : Type} {R : List α} {r x : α} {i : Nat} (h : (R ++ [r])[i]? = some x) : R[i]? = some x ∨ (i = R.length ∧ x = r) := by
  rw [List.getElem?_append] at h
  split at h
  · exact .inl h
  · rename_i hi
    right
    have := (List.getElem?_eq_some_iff.1 h).1
    simp at this
    have e : i = R.length := by omega
    subst e
    simp at h
    exact ⟨rfl, h.symm⟩
/-- one row more, in new memory -/
theorem Rws.new {w W W' : World} {R : List Rw} {t s n : Nat} {v : Value} {xs : List Value} (h : Rws w W R) (hb : Below W.heap.size W W') (ho : W'.ownsRow W.heap.size t s v n xs) : Rws w W' (R ++ [⟨t, s, v, n, xs⟩]) := by
  have hk := h.keep hb
  refine ⟨fun i r hi => ?_, fun i j p q hij hi hj => ?_, hk.bel⟩
  · rcases snoc_at hi with hi | ⟨_, rfl⟩
    · exact hk.own i r hi
    · exact own_lower ho h.size
  · rcases snoc_at hi with hi | ⟨e1, rfl⟩
    · rcases snoc_at hj with hj | ⟨e2, rfl⟩
      · exact h.far i j p q hij hi hj
      · exact far_new (h.own i p hi) ho
    · rcases snoc_at hj with hj | ⟨e2, rfl⟩
      · exact (far_new (h.own j q hj) ho).symm
      · omega
/-- two rows more, in new memory, apart -/
theorem Rws.new2 {w W W' : World} {R : List Rw} {t s n t2 s2 n2 : Nat} {v v2 : Value} {xs xs2 : List Value} (h : Rws w W R) (hb : Below W.heap.size W W') (ho : W'.ownsRow W.heap.size t s v n xs) (ho2 : W'.ownsRow W.heap.size t2 s2 v2 n2 xs2) (hf : v.ownBlock = none ∨ v.ownBlock ≠ v2.ownBlock) : Rws w W' (R ++ [⟨t, s, v, n, xs⟩] ++ [⟨t2, s2, v2, n2, xs2⟩]) := by
  have hk := h.new hb ho
  refine ⟨fun i r hi => ?_, fun i j p q hij hi hj => ?_, hk.bel⟩
  · rcases snoc_at hi with hi | ⟨_, rfl⟩
    · exact hk.own i r hi
    · exact own_lower ho2 h.size
  · have far : ∀ (i : Nat) (p : Rw), (R ++ [⟨t, s, v, n, xs⟩])[i]? = some p → Far p.v v2 := fun i p hi => by
      rcases snoc_at hi with hi | ⟨_, rfl⟩
      · exact far_new (h.own i p hi) ho2
      · exact Far.of hf
    rcases snoc_at hi with hi | ⟨e1, rfl⟩
    · rcases snoc_at hj with hj | ⟨e2, rfl⟩
      · exact hk.far i j p q hij hi hj
      · exact far i p hi
    · rcases snoc_at hj with hj | ⟨e2, rfl⟩
      · exact (far j q hj).symm
      · omega
theorem set_at {α : Type} {R : List α} {r x : α} {i j : Nat} (h : (R.set i r)[j]? = some x) : (j ≠ i ∧ R[j]? = some x) ∨ (j = i ∧ x = r) := by
  rw [List.getElem?_set] at h
  by_cases e : i = j
  · rw [if_pos e] at h
    split at h
    · injection h with h; exact .inr ⟨e.symm, h.symm⟩
    · cases h
  · rw [if_neg e] at h
    exact .inl ⟨Ne.symm e, h⟩
/-- one row is grown -/
theorem Rws.grow {w W W' : World} {R : List Rw} {i : Nat} {r : Rw} {t s n : Nat} {v : Value} {xs : List Value} (h : Rws w W R) (hi : R[i]? = some r) (hg : W.grownBy W' r.v.ownBlock) (ho : W'.ownsRow w.heap.size t s v n xs)
    (hf : v.ownBlock = r.v.ownBlock ∨ ∃ q, v.ownBlock = some q ∧ W.heap.size ≤ q) : Rws w W' (R.set i ⟨t, s, v, n, xs⟩) := by
  have hfar : ∀ j q, j ≠ i → R[j]? = some q → Far q.v v := fun j q hj hq g h1 h2 => by
    rcases hf with e | ⟨k, e, hk⟩
    · exact h.far j i q r hj hq hi g h1 (by rw [← e]; exact h2)
    · have := ((h.own j q hq).lt g h1).2
      rw [e] at h2; simp at h2; omega
  refine ⟨fun j q hj => ?_, fun j k p q hjk hj hk => ?_, h.bel.grown hg h.size (fun k hk => ((h.own i r hi).lt k hk).1)⟩
  · rcases set_at hj with ⟨hne, hj⟩ | ⟨_, rfl⟩
    · exact (h.own j q hj).kept hg (h.far j i q r hne hj hi).ne
    · exact ho
  · rcases set_at hj with ⟨hne, hj⟩ | ⟨e1, rfl⟩
    · rcases set_at hk with ⟨hne2, hk⟩ | ⟨e2, rfl⟩
      · exact h.far j k p q hjk hj hk
      · exact hfar j p hne hj
    · rcases set_at hk with ⟨hne2, hk⟩ | ⟨e2, rfl⟩
      · exact (hfar k q hne2 hk).symm
      · omega
/-- one cell of a row is stored -/
theorem Rws.store {w W : World} {R : List Rw} {i t s g n c : Nat} {xs : List Value} (h : Rws w W R) (hi : R[i]? = some ⟨t, s, .slice (some ⟨g, 0, none⟩) n c, n, xs⟩) (j : Nat) (u : Value) :
    Rws w (W.setCell ⟨g, j, none⟩ u) (R.set i ⟨t, s, .slice (some ⟨g, 0, none⟩) n c, n, xs.set j u⟩) := by
  obtain ⟨h1, h2⟩ := (h.own i _ hi).stored j u
  exact h.grow hi h2 h1 (.inl rfl)

/-- three cells of a row are stored -/
theorem Rws.store3 {w W : World} {R : List Rw} {i t s g n c : Nat} {xs : List Value} (h : Rws w W R) (hi : R[i]? = some ⟨t, s, .slice (some ⟨g, 0, none⟩) n c, n, xs⟩) (j : Nat) (a b d : Value) :
    Rws w (((W.setCell ⟨g, j, none⟩ a).setCell ⟨g, j + 1, none⟩ b).setCell ⟨g, j + 2, none⟩ d) (R.set i ⟨t, s, .slice (some ⟨g, 0, none⟩) n c, n, ((xs.set j a).set (j + 1) b).set (j + 2) d⟩) := by
  have hlt := (List.getElem?_eq_some_iff.1 hi).1
  have h1 := h.store hi j a
  have h2 := h1.store (i := i) (by rw [List.getElem?_set_self hlt]) (j + 1) b
  have h3 := h2.store (i := i) (by rw [List.getElem?_set_self (by simpa using hlt)]) (j + 2) d
  rw [List.set_set, List.set_set] at h3
  exact h3

/-- l is x, grown in its own block, or lies elsewhere -/
def Link (x l : Value) : Prop := (∃ g n m c, x = .slice (some ⟨g, 0, none⟩) n c ∧ l = .slice (some ⟨g, 0, none⟩) m c ∧ n ≤ m) ∨ Far x l
theorem Link.self {W : World} {base e s n : Nat} {x : Value} {xs : List Value} (h : W.ownsRow base e s x n xs) : Link x x := by
  rcases h.2 with ⟨rfl, _⟩ | ⟨g, c, u, rfl, _⟩
  · exact .inr fun g h1 _ => by simp [Value.ownBlock] at h1
  · exact .inl ⟨g, n, n, c, rfl, rfl, Nat.le_refl _⟩
/-- how a list is grown: in place, or in a new block -/
def Grew (W W' : World) (l l' : Value) : Prop := (∃ g n m c, l = .slice (some ⟨g, 0, none⟩) n c ∧ l' = .slice (some ⟨g, 0, none⟩) m c ∧ n ≤ m ∧ W.grownBy W' (some g)) ∨ (∃ q, l'.ownBlock = some q ∧ W.heap.size ≤ q ∧ W.grownBy W' none)
theorem Grew.grown {W W' : World} {l l' : Value} (h : Grew W W' l l') : W.grownBy W' l.ownBlock := by
  rcases h with ⟨g, n, m, c, rfl, rfl, _, h⟩ | ⟨q, _, _, h⟩
  · exact h
  · exact ⟨h.os, h.tape, h.output, h.size, fun k hk _ => h.block k hk (by simp)⟩
theorem Grew.fresh {W W' : World} {l l' : Value} (h : Grew W W' l l') : l'.ownBlock = l.ownBlock ∨ ∃ q, l'.ownBlock = some q ∧ W.heap.size ≤ q := by
  rcases h with ⟨g, n, m, c, rfl, rfl, _, h⟩ | ⟨q, h1, h2, _⟩
  · exact .inl rfl
  · exact .inr ⟨q, h1, h2⟩
theorem own_prefix {W : World} {base e s g n m c : Nat} {xs ys : List Value} (h : W.ownsRow base e s (.slice (some ⟨g, 0, none⟩) m c) m (xs ++ ys)) (hl : xs.length = n * s) (hn : n ≤ m) : W.ownsRow base e s (.slice (some ⟨g, 0, none⟩) n c) n xs := by
  refine ⟨hl, ?_⟩
  rcases h.2 with ⟨h0, _⟩ | ⟨g', c', cur, e1, h1, h2, h3, h4, h5, h6⟩
  · cases h0
  · simp at e1
    obtain ⟨rfl, rfl⟩ := e1
    refine .inr ⟨g, c, cur, rfl, h1, h2, by omega, h4, h5, ?_⟩
    have e : cur.toList.take (n * s) = (cur.toList.take (m * s)).take (n * s) := by
      rw [List.take_take, Nat.min_eq_left (Nat.mul_le_mul_right s hn)]
    rw [e, h6, ← hl, List.take_left]
/-- a list that began as a row is grown: the rows stay -/
theorem Rws.link {w W W' : World} {R : List Rw} {i : Nat} {r : Rw} {l l' : Value} {m : Nat} {ys : List Value} (h : Rws w W R) (hi : R[i]? = some r) (hl : Link r.v l) (hf : ∀ j q, j ≠ i → R[j]? = some q → Far q.v l)
    (hg : Grew W W' l l') (hB : ∀ k, l.ownBlock = some k → w.heap.size ≤ k) (ho : W'.ownsRow w.heap.size r.t r.s l' m (r.xs ++ ys)) : Rws w W' R ∧ Link r.v l' ∧ ∀ j q, j ≠ i → R[j]? = some q → Far q.v l' := by
  have hgr := hg.grown
  have hfr := hg.fresh
  have hnew : ∀ (j : Nat) (q : Rw), R[j]? = some q → Far q.v l → Far q.v l' := fun j q hj hq g h1 h2 => by
    rcases hfr with e | ⟨k, e, hk⟩
    · exact hq g h1 (by rw [← e]; exact h2)
    · have := ((h.own j q hj).lt g h1).2
      rw [e] at h2; simp at h2; omega
  have hown := h.own i r hi
  refine ⟨⟨fun j q hj => ?_, h.far, h.bel.grown hgr h.size hB⟩, ?_, fun j q hne hj => hnew j q hj (hf j q hne hj)⟩
  · by_cases e : j = i
    · subst e
      rw [hi] at hj
      injection hj with hj
      subst hj
      rcases hl with ⟨g, n0, m0, c, e1, e2, hn⟩ | hl
      · rcases hg with ⟨g', a, b, c', e3, e4, hab, hgg⟩ | ⟨q, _, _, hgg⟩
        · rw [e2] at e3
          simp at e3
          obtain ⟨rfl, rfl, rfl⟩ := e3
          have hn0 : r.n = n0 := by
            rcases hown.2 with ⟨e5, _⟩ | ⟨g5, c5, u5, e5, _⟩
            · rw [e1] at e5; cases e5
            · rw [e1] at e5; simp at e5; exact e5.2.1.symm
          have hmb : m = b := by
            rcases ho.2 with ⟨e5, _⟩ | ⟨g5, c5, u5, e5, _⟩
            · rw [e4] at e5; cases e5
            · rw [e4] at e5; simp at e5; exact e5.2.1.symm
          subst hmb
          rw [e4] at ho
          rw [e1, hn0]
          exact own_prefix ho (by rw [hown.1, hn0]) (by omega)
        · exact hown.kept hgg (by cases r.v.ownBlock <;> simp)
      · exact hown.kept hgr hl.ne
    · exact (h.own j q hj).kept hgr (hf j q e hj).ne
  · rcases hl with ⟨g, n0, m0, c, e1, e2, hn⟩ | hl
    · rcases hg with ⟨g', a, b, c', e3, e4, hab, hgg⟩ | ⟨q, h1, h2, _⟩
      · rw [e2] at e3
        simp at e3
        obtain ⟨rfl, rfl, rfl⟩ := e3
        exact .inl ⟨g, n0, b, c, e1, e4, by omega⟩
      · refine .inr fun k hk1 hk2 => ?_
        have := (hown.lt k hk1).2
        rw [h1] at hk2; simp at hk2; omega
    · exact .inr (hnew i r hi hl)

/-- append, of one value or more, to a list that is owned -/
theorem append_grew {w : World} {ops : Array Oper} {rest : List Oper} {o : Oper} {a : Act} {Q : Exit → Act → World → Prop} (hgd : o.guard = none) (s x : Operand) (t : Nat)
    (ho : o.op = .call { callee := .builtin .append, args := #[s, x], argTypes := #[t, t] })
    (base e : Nat) (i : TypeInfo) (z : Value) (size bytes : Nat) (ht : Try.prog.underlying t = some (.slice e)) (hi : Try.prog.info? e = some i) (hz : i.zero = some z) (hsize : i.size = size) (hby : i.bytes = bytes) (hzs : z.cells.size = size) (hsz : 0 < size)
    (v : Value) (n : Nat) (xs : List Value) (hs : a.eval s = v) (hown : w.ownsRow base e size v n xs)
    (ad : Addr) (m c : Nat) (news : List Value) (hx : a.eval x = .slice (some ad) m c) (hl : news.length = m * size) (hm : 1 ≤ m)
    (hnews : ∀ j u, news[j]? = some u → w.cell? (ad.add j) = some u) (h1 : ∀ u ∈ news, u.oneCell' = true) (h63 : n + m ≤ maxLen) (hb : (n + m) * bytes ≤ 140737488355328) (hbase : base ≤ w.heap.size)
    (h : ∀ v' w', w'.ownsRow base e size v' (n + m) (xs ++ news) → Grew w w' v v' → wpList Try.prog ops Q rest (a.put o.dst v') w') :
    wpList Try.prog ops Q (o :: rest) a w := by
  have fresh : ∀ {v' : Value} {w' : World}, w'.ownsRow w.heap.size e size v' (n + m) (xs ++ news) → ∃ q, v'.ownBlock = some q ∧ w.heap.size ≤ q := by
    intro v' w' h'
    rcases h'.2 with ⟨_, h0⟩ | ⟨g, cap, cur, rfl, hb, _⟩
    · omega
    · exact ⟨g, rfl, hb⟩
  rcases hown.2 with ⟨hv, h0⟩ | ⟨g, cap, cur, hv, hg1, hg2, hg3, hg4, hg5, hg6⟩
  · subst hv
    subst h0
    have hxs : xs = [] := List.eq_nil_of_length_eq_zero (by have := hown.1; omega)
    subst hxs
    refine wpList_append_grows w hgd s x t ho e i z size bytes ht hi hz hsize hby hzs hsz none 0 0 [] hs (fun _ => ⟨rfl, rfl⟩) (by simp) (fun b hb => by cases hb) ad m c news hx hl hnews h1 (by omega) h63 hb ?_
    intro v' w' h2 h3
    obtain ⟨q, hq1, hq2⟩ := fresh h2
    exact h v' w' (own_lower h2 hbase) (.inr ⟨q, hq1, hq2, h3⟩)
  · subst hv
    by_cases hroom : n + m ≤ cap
    · refine wpList_append_fits w hgd s x t ho base e i size ht hi hsize g n cap xs hs hown ad m c news hx hl hnews h1 hroom ?_
      intro w' h2 h3
      exact h _ w' h2 (.inl ⟨g, n, n + m, cap, rfl, rfl, by omega, h3⟩)
    · refine wpList_append_grows w hgd s x t ho e i z size bytes ht hi hz hsize hby hzs hsz (some ⟨g, 0, none⟩) n cap xs hs (fun hh => by cases hh) hown.1 (fun b hb j u hu => by cases hb; exact hown.cells rfl j u hu) ad m c news hx hl hnews h1 (by omega) h63 hb ?_
      intro v' w' h2 h3
      obtain ⟨q, hq1, hq2⟩ := fresh h2
      exact h v' w' (own_lower h2 hbase) (.inr ⟨q, hq1, hq2, h3⟩)

/-- cells that can be appended -/
def Srv (w : World) (u : Value) (m : Nat) (news : List Value) : Prop := (u = .slice none 0 0 ∧ m = 0 ∧ news = []) ∨ ∃ ad c, u = .slice (some ad) m c ∧ ∀ (j : Nat) (t : Value), news[j]? = some t → w.cell? (ad.add j) = some t
theorem own_srv {w : World} {base e s n : Nat} {v : Value} {xs : List Value} (h : w.ownsRow base e s v n xs) : Srv w v n xs := by
  rcases h.2 with ⟨rfl, h0⟩ | ⟨g, cap, cur, rfl, hb, hg, _⟩
  · subst h0
    exact .inl ⟨rfl, rfl, List.eq_nil_of_length_eq_zero (by have := h.1; omega)⟩
  · exact .inr ⟨⟨g, 0, none⟩, cap, rfl, h.cells rfl⟩
theorem Srv.keep {w w' : World} {u : Value} {m : Nat} {news : List Value} (h : Srv w u m news) (hb : Below w.heap.size w w') : Srv w' u m news := by
  rcases h with h | ⟨ad, c, hu, h⟩
  · exact .inl h
  · refine .inr ⟨ad, c, hu, fun j t hj => ?_⟩
    have hc := h j t hj
    rw [hb.cell (World.block_lt_of_cell? w _ hc)]; exact hc
/-- append of whatever there is, to a list that is owned -/
theorem append_srv {w : World} {ops : Array Oper} {rest : List Oper} {o : Oper} {a : Act} {Q : Exit → Act → World → Prop} (hgd : o.guard = none) (s x : Operand) (t : Nat)
    (ho : o.op = .call { callee := .builtin .append, args := #[s, x], argTypes := #[t, t] })
    (base e : Nat) (i : TypeInfo) (z : Value) (size bytes : Nat) (ht : Try.prog.underlying t = some (.slice e)) (hi : Try.prog.info? e = some i) (hz : i.zero = some z) (hsize : i.size = size) (hby : i.bytes = bytes) (hzs : z.cells.size = size) (hsz : 0 < size)
    (v : Value) (n : Nat) (xs : List Value) (hs : a.eval s = v) (hown : w.ownsRow base e size v n xs)
    (u : Value) (m : Nat) (news : List Value) (hx : a.eval x = u) (hsrc : Srv w u m news) (hl : news.length = m * size)
    (h1 : ∀ u ∈ news, u.oneCell' = true) (h63 : n + m ≤ maxLen) (hb : (n + m) * bytes ≤ 140737488355328) (hbase : base ≤ w.heap.size)
    (h : ∀ v' w', w'.ownsRow base e size v' (n + m) (xs ++ news) → w.grownBy w' v.ownBlock → (v'.ownBlock = v.ownBlock ∨ ∃ q, v'.ownBlock = some q ∧ w.heap.size ≤ q) → wpList Try.prog ops Q rest (a.put o.dst v') w') :
    wpList Try.prog ops Q (o :: rest) a w := by
  rcases hsrc with ⟨hu, h0, h2⟩ | ⟨ad, c, hu, hcell⟩
  · subst hu h0 h2
    refine wpList_plain hgd fun K hK => ?_
    have hrun := run_append_owned_none (P := Try.prog) (w := w) base t o.type e i size ht hi v n xs hown
    unfold Oper.wp
    simp [execOp, ho, resolve, invoke, builtin, hs, hx, hrun, Result.andThen]
    exact hK _ _ (h v w (by simpa using hown) ⟨rfl, rfl, rfl, Nat.le_refl _, fun _ _ _ => rfl⟩ (.inl rfl))
  · subst hu
    refine wpList_append_own_at _ hgd s x t ho base e i z size bytes ht hi hz hsize hby hzs hsz v n xs hs hown ad m c news hx hl hcell h1 h63 hb hbase ?_
    intro v' w' g1 g2 _ g4
    refine h v' w' g1 g2 ?_
    rcases g4 with e | e
    · exact .inl e
    · exact .inr ⟨_, e, Nat.le_refl _⟩
end Go.Proofs.Ytaahklapoppgaaa

