/- Edits as plain data. -/
import Derived.Test.YthklmdnamkjgmaaKit
namespace Go.Proofs.Ythklmdnamkjgmaa

/-- an edit -/
structure Ed where
  a : Int
  O : List UInt8
  N : List UInt8
theorem Ed.ext' {x y : Ed} (h1 : x.a = y.a) (h2 : x.O = y.O) (h3 : x.N = y.N) : x = y := by cases x; cases y; simp_all
/-- does the edit fit the text? -/
def fitB (T : List UInt8) (d : Ed) : Bool := decide (0 ≤ d.a) && decide (d.a ≤ (T.length : Int)) && ((T.drop d.a.toNat).take d.O.length == d.O)
theorem fitB_iff {T : List UInt8} {d : Ed} : fitB T d = true ↔ ∃ p : Nat, d.a = (p : Int) ∧ p ≤ T.length ∧ (T.drop p).take d.O.length = d.O := by
  unfold fitB
  simp only [Bool.and_eq_true, decide_eq_true_eq, beq_iff_eq]
  constructor
  · rintro ⟨⟨h1, h2⟩, h3⟩
    exact ⟨d.a.toNat, by omega, by omega, h3⟩
  · rintro ⟨p, h1, h2, h3⟩
    refine ⟨⟨by omega, by omega⟩, ?_⟩
    rw [h1]; exact h3
theorem fit_len {T : List UInt8} {p : Nat} {O : List UInt8} (hp : p ≤ T.length) (h : (T.drop p).take O.length = O) : p + O.length ≤ T.length := by
  have := congrArg List.length h
  rw [List.length_take, List.length_drop] at this
  omega
/-- the text behind an edit -/
def stp (T : List UInt8) (d : Ed) : List UInt8 := T.take d.a.toNat ++ d.N ++ T.drop (d.a.toNat + d.O.length)
/-- the text behind edits -/
def app : List UInt8 → List Ed → Option (List UInt8)
  | T, [] => some T
  | T, d :: D => if fitB T d then app (stp T d) D else none
theorem app_append (T : List UInt8) (A B : List Ed) : app T (A ++ B) = (app T A).bind fun U => app U B := by
  induction A generalizing T with
  | nil => rfl
  | cons d A ih =>
    simp only [List.cons_append, app]
    split
    · exact ih _
    · rfl
theorem app_snoc {T U : List UInt8} {D : List Ed} (h : app T D = some U) (d : Ed) : app T (D ++ [d]) = if fitB U d then some (stp U d) else none := by
  rw [app_append, h]
  rfl
theorem stp_len {T : List UInt8} {d : Ed} (h : fitB T d = true) : (stp T d).length + d.O.length = T.length + d.N.length := by
  obtain ⟨p, h1, h2, h3⟩ := fitB_iff.1 h
  have := fit_len h2 h3
  unfold stp
  simp only [List.length_append, List.length_take, List.length_drop]
  omega
/-- how much is added -/
def nsum (D : List Ed) : Nat := (D.map fun d => d.N.length).sum
def osum (D : List Ed) : Nat := (D.map fun d => d.O.length).sum
theorem app_len {T U : List UInt8} {D : List Ed} (h : app T D = some U) : U.length + osum D = T.length + nsum D := by
  induction D generalizing T with
  | nil => simp [app] at h; subst h; simp [osum, nsum]
  | cons d D ih =>
    simp only [app] at h
    split at h
    · rename_i hf
      have h1 := ih h
      have h2 := stp_len hf
      simp only [osum, nsum, List.map_cons, List.sum_cons] at h1 ⊢
      omega
    · cases h
/-- an edit taken back -/
def swp (d : Ed) : Ed := ⟨d.a, d.N, d.O⟩
def inv (D : List Ed) : List Ed := (D.map swp).reverse
theorem swp_swp (d : Ed) : swp (swp d) = d := rfl
theorem inv_inv (D : List Ed) : inv (inv D) = D := by
  unfold inv
  rw [List.map_reverse, List.reverse_reverse, List.map_map]
  conv => rhs; rw [← List.map_id D]
  rfl
theorem inv_cons (d : Ed) (D : List Ed) : inv (d :: D) = inv D ++ [swp d] := by simp [inv]
theorem inv_length (D : List Ed) : (inv D).length = D.length := by simp [inv]
theorem fit_back {T : List UInt8} {d : Ed} (h : fitB T d = true) : fitB (stp T d) (swp d) = true ∧ stp (stp T d) (swp d) = T := by
  obtain ⟨p, h1, h2, h3⟩ := fitB_iff.1 h
  have hl := fit_len h2 h3
  obtain ⟨a, O, N⟩ := d
  dsimp only at h1 h3 hl
  subst h1
  have e1 : stp T ⟨(p : Int), O, N⟩ = T.take p ++ N ++ T.drop (p + O.length) := rfl
  have hp : (T.take p).length = p := by rw [List.length_take]; omega
  have e2 : (stp T ⟨(p : Int), O, N⟩).drop p = N ++ T.drop (p + O.length) := by rw [e1, List.append_assoc, List.drop_left' hp]
  constructor
  · refine fitB_iff.2 ⟨p, rfl, by rw [e1]; simp only [List.length_append]; omega, ?_⟩
    show ((stp T ⟨(p : Int), O, N⟩).drop p).take N.length = N
    rw [e2, List.take_left' rfl]
  · show (stp T ⟨(p : Int), O, N⟩).take p ++ O ++ (stp T ⟨(p : Int), O, N⟩).drop (p + N.length) = T
    have e3 : O ++ (T.drop p).drop O.length = T.drop p := by
      rw [show O ++ (T.drop p).drop O.length = (T.drop p).take O.length ++ (T.drop p).drop O.length by rw [h3]]
      exact List.take_append_drop _ _
    rw [← List.drop_drop, e2, List.drop_left' rfl, e1, List.append_assoc (T.take p), List.take_left' hp, List.append_assoc, ← List.drop_drop, e3, List.take_append_drop]
theorem app_back {T U : List UInt8} {D : List Ed} (h : app T D = some U) : app U (inv D) = some T := by
  induction D generalizing T with
  | nil => simp [app] at h; subst h; rfl
  | cons d D ih =>
    simp only [app] at h
    split at h
    · rename_i hf
      obtain ⟨h1, h2⟩ := fit_back hf
      rw [inv_cons, app_snoc (ih h), if_pos h1, h2]
    · cases h
/-- how many bytes two lists begin with in common -/
def cb : List UInt8 → List UInt8 → Nat
  | x :: a, y :: b => if x = y then cb a b + 1 else 0
  | [], _ => 0
  | _ :: _, [] => 0
theorem cb_le (a b : List UInt8) : cb a b ≤ a.length ∧ cb a b ≤ b.length := by
  induction a generalizing b with
  | nil => simp [cb]
  | cons x a ih =>
    cases b with
    | nil => simp [cb]
    | cons y b =>
      unfold cb
      split
      · have := ih b; simp only [List.length_cons]; omega
      · simp
theorem cb_take (a b : List UInt8) : a.take (cb a b) = b.take (cb a b) := by
  induction a generalizing b with
  | nil => simp [cb]
  | cons x a ih =>
    cases b with
    | nil => simp [cb]
    | cons y b =>
      unfold cb
      split
      · rename_i h; subst h; rw [List.take_succ_cons, List.take_succ_cons, ih b]
      · simp
theorem at8_cons_zero (x : UInt8) (a : List UInt8) : at8 (x :: a) 0 = x := rfl
theorem at8_cons_succ (x : UInt8) (a : List UInt8) (i : Nat) : at8 (x :: a) (i + 1) = at8 a i := rfl
theorem cb_stop (a b : List UInt8) : cb a b = a.length ∨ cb a b = b.length ∨ at8 a (cb a b) ≠ at8 b (cb a b) := by
  induction a generalizing b with
  | nil => simp [cb]
  | cons x a ih =>
    cases b with
    | nil => simp [cb]
    | cons y b =>
      unfold cb
      split
      · rename_i h
        subst h
        simp only [List.length_cons, at8_cons_succ]
        rcases ih b with h | h | h
        · left; omega
        · right; left; omega
        · right; right; exact h
      · rename_i h
        right; right; exact h
theorem cb_is {a b : List UInt8} {k : Nat} (h1 : k ≤ a.length) (h2 : k ≤ b.length) (h3 : ∀ i, i < k → at8 a i = at8 b i) (h4 : k = a.length ∨ k = b.length ∨ at8 a k ≠ at8 b k) : cb a b = k := by
  induction a generalizing b k with
  | nil => simp at h1; subst h1; simp [cb]
  | cons x a ih =>
    cases b with
    | nil => simp at h2; subst h2; simp [cb]
    | cons y b =>
      unfold cb
      cases k with
      | zero =>
        rcases h4 with h | h | h
        · simp at h
        · simp at h
        · rw [if_neg (by simpa only [at8_cons_zero] using h)]
      | succ k =>
        have h0 := h3 0 (by omega)
        rw [at8_cons_zero, at8_cons_zero] at h0
        rw [if_pos h0, ih (k := k) (by simpa using h1) (by simpa using h2) (fun i hi => by have := h3 (i + 1) (by omega); simpa only [at8_cons_succ] using this) (by simpa only [List.length_cons, at8_cons_succ, Nat.add_right_cancel_iff] using h4)]
theorem cb_self_eq {a b : List UInt8} (h1 : cb a b = a.length) (h2 : cb a b = b.length) : a = b := by
  have := cb_take a b
  rwa [h1, List.take_of_length_le (Nat.le_refl _), ← h1, h2, List.take_of_length_le (Nat.le_refl _)] at this
theorem cb_drop (a b : List UInt8) : cb (a.drop (cb a b)) (b.drop (cb a b)) = 0 := by
  refine cb_is (Nat.zero_le _) (Nat.zero_le _) (fun i hi => by omega) ?_
  rcases cb_stop a b with h | h | h
  · left; rw [h]; simp
  · right; left; rw [h]; simp
  · right; right
    have e : ∀ (l : List UInt8) (i : Nat), at8 (l.drop i) 0 = at8 l i := fun l i => by simp [at8, List.getD]
    rw [e, e]; exact h
theorem cb_same (a : List UInt8) : cb a a = a.length := cb_is (Nat.le_refl _) (Nat.le_refl _) (fun _ _ => rfl) (.inl rfl)
/-- how many they end with in common -/
def ce (a b : List UInt8) : Nat := cb a.reverse b.reverse
theorem ce_le (a b : List UInt8) : ce a b ≤ a.length ∧ ce a b ≤ b.length := by
  have := cb_le a.reverse b.reverse
  simpa [ce] using this
theorem ce_drop (a b : List UInt8) : a.drop (a.length - ce a b) = b.drop (b.length - ce a b) := by
  have h := cb_take a.reverse b.reverse
  rw [List.take_reverse, List.take_reverse] at h
  have := congrArg List.reverse h
  simpa [ce] using this
/-- an edit cut down; its place too great an int goes around -/
def cut (d : Ed) : Ed :=
  let n := cb d.O d.N
  let A := d.O.drop n
  let B := d.N.drop n
  ⟨IntKind.i64.wrap (d.a + (n : Int)), A.take (A.length - ce A B), B.take (B.length - ce A B)⟩
def trim (D : List Ed) : List Ed := (D.filter fun d => d.O != d.N).map cut
end Go.Proofs.Ythklmdnamkjgmaa
