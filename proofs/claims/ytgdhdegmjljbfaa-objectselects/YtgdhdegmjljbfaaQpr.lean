/- A line's quotes and their pairs, as plain lists; no program. -/
import Derived.Test.YtgdhdegmjljbfaaBpr
import Derived.Test.YtgdhdegmjljbfaaLine
namespace Go.Proofs.Ytgdhdegmjljbfaa
/-- an even number of backslashes stands right ahead of i -/
def pln (L : List UInt8) : Nat → Bool
  | 0 => true
  | i + 1 => (bi L i != 92) || !(pln L i)
def isq (L : List UInt8) (q : Int) (i : Nat) : Bool := (bi L i == q) && pln L i
/-- the quotes among the first k bytes -/
def qs (L : List UInt8) (q : Int) (k : Nat) : List Nat := (List.range k).filter (isq L q)
theorem qs_yes {L : List UInt8} {q : Int} {k : Nat} (h : isq L q k = true) : qs L q (k + 1) = qs L q k ++ [k] := by
  unfold qs; rw [List.range_succ, List.filter_append]; simp [h]
theorem qs_no {L : List UInt8} {q : Int} {k : Nat} (h : isq L q k = false) : qs L q (k + 1) = qs L q k := by
  unfold qs; rw [List.range_succ, List.filter_append]; simp [h]
theorem qs_more (L : List UInt8) (q : Int) (i : Nat) : ∀ d, ∃ X, qs L q (i + d) = qs L q i ++ X
  | 0 => ⟨[], by simp⟩
  | d + 1 => by
    obtain ⟨X, hX⟩ := qs_more L q i d
    cases h : isq L q (i + d) with
    | true => exact ⟨X ++ [i + d], by rw [← Nat.add_assoc, qs_yes h, hX, List.append_assoc]⟩
    | false => exact ⟨X, by rw [← Nat.add_assoc, qs_no h, hX]⟩
theorem qs_len (L : List UInt8) (q : Int) (k : Nat) : (qs L q k).length ≤ k := by
  unfold qs; exact Nat.le_trans (List.length_filter_le _ _) (by rw [List.length_range]; exact Nat.le_refl _)
theorem qs_mem {L : List UInt8} {q : Int} {k i : Nat} (h : i ∈ qs L q k) : i < k ∧ bi L i = q := by
  unfold qs at h
  rw [List.mem_filter, List.mem_range] at h
  refine ⟨h.1, ?_⟩
  have := h.2
  unfold isq at this
  simp only [Bool.and_eq_true, beq_iff_eq] at this
  exact this.1
theorem qs_up (L : List UInt8) (q : Int) (k : Nat) : (qs L q k).Pairwise (· < ·) := List.Pairwise.sublist List.filter_sublist List.pairwise_lt_range
/-- one and the next -/
def pr2 : List Nat → List (Nat × Nat)
  | a :: b :: r => (a, b) :: pr2 r
  | _ => []
theorem pr2_even : ∀ (j : Nat) (A B : List Nat), A.length = 2 * j → pr2 (A ++ B) = pr2 A ++ pr2 B
  | 0, A, B, h => by
    have : A = [] := List.eq_nil_of_length_eq_zero (by omega)
    subst this; rfl
  | j + 1, A, B, h => by
    cases A with
    | nil => simp at h
    | cons a A =>
      cases A with
      | nil => simp at h; omega
      | cons b A =>
        have := pr2_even j A B (by simp at h; omega)
        simp only [List.cons_append, pr2, this]
theorem pr2_one (a : Nat) : pr2 [a] = [] := rfl
theorem pr2_two (a b : Nat) : pr2 [a, b] = [(a, b)] := rfl
theorem pr2_mem : ∀ (A : List Nat) (x : Nat × Nat), A.Pairwise (· < ·) → x ∈ pr2 A → x.1 ∈ A ∧ x.2 ∈ A ∧ x.1 < x.2
  | [], x, _, h => by simp [pr2] at h
  | [a], x, _, h => by simp [pr2] at h
  | a :: b :: r, x, hp, h => by
    unfold pr2 at h
    rcases List.mem_cons.1 h with rfl | h
    · exact ⟨by simp, by simp, (List.pairwise_cons.1 hp).1 b (by simp)⟩
    · have := pr2_mem r x ((List.pairwise_cons.1 (List.pairwise_cons.1 hp).2).2) h
      exact ⟨by simp [this.1], by simp [this.2.1], this.2.2⟩
theorem pr2_at : ∀ (j : Nat) (A : List Nat) (a b : Nat), A[2 * j]? = some a → A[2 * j + 1]? = some b → (pr2 A)[j]? = some (a, b)
  | 0, A, a, b, h1, h2 => by
    cases A with
    | nil => simp at h1
    | cons x A => cases A with
      | nil => simp at h2
      | cons y A => simp at h1 h2; subst h1 h2; rfl
  | j + 1, A, a, b, h1, h2 => by
    cases A with
    | nil => simp at h1
    | cons x A => cases A with
      | nil => simp at h2
      | cons y A =>
        have e1 : 2 * (j + 1) = 2 * j + 1 + 1 := by omega
        have e2 : 2 * (j + 1) + 1 = 2 * j + 1 + 1 + 1 := by omega
        rw [e1] at h1
        rw [e2] at h2
        simp only [List.getElem?_cons_succ] at h1 h2
        have := pr2_at j A a b h1 h2
        simpa [pr2] using this
theorem pr2_len : ∀ (A : List Nat), (pr2 A).length = A.length / 2
  | [] => rfl
  | [a] => by simp [pr2]
  | a :: b :: r => by simp [pr2, pr2_len r]; omega
/-- the pair of quotes in which p stands, or ahead of which -/
def qp (L : List UInt8) (q : Int) (p m : Nat) : Option (Nat × Nat) := (pr2 (qs L q m)).find? fun x => decide (p ≤ x.2)
theorem qp_mem {L : List UInt8} {q : Int} {p m : Nat} {x : Nat × Nat} (h : qp L q p m = some x) : x.1 < x.2 ∧ x.2 < m ∧ bi L x.1 = q ∧ bi L x.2 = q ∧ p ≤ x.2 := by
  have h1 := List.mem_of_find?_eq_some h
  have h2 := List.find?_some h
  obtain ⟨a, b, c⟩ := pr2_mem _ x (qs_up L q m) h1
  exact ⟨c, (qs_mem b).1, (qs_mem a).2, (qs_mem b).2, by simpa using h2⟩
/-- the walk behind i bytes: the first quote of a pair that stands open -/
def Qw (L : List UInt8) (q : Int) (p i f : Nat) (o : Bool) : Prop := ∃ Q j, Q.length = 2 * j ∧ (∀ x ∈ pr2 Q, x.2 < p) ∧ ((o = false ∧ qs L q i = Q) ∨ (o = true ∧ qs L q i = Q ++ [f]))
theorem Qw.start (L : List UInt8) (q : Int) (p f : Nat) : Qw L q p 0 f false := ⟨[], 0, rfl, by simp [pr2], .inl ⟨rfl, rfl⟩⟩
theorem Qw.no {L : List UInt8} {q : Int} {p i f : Nat} {o : Bool} (h : Qw L q p i f o) (hq : isq L q i = false) : Qw L q p (i + 1) f o := by
  obtain ⟨Q, j, h1, h2, h3⟩ := h
  exact ⟨Q, j, h1, h2, by rw [qs_no hq]; exact h3⟩
theorem Qw.opens {L : List UInt8} {q : Int} {p i f : Nat} (h : Qw L q p i f false) (hq : isq L q i = true) : Qw L q p (i + 1) i true := by
  obtain ⟨Q, j, h1, h2, ⟨_, h3⟩ | ⟨h3, _⟩⟩ := h
  · exact ⟨Q, j, h1, h2, .inr ⟨rfl, by rw [qs_yes hq, h3]⟩⟩
  · cases h3
theorem Qw.closes {L : List UInt8} {q : Int} {p i f : Nat} (h : Qw L q p i f true) (hq : isq L q i = true) (hp : i < p) : Qw L q p (i + 1) i false := by
  obtain ⟨Q, j, h1, h2, ⟨h3, _⟩ | ⟨_, h3⟩⟩ := h
  · cases h3
  · refine ⟨Q ++ [f, i], j + 1, by simp; omega, fun x hx => ?_, .inl ⟨rfl, by rw [qs_yes hq, h3]; simp⟩⟩
    rw [pr2_even j Q _ h1, pr2_two] at hx
    rcases List.mem_append.1 hx with hx | hx
    · exact h2 x hx
    · have : x = (f, i) := by simpa using hx
      subst this; exact hp
theorem Qw.found {L : List UInt8} {q : Int} {p i f m : Nat} (h : Qw L q p i f true) (hq : isq L q i = true) (hp : p ≤ i) (hi : i < m) : qp L q p m = some (f, i) := by
  obtain ⟨Q, j, h1, h2, ⟨h3, _⟩ | ⟨_, h3⟩⟩ := h
  · cases h3
  · obtain ⟨X, hX⟩ := qs_more L q (i + 1) (m - (i + 1))
    rw [show i + 1 + (m - (i + 1)) = m by omega, qs_yes hq, h3] at hX
    unfold qp
    rw [hX, show Q ++ [f] ++ [i] ++ X = Q ++ (f :: i :: X) by simp, pr2_even j Q _ h1]
    rw [List.find?_append, List.find?_eq_none.2 (fun x hx => by have := h2 x hx; simp; omega)]
    simp [pr2, hp]
theorem Qw.none {L : List UInt8} {q : Int} {p m f : Nat} {o : Bool} (h : Qw L q p m f o) : qp L q p m = .none := by
  obtain ⟨Q, j, h1, h2, h3⟩ := h
  unfold qp
  have e : pr2 (qs L q m) = pr2 Q := by
    rcases h3 with ⟨_, h3⟩ | ⟨_, h3⟩
    · rw [h3]
    · rw [h3, pr2_even j Q _ h1, pr2_one, List.append_nil]
  rw [e, List.find?_eq_none]
  intro x hx
  have := h2 x hx
  simp; omega
/-- over blanks, on and back -/
def fw (L : List UInt8) : Nat → Nat → Nat
  | 0, i => i
  | d + 1, i => if bl (at8 L i) then fw L d (i + 1) else i
def bw (L : List UInt8) : Nat → Nat
  | 0 => 0
  | i + 1 => if bl (at8 L i) then bw L i else i + 1
theorem fw_ge (L : List UInt8) : ∀ d i, i ≤ fw L d i ∧ fw L d i ≤ i + d
  | 0, i => by simp [fw]
  | d + 1, i => by
    have := fw_ge L d (i + 1)
    unfold fw; split <;> omega
theorem bw_le (L : List UInt8) : ∀ i, bw L i ≤ i
  | 0 => by simp [bw]
  | i + 1 => by
    have := bw_le L i
    unfold bw; split <;> omega
/-- the pair with the blanks about it -/
def wb (L : List UInt8) (m f t : Nat) : Nat × Nat := (if fw L (m - t) t = t then bw L f else f, fw L (m - t) t)
/-- what a key of quotes chooses in its line -/
def qa (L : List UInt8) (q : Int) (p m : Nat) (a : Bool) : Option (Nat × Nat) := (qp L q p m).map fun x => if a then wb L m x.1 (x.2 + 1) else (x.1 + 1, x.2)
end Go.Proofs.Ytgdhdegmjljbfaa
