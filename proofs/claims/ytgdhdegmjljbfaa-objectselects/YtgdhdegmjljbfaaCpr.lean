/- Choosing runs, as plain lists; no program. -/
import Derived.Test.YtgdhdegmjljbfaaBpr
namespace Go.Proofs.Ytgdhdegmjljbfaa
/-- a run: from, to, gap -/
abbrev Rn3 := Nat × Nat × Bool
/-- is run j there, and a gap -/
def gp (R : List Rn3) (j : Nat) : Bool := match R[j]? with
  | some x => x.2.2
  | none => false
theorem gp_lt {R : List Rn3} {j : Nat} (h : gp R j = true) : j < R.length := by
  unfold gp at h
  split at h
  · next x hx => exact (List.getElem?_eq_some_iff.1 hx).1
  · cases h
theorem gp_out {R : List Rn3} {j : Nat} (h : R.length ≤ j) : gp R j = false := by
  unfold gp; rw [List.getElem?_eq_none h]
theorem gp_at {R : List Rn3} {j : Nat} {x : Rn3} (h : R[j]? = some x) : gp R j = x.2.2 := by unfold gp; rw [h]
/-- one thing more, with the gap that belongs to it -/
def k1 (R : List Rn3) (k : Nat) : Nat := if gp R k then k + 1 else k
def k2 (R : List Rn3) (ah : Bool) (k : Nat) : Nat := if !ah && gp R k then k + 1 else k
def stp (R : List Rn3) (ah : Bool) (k : Nat) : Option Nat := if k1 R k = R.length then none else some (k2 R ah (k1 R k + 1))
def tak (R : List Rn3) (ah : Bool) : Nat → Nat → Option Nat
  | 0, k => some k
  | n + 1, k => match stp R ah k with
    | none => none
    | some k' => tak R ah n k'
theorem k1_le {R : List Rn3} {k : Nat} (h : k ≤ R.length) : k ≤ k1 R k ∧ k1 R k ≤ R.length := by
  unfold k1
  split
  · next hg => have := gp_lt hg; omega
  · omega
theorem k2_le {R : List Rn3} {ah : Bool} {k : Nat} (h : k ≤ R.length) : k ≤ k2 R ah k ∧ k2 R ah k ≤ R.length := by
  unfold k2
  split
  · next hg =>
    have := gp_lt (R := R) (j := k) (by cases ah <;> simp_all)
    omega
  · omega
theorem stp_le {R : List Rn3} {ah : Bool} {k k' : Nat} (h : k ≤ R.length) (hs : stp R ah k = some k') : k + 1 ≤ k' ∧ k' ≤ R.length := by
  unfold stp at hs
  have h1 := k1_le h
  split at hs
  · cases hs
  · next hn =>
    injection hs with hs
    have := k2_le (R := R) (ah := ah) (k := k1 R k + 1) (by omega)
    omega
theorem tak_le {R : List Rn3} {ah : Bool} : ∀ {n k k' : Nat}, k ≤ R.length → tak R ah n k = some k' → k + n ≤ k' ∧ k' ≤ R.length
  | 0, k, k', h, hs => by injection hs with hs; omega
  | n + 1, k, k', h, hs => by
    unfold tak at hs
    split at hs
    · cases hs
    · next k9 h9 =>
      have h1 := stp_le h h9
      have := tak_le (n := n) h1.2 hs
      omega
/-- things with their gaps -/
def aw1 (R : List Rn3) (i k : Nat) : Nat := if !(gp R i) && !(gp R (k - 1)) && (decide (0 < i) && gp R (i - 1)) then i - 1 else i
def aro (R : List Rn3) (i n : Nat) : Option (Nat × Nat) := (tak R (gp R i) n i).map fun k => (aw1 R i k, k)
def inn (R : List Rn3) (i n : Nat) : Option (Nat × Nat) := if n ≤ R.length - i then some (i, i + n) else none
def cho (R : List Rn3) (i n : Nat) (a : Bool) : Option (Nat × Nat) := if a then aro R i n else inn R i n
theorem aw1_le (R : List Rn3) (i k : Nat) : aw1 R i k ≤ i ∧ i ≤ aw1 R i k + 1 := by unfold aw1; split <;> omega
theorem cho_le {R : List Rn3} {i n : Nat} {a : Bool} {x : Nat × Nat} (hi : i ≤ R.length) (h : cho R i n a = some x) : x.1 ≤ i ∧ i ≤ x.1 + 1 ∧ i + n ≤ x.2 ∧ x.2 ≤ R.length := by
  unfold cho at h
  cases a with
  | true =>
    simp only [if_true] at h
    unfold aro at h
    cases hk : tak R (gp R i) n i with
    | none => rw [hk] at h; cases h
    | some k =>
      rw [hk] at h
      simp only [Option.map_some] at h
      injection h with h
      subst h
      have h1 := tak_le hi hk
      have h2 := aw1_le R i k
      exact ⟨h2.1, h2.2, h1.1, h1.2⟩
  | false =>
    simp only [Bool.false_eq_true, if_false] at h
    unfold inn at h
    split at h
    · injection h with h; subst h; exact ⟨Nat.le_refl _, by simp, Nat.le_refl _, by simp only; omega⟩
    · cases h
def fr (R : List Rn3) (a : Nat) : Nat := (R[a]?.getD (0, 0, false)).1
def tt (R : List Rn3) (a : Nat) : Nat := (R[a]?.getD (0, 0, false)).2.1
/-- what choose answers -/
def cx (R : List Rn3) (i n : Nat) (a : Bool) : Option (Nat × Nat) := (cho R i n a).map fun x => (fr R x.1, tt R (x.2 - 1))
/-- i is the first run that ends behind q -/
structure Fst (R : List Rn3) (q i : Nat) : Prop where
  le : i ≤ R.length
  low : ∀ j x, j < i → R[j]? = some x → x.2.1 ≤ q
  here : ∀ x, R[i]? = some x → q < x.2.1
/-- the runs in memory -/
def rvs (R : List Rn3) : List Value := R.flatMap fun x => [.int .i64 (x.1 : Int), .int .i64 (x.2.1 : Int), .bool x.2.2]
theorem rvs_snoc (R : List Rn3) (x : Rn3) : rvs (R ++ [x]) = rvs R ++ [.int .i64 (x.1 : Int), .int .i64 (x.2.1 : Int), .bool x.2.2] := by simp [rvs]
theorem rvs_len (R : List Rn3) : (rvs R).length = R.length * 3 := by
  induction R with
  | nil => rfl
  | cons x R ih => unfold rvs at *; simp only [List.flatMap_cons, List.length_append, ih, List.length_cons, List.length_nil]; omega
theorem rvs_at (R : List Rn3) : ∀ {i : Nat} {x : Rn3}, R[i]? = some x → (rvs R)[i * 3]? = some (.int .i64 (x.1 : Int)) ∧ (rvs R)[i * 3 + 1]? = some (.int .i64 (x.2.1 : Int)) ∧ (rvs R)[i * 3 + 2]? = some (.bool x.2.2) := by
  induction R with
  | nil => intro i x h; simp at h
  | cons y r ih =>
    intro i x h
    cases i with
    | zero => simp at h; subst h; simp [rvs]
    | succ i =>
      have := ih (i := i) (x := x) (by simpa using h)
      rw [show (i + 1) * 3 = i * 3 + 1 + 1 + 1 by omega]
      simpa [rvs] using this
theorem rvs_one (R : List Rn3) : ∀ u ∈ rvs R, u.oneCell' = true := by
  intro u hu
  obtain ⟨x, _, hx⟩ := List.mem_flatMap.1 hu
  simp at hx
  rcases hx with rfl | rfl | rfl <;> rfl
end Go.Proofs.Ytgdhdegmjljbfaa
