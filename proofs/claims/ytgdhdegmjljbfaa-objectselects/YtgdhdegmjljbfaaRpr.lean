/- Runs: where a list of kinds is cut, run by run; no program. -/
import Derived.Test.YtgdhdegmjljbfaaRnc
import Derived.Test.YtgdhdegmjljbfaaCpr
namespace Go.Proofs.Ytgdhdegmjljbfaa
/-- the end and the start of run j -/
def re (K : Nat → Int) (n j : Nat) : Nat := (rn K n n).getD j 0
def rf (K : Nat → Int) (n j : Nat) : Nat := if j = 0 then 0 else re K n (j - 1)
def rm (K : Nat → Int) (n : Nat) : Nat := (rn K n n).length
theorem rf_zero (K : Nat → Int) (n : Nat) : rf K n 0 = 0 := rfl
theorem rf_succ (K : Nat → Int) (n j : Nat) : rf K n (j + 1) = re K n j := rfl
/-- behind j runs -/
theorem rf_at (K : Nat → Int) (n : Nat) : ∀ j, j ≤ rm K n → rf K n j ≤ n ∧ (rn K n (rf K n j)).length = j
  | 0, _ => ⟨Nat.zero_le _, rfl⟩
  | j + 1, h => by
    obtain ⟨h1, h2⟩ := rf_at K n j (by omega)
    have h3 : rf K n j < n := by
      rcases Nat.lt_or_ge (rf K n j) n with g | g
      · exact g
      · have e : rf K n j = n := by omega
        rw [e] at h2
        unfold rm at h
        omega
    obtain ⟨e, e1, e2, e3, e4, _⟩ := run_next (K := K) h3
    rw [h2] at e4
    have e5 : rf K n (j + 1) = e := by rw [rf_succ]; unfold re; rw [List.getD_eq_getElem?_getD, e4]; rfl
    rw [e5]
    exact ⟨e2, by rw [e3, List.length_append, h2]; rfl⟩
/-- run j -/
structure RunAt (K : Nat → Int) (n j : Nat) : Prop where
  up : rf K n j < re K n j
  le : re K n j ≤ n
  same : ∀ x, rf K n j ≤ x → x < re K n j → K x = K (rf K n j)
  cut : re K n j < n → ¬ K (re K n j) = K (rf K n j)
  more : re K n j < n ↔ j + 1 < rm K n
  last : rn K n (re K n j) = rn K n (rf K n j) ++ [re K n j]
theorem run_at {K : Nat → Int} {n j : Nat} (h : j < rm K n) : RunAt K n j := by
  obtain ⟨h1, h2⟩ := rf_at K n j (by omega)
  have h3 : rf K n j < n := by
    rcases Nat.lt_or_ge (rf K n j) n with g | g
    · exact g
    · have e : rf K n j = n := by omega
      rw [e] at h2
      unfold rm at h
      omega
  obtain ⟨e, e1, e2, e3, e4, e5, e6⟩ := run_next (K := K) h3
  rw [h2] at e4
  have e7 : re K n j = e := by unfold re; rw [List.getD_eq_getElem?_getD, e4]; rfl
  refine ⟨by rw [e7]; exact e1, by rw [e7]; exact e2, by rw [e7]; exact e5, by rw [e7]; exact e6, ?_, by rw [e7]; exact e3⟩
  rw [e7]
  constructor
  · intro h4
    obtain ⟨e', _, _, _, g4, _⟩ := run_next (K := K) h4
    rw [e3, List.length_append, h2] at g4
    exact (List.getElem?_eq_some_iff.1 g4).1
  · intro h4
    rcases Nat.lt_or_ge e n with g | g
    · exact g
    · have e8 : e = n := by omega
      rw [e8] at e3
      unfold rm at h4
      rw [e3, List.length_append, h2] at h4
      simp at h4
theorem rm_pos {K : Nat → Int} {n : Nat} (h : 0 < n) : 0 < rm K n := by
  obtain ⟨e, _, _, _, e4, _⟩ := run_next (K := K) (f := 0) h
  have := (List.getElem?_eq_some_iff.1 e4).1
  unfold rm
  omega
theorem rm_zero (K : Nat → Int) : rm K 0 = 0 := rfl
theorem rm_le (K : Nat → Int) (n : Nat) : rm K n ≤ n := rn_len K n n
/-- the last run ends at the end -/
theorem re_last {K : Nat → Int} {n : Nat} (h : 0 < n) : re K n (rm K n - 1) = n := by
  have h1 := rm_pos (K := K) h
  have h2 := run_at (K := K) (n := n) (j := rm K n - 1) (by omega)
  rcases Nat.lt_or_ge (re K n (rm K n - 1)) n with g | g
  · have := h2.more.1 g; omega
  · have := h2.le; omega
/-- runs rise -/
theorem re_mono {K : Nat → Int} {n : Nat} : ∀ {i j : Nat}, i ≤ j → j < rm K n → re K n i ≤ re K n j := by
  intro i j
  induction j with
  | zero => intro h _; rw [show i = 0 by omega]; exact Nat.le_refl _
  | succ j ih =>
    intro h hj
    rcases Nat.lt_or_ge j i with g | g
    · rw [show i = j + 1 by omega]; exact Nat.le_refl _
    · have h1 := ih g (by omega)
      have h2 := (run_at (K := K) (n := n) hj).up
      rw [rf_succ] at h2
      omega
theorem re_lt {K : Nat → Int} {n i j : Nat} (h : i < j) (hj : j < rm K n) : re K n i < re K n j := by
  have h1 := re_mono (K := K) (n := n) (i := i) (j := j - 1) (by omega) (by omega)
  have h2 := (run_at (K := K) (n := n) hj).up
  unfold rf at h2
  rw [if_neg (by omega)] at h2
  omega
/-- the run that holds a place -/
theorem run_of {K : Nat → Int} {n q : Nat} (h : q < n) : ∃ i, i < rm K n ∧ rf K n i ≤ q ∧ q < re K n i := by
  have : ∀ j, j ≤ rm K n → q < rf K n j → ∃ i, i < rm K n ∧ rf K n i ≤ q ∧ q < re K n i := by
    intro j
    induction j with
    | zero => intro _ h; rw [rf_zero] at h; omega
    | succ j ih =>
      intro hj hq
      rw [rf_succ] at hq
      rcases Nat.lt_or_ge q (rf K n j) with g | g
      · exact ih (by omega) g
      · exact ⟨j, by omega, g, hq⟩
  have h1 := rm_pos (K := K) (n := n) (by omega)
  refine this (rm K n) (Nat.le_refl _) ?_
  have h2 := re_last (K := K) (n := n) (by omega)
  unfold rf
  rw [if_neg (by omega), h2]
  exact h
/-- the list of runs, laid out by a map of the places, with the mark of a gap -/
def rl (K : Nat → Int) (n : Nat) (f : Nat → Nat) (g : Nat → Bool) : List Rn3 := (List.range (rm K n)).map fun j => (f (rf K n j), f (re K n j), g (rf K n j))
theorem rl_len (K : Nat → Int) (n : Nat) (f : Nat → Nat) (g : Nat → Bool) : (rl K n f g).length = rm K n := by simp [rl]
theorem rl_at {K : Nat → Int} {n j : Nat} (f : Nat → Nat) (g : Nat → Bool) (h : j < rm K n) : (rl K n f g)[j]? = some (f (rf K n j), f (re K n j), g (rf K n j)) := by
  simp [rl, h]
theorem rl_gp {K : Nat → Int} {n j : Nat} (f : Nat → Nat) (g : Nat → Bool) : gp (rl K n f g) j = (decide (j < rm K n) && g (rf K n j)) := by
  by_cases h : j < rm K n
  · rw [gp_at (rl_at f g h)]; simp [h]
  · rw [gp_out (by rw [rl_len]; omega)]; simp [h]
/-- growing by one -/
theorem rn_open (K : Nat → Int) (n m : Nat) : ∀ k, k < n → k < m → rn K n k = rn K m k
  | 0, _, _ => rfl
  | k + 1, h1, h2 => by
    have ih := rn_open K n m k (by omega) (by omega)
    have e : cut K n k = cut K m k := by unfold cut; congr 1; apply propext; constructor <;> (intro h; rcases h with h | h; omega; exact .inr h)
    cases h : cut K n k with
    | true => rw [rn_yes h, rn_yes (e ▸ h), ih]
    | false => rw [rn_no h, rn_no (e ▸ h), ih]
theorem rn_full (K : Nat → Int) (k : Nat) : rn K (k + 1) (k + 1) = rn K (k + 1) k ++ [k + 1] := rn_yes (decide_eq_true (.inl rfl))
/-- a new run -/
theorem rn_new {K : Nat → Int} {k : Nat} (h : k = 0 ∨ ¬ K (k - 1) = K k) : rn K (k + 1) (k + 1) = rn K k k ++ [k + 1] := by
  rw [rn_full]
  congr 1
  cases k with
  | zero => rfl
  | succ k =>
    have h1 : cut K (k + 1 + 1) k = true := decide_eq_true (.inr (by rcases h with h | h; omega; exact h))
    rw [rn_yes h1, rn_full, rn_open K (k + 1 + 1) (k + 1) k (by omega) (by omega)]
/-- the last run grows -/
theorem rn_grow {K : Nat → Int} {k : Nat} (h : K k = K (k + 1)) : ∃ X, rn K (k + 1) (k + 1) = X ++ [k + 1] ∧ rn K (k + 1 + 1) (k + 1 + 1) = X ++ [k + 1 + 1] := by
  refine ⟨rn K (k + 1) k, rn_full K k, ?_⟩
  rw [rn_full]
  congr 1
  have h1 : cut K (k + 1 + 1) k = false := decide_eq_false (by intro g; rcases g with g | g; omega; exact g h)
  rw [rn_no h1, rn_open K (k + 1 + 1) (k + 1) k (by omega) (by omega)]
/-- the same, of the laid list -/
theorem rl_new {K : Nat → Int} {k : Nat} (f : Nat → Nat) (g : Nat → Bool) (h : k = 0 ∨ ¬ K (k - 1) = K k) : rl K (k + 1) f g = rl K k f g ++ [(f k, f (k + 1), g k)] := by
  have h1 := rn_new h
  have hm : rm K (k + 1) = rm K k + 1 := by unfold rm; rw [h1]; simp
  have hre : ∀ j, j < rm K k → re K (k + 1) j = re K k j := fun j hj => by
    unfold re
    rw [h1, List.getD_eq_getElem?_getD, List.getD_eq_getElem?_getD, List.getElem?_append_left hj]
  have hel : re K (k + 1) (rm K k) = k + 1 := by
    unfold re rm
    rw [h1, List.getD_eq_getElem?_getD, List.getElem?_append_right (Nat.le_refl _), Nat.sub_self]; rfl
  have hrf : ∀ j, j ≤ rm K k → rf K (k + 1) j = if j = rm K k then k else rf K k j := fun j hj => by
    cases j with
    | zero =>
      rw [rf_zero, rf_zero]
      split
      · next e =>
        rcases Nat.eq_zero_or_pos k with h2 | h2
        · exact h2.symm
        · have := rm_pos (K := K) h2; omega
      · rfl
    | succ j =>
      rw [rf_succ, rf_succ, hre j (by omega)]
      split
      · next e =>
        have hk : 0 < k := by have := rm_le K k; omega
        have := re_last (K := K) hk
        rw [show rm K k - 1 = j by omega] at this
        exact this
      · rfl
  unfold rl
  rw [hm, List.range_succ, List.map_append]
  congr 1
  · apply List.map_congr_left
    intro j hj
    have hj := List.mem_range.1 hj
    rw [hre j hj, hrf j (by omega), if_neg (by omega)]
  · simp only [List.map_cons, List.map_nil]
    rw [hel, hrf _ (Nat.le_refl _), if_pos rfl]
theorem rl_grow {K : Nat → Int} {k : Nat} (f : Nat → Nat) (g : Nat → Bool) (h : K k = K (k + 1)) : ∃ X s b, rl K (k + 1) f g = X ++ [(s, f (k + 1), b)] ∧ rl K (k + 1 + 1) f g = X ++ [(s, f (k + 1 + 1), b)] ∧ X.length + 1 = rm K (k + 1) ∧ ∃ z, z ≤ k ∧ b = g z ∧ K z = K k := by
  obtain ⟨X, h1, h2⟩ := rn_grow h
  have hm1 : rm K (k + 1) = X.length + 1 := by unfold rm; rw [h1]; simp
  have hm2 : rm K (k + 1 + 1) = X.length + 1 := by unfold rm; rw [h2]; simp
  have hre : ∀ j, j < X.length → re K (k + 1 + 1) j = re K (k + 1) j := fun j hj => by
    unfold re
    rw [h1, h2, List.getD_eq_getElem?_getD, List.getD_eq_getElem?_getD, List.getElem?_append_left hj, List.getElem?_append_left hj]
  have hl1 : re K (k + 1) X.length = k + 1 := by
    unfold re
    rw [h1, List.getD_eq_getElem?_getD, List.getElem?_append_right (Nat.le_refl _), Nat.sub_self]; rfl
  have hl2 : re K (k + 1 + 1) X.length = k + 1 + 1 := by
    unfold re
    rw [h2, List.getD_eq_getElem?_getD, List.getElem?_append_right (Nat.le_refl _), Nat.sub_self]; rfl
  have hrf : ∀ j, j ≤ X.length → rf K (k + 1 + 1) j = rf K (k + 1) j := fun j hj => by
    cases j with
    | zero => rfl
    | succ j => rw [rf_succ, rf_succ, hre j (by omega)]
  refine ⟨(List.range X.length).map fun j => (f (rf K (k + 1) j), f (re K (k + 1) j), g (rf K (k + 1) j)), f (rf K (k + 1) X.length), g (rf K (k + 1) X.length), ?_, ?_, by simp [hm1], ?_⟩
  · unfold rl
    rw [hm1, List.range_succ, List.map_append]
    simp only [List.map_cons, List.map_nil]
    rw [hl1]
  · unfold rl
    rw [hm2, List.range_succ, List.map_append]
    congr 1
    · apply List.map_congr_left
      intro j hj
      have hj := List.mem_range.1 hj
      rw [hre j hj, hrf j (by omega)]
    · simp only [List.map_cons, List.map_nil]
      rw [hl2, hrf _ (Nat.le_refl _)]
  · have h3 := run_at (K := K) (n := k + 1) (j := X.length) (by omega)
    have h4 := h3.up
    rw [hl1] at h4
    exact ⟨rf K (k + 1) X.length, by omega, rfl, (h3.same k (by omega) (by rw [hl1]; omega)).symm⟩
/-- no two gaps lie side by side, where a gap is a kind -/
theorem rl_apart {K : Nat → Int} {n j : Nat} (f : Nat → Nat) (g : Nat → Bool) (hg : ∀ x y, g x = true → g y = true → K x = K y) (h1 : gp (rl K n f g) j = true) : gp (rl K n f g) (j + 1) = false := by
  rw [rl_gp] at h1 ⊢
  simp at h1
  by_cases h : j + 1 < rm K n
  · have h2 := run_at (K := K) (n := n) h1.1
    have h3 := h2.cut (h2.more.2 h)
    rw [rf_succ]
    cases h4 : g (re K n j) with
    | false => simp
    | true => exact absurd (hg _ _ h4 h1.2) h3
  · simp [h]
end Go.Proofs.Ytgdhdegmjljbfaa
