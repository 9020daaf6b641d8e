/- Pairs of brackets of one sort, as plain lists: in the order of their closing ones; they nest; no program. -/
import Derived.Test.YtgdhdegmjljbfaaPure
namespace Go.Proofs.Ytgdhdegmjljbfaa
/-- the byte at a place, as a number -/
def bi (l : List UInt8) (i : Nat) : Int := ((at8 l i).toNat : Int)
/-- behind i bytes: the pairs, and the places that stand open, the last one first -/
def bst (l : List UInt8) (o c : Int) : Nat → List (Nat × Nat) × List Nat
  | 0 => ([], [])
  | i + 1 =>
    if bi l i = o then ((bst l o c i).1, i :: (bst l o c i).2)
    else if bi l i = c then match (bst l o c i).2 with
      | [] => ((bst l o c i).1, [])
      | s :: S => ((bst l o c i).1 ++ [(s, i)], S)
    else bst l o c i
theorem bst_open {l : List UInt8} {o c : Int} {i : Nat} (h : bi l i = o) : bst l o c (i + 1) = ((bst l o c i).1, i :: (bst l o c i).2) := by
  rw [bst, if_pos h]
theorem bst_none {l : List UInt8} {o c : Int} {i : Nat} (h : ¬ bi l i = o) (h2 : ¬ bi l i = c) : bst l o c (i + 1) = bst l o c i := by
  rw [bst, if_neg h, if_neg h2]
theorem bst_left {l : List UInt8} {o c : Int} {i : Nat} (h : ¬ bi l i = o) (h2 : (bst l o c i).2 = []) : bst l o c (i + 1) = bst l o c i := by
  rw [bst, if_neg h]
  split
  · rw [h2]; exact Prod.ext rfl h2.symm
  · rfl
theorem bst_pair {l : List UInt8} {o c : Int} {i s : Nat} {S : List Nat} (h : ¬ bi l i = o) (h1 : bi l i = c) (h2 : (bst l o c i).2 = s :: S) : bst l o c (i + 1) = ((bst l o c i).1 ++ [(s, i)], S) := by
  rw [bst, if_neg h, if_pos h1, h2]
theorem bst_cases (l : List UInt8) (o c : Int) (i : Nat) :
    (bi l i = o ∧ bst l o c (i + 1) = ((bst l o c i).1, i :: (bst l o c i).2)) ∨ bst l o c (i + 1) = bst l o c i ∨ ∃ s S, bi l i = c ∧ (bst l o c i).2 = s :: S ∧ bst l o c (i + 1) = ((bst l o c i).1 ++ [(s, i)], S) := by
  by_cases h : bi l i = o
  · exact .inl ⟨h, bst_open h⟩
  · by_cases h1 : bi l i = c
    · cases h2 : (bst l o c i).2 with
      | nil => exact .inr (.inl (bst_left h h2))
      | cons s S => exact .inr (.inr ⟨s, S, h1, rfl, bst_pair h h1 h2⟩)
    · exact .inr (.inl (bst_none h h1))
theorem bst_more (l : List UInt8) (o c : Int) (i : Nat) : ∀ d, ∃ X, (bst l o c (i + d)).1 = (bst l o c i).1 ++ X
  | 0 => ⟨[], by simp⟩
  | d + 1 => by
    obtain ⟨X, hX⟩ := bst_more l o c i d
    rcases bst_cases l o c (i + d) with ⟨_, h⟩ | h | ⟨s, S, _, _, h⟩
    · exact ⟨X, by rw [← Nat.add_assoc, h]; exact hX⟩
    · exact ⟨X, by rw [← Nat.add_assoc, h]; exact hX⟩
    · exact ⟨X ++ [(s, i + d)], by rw [← Nat.add_assoc, h]; simp [hX]⟩
theorem bst_len (l : List UInt8) (o c : Int) : ∀ i, (bst l o c i).1.length + (bst l o c i).2.length ≤ i
  | 0 => by simp [bst]
  | i + 1 => by
    have ih := bst_len l o c i
    rcases bst_cases l o c i with ⟨_, h⟩ | h | ⟨s, S, _, h2, h⟩
    · rw [h]; simp; omega
    · rw [h]; omega
    · rw [h]; rw [h2] at ih; simp at ih ⊢; omega
/-- what holds of them -/
structure Lam (l : List UInt8) (o c : Int) (i : Nat) (P : List (Nat × Nat)) (S : List Nat) : Prop where
  low : ∀ s ∈ S, s < i ∧ bi l s = o
  down : S.Pairwise (fun a b => b < a)
  pair : ∀ x ∈ P, x.1 < x.2 ∧ x.2 < i ∧ bi l x.1 = o ∧ bi l x.2 = c
  apart : ∀ x ∈ P, ∀ s ∈ S, s < x.1 ∨ x.2 < s
  nest : P.Pairwise (fun x y => x.2 < y.2 ∧ (x.2 < y.1 ∨ y.1 < x.1))
theorem bst_lam (l : List UInt8) (o c : Int) : ∀ i, Lam l o c i (bst l o c i).1 (bst l o c i).2
  | 0 => ⟨fun s h => by simp [bst] at h, by simp [bst], fun s h => by simp [bst] at h, fun s h => by simp [bst] at h, by simp [bst]⟩
  | i + 1 => by
    have ih := bst_lam l o c i
    rcases bst_cases l o c i with ⟨hb, h⟩ | h | ⟨s, S, hb, h2, h⟩
    · rw [h]
      refine ⟨fun s hs => ?_, ?_, fun x hx => ?_, fun x hx s hs => ?_, ih.nest⟩
      · rcases List.mem_cons.1 hs with rfl | hs
        · exact ⟨by omega, hb⟩
        · have := ih.low s hs; exact ⟨by omega, this.2⟩
      · exact List.pairwise_cons.2 ⟨fun s hs => (ih.low s hs).1, ih.down⟩
      · have := ih.pair x hx; exact ⟨this.1, by omega, this.2.2⟩
      · rcases List.mem_cons.1 hs with rfl | hs
        · exact .inr (ih.pair x hx).2.1
        · exact ih.apart x hx s hs
    · rw [h]
      exact ⟨fun s hs => ⟨by have := (ih.low s hs).1; omega, (ih.low s hs).2⟩, ih.down, fun x hx => by have := ih.pair x hx; exact ⟨this.1, by omega, this.2.2⟩, ih.apart, ih.nest⟩
    · rw [h]
      have hd := ih.down
      have hl := ih.low
      have ha := ih.apart
      rw [h2] at hd hl ha
      have hs := hl s (List.mem_cons_self ..)
      refine ⟨fun r hr => ?_, (List.pairwise_cons.1 hd).2, fun x hx => ?_, fun x hx r hr => ?_, ?_⟩
      · have := hl r (List.mem_cons_of_mem _ hr); exact ⟨by omega, this.2⟩
      · rcases List.mem_append.1 hx with hx | hx
        · have := ih.pair x hx; exact ⟨this.1, by omega, this.2.2⟩
        · have : x = (s, i) := by simpa using hx
          subst this
          exact ⟨hs.1, by simp, hs.2, hb⟩
      · rcases List.mem_append.1 hx with hx | hx
        · exact ha x hx r (List.mem_cons_of_mem _ hr)
        · have : x = (s, i) := by simpa using hx
          subst this
          exact .inl ((List.pairwise_cons.1 hd).1 r hr)
      · rw [List.pairwise_append]
        refine ⟨ih.nest, by simp, fun x hx y hy => ?_⟩
        have : y = (s, i) := by simpa using hy
        subst this
        have h3 := ih.pair x hx
        have h4 := ha x hx s (List.mem_cons_self ..)
        exact ⟨h3.2.1, by simp only; omega⟩
/-- the pairs about a place -/
def pa (P : List (Nat × Nat)) (q : Nat) : List (Nat × Nat) := P.filter fun x => decide (x.1 ≤ q ∧ q ≤ x.2)
theorem pa_append (P Q : List (Nat × Nat)) (q : Nat) : pa (P ++ Q) q = pa P q ++ pa Q q := List.filter_append ..
theorem pa_mem {P : List (Nat × Nat)} {q : Nat} {x : Nat × Nat} : x ∈ pa P q ↔ x ∈ P ∧ x.1 ≤ q ∧ q ≤ x.2 := by simp [pa, List.mem_filter]
/-- all pairs of a text -/
def prs (l : List UInt8) (o c : Int) : List (Nat × Nat) := (bst l o c l.length).1
/-- the n-th pair about a place -/
def ba (l : List UInt8) (o c : Int) (q n : Nat) : Option (Nat × Nat) := (pa (prs l o c) q)[n - 1]?
theorem ba_found {l : List UInt8} {o c : Int} {q n i s : Nat} {S : List Nat} (hi : i < l.length) (h : ¬ bi l i = o) (h1 : bi l i = c) (h2 : (bst l o c i).2 = s :: S) (hq : s ≤ q ∧ q ≤ i) (hn : (pa (bst l o c i).1 q).length + 1 = n) : ba l o c q n = some (s, i) := by
  obtain ⟨X, hX⟩ := bst_more l o c (i + 1) (l.length - (i + 1))
  rw [show i + 1 + (l.length - (i + 1)) = l.length by omega, bst_pair h h1 h2] at hX
  unfold ba prs
  rw [hX, pa_append, pa_append]
  have e : pa [(s, i)] q = [(s, i)] := by simp [pa, hq]
  rw [e, List.append_assoc, List.getElem?_append_right (by omega), show n - 1 - (pa (bst l o c i).1 q).length = 0 by omega]
  rfl
theorem ba_not {l : List UInt8} {o c : Int} {q n : Nat} (hn : (pa (bst l o c l.length).1 q).length < n) : ba l o c q n = none := by
  unfold ba prs; exact List.getElem?_eq_none (by omega)
theorem ba_mem {l : List UInt8} {o c : Int} {q n : Nat} {x : Nat × Nat} (h : ba l o c q n = some x) : x ∈ prs l o c ∧ x.1 ≤ q ∧ q ≤ x.2 := pa_mem.1 (List.mem_of_getElem? h)
theorem prs_mem {l : List UInt8} {o c : Int} {x : Nat × Nat} (h : x ∈ prs l o c) : x.1 < x.2 ∧ x.2 < l.length ∧ bi l x.1 = o ∧ bi l x.2 = c := (bst_lam l o c l.length).pair x h
/-- one more holds one less -/
theorem ba_next {l : List UInt8} {o c : Int} {q n : Nat} {x y : Nat × Nat} (h0 : 1 ≤ n) (h : ba l o c q n = some x) (g : ba l o c q (n + 1) = some y) : y.1 < x.1 ∧ x.2 < y.2 := by
  have hp : (pa (prs l o c) q).Pairwise (fun x y => x.2 < y.2 ∧ (x.2 < y.1 ∨ y.1 < x.1)) := List.Pairwise.sublist List.filter_sublist (bst_lam l o c l.length).nest
  have hx := ba_mem h
  have hy := ba_mem g
  unfold ba at h g
  obtain ⟨a1, a2⟩ := List.getElem?_eq_some_iff.1 h
  obtain ⟨b1, b2⟩ := List.getElem?_eq_some_iff.1 g
  have := List.pairwise_iff_getElem.1 hp (n - 1) (n + 1 - 1) a1 b1 (by omega)
  rw [a2, b2] at this
  exact ⟨by omega, this.1⟩
theorem ba_none {l : List UInt8} {o c : Int} {q n : Nat} (h : ba l o c q n = none) : ba l o c q (n + 1) = none := by
  unfold ba at *
  rw [List.getElem?_eq_none_iff] at *
  omega
theorem first_of {P : List (Nat × Nat)} {q : Nat} {x : Nat × Nat} (hP : P.Pairwise (fun x y => x.2 < y.2 ∧ (x.2 < y.1 ∨ y.1 < x.1))) (hx : x ∈ P) (h1 : x.1 ≤ q ∧ q ≤ x.2) (h2 : ∀ z : Nat × Nat, z.2 < x.2 → (z.2 < x.1 ∨ x.1 < z.1) → ¬ (z.1 ≤ q ∧ q ≤ z.2)) : (pa P q)[0]? = some x := by
  obtain ⟨A, B, rfl⟩ := List.append_of_mem hx
  rw [pa_append]
  have e : pa A q = [] := by
    unfold pa
    rw [List.filter_eq_nil_iff]
    intro z hz
    have := (List.pairwise_append.1 hP).2.2 z hz x (List.mem_cons_self ..)
    simpa using h2 z this.1 this.2
  rw [e, List.nil_append]
  unfold pa
  rw [List.filter_cons_of_pos (by simpa using h1)]
  rfl
/-- from either end it is the first -/
theorem ba_from {l : List UInt8} {o c : Int} {x : Nat × Nat} (h : x ∈ prs l o c) : ba l o c x.1 1 = some x := by
  have := prs_mem h
  exact first_of (bst_lam l o c l.length).nest h (by omega) (fun z h1 h2 => by omega)
theorem ba_to {l : List UInt8} {o c : Int} {x : Nat × Nat} (h : x ∈ prs l o c) : ba l o c x.2 1 = some x := by
  have := prs_mem h
  exact first_of (bst_lam l o c l.length).nest h (by omega) (fun z h1 h2 => by omega)
end Go.Proofs.Ytgdhdegmjljbfaa
