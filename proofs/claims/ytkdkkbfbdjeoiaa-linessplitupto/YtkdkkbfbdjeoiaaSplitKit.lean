/- What the walk of quoinlaw05.LinesSplit leans on besides: rows put together; rows that stay while other rows are written. -/
import Derived.Test.YtkdkkbfbdjeoiaaApart
import Derived.Test.YtkdkkbfbdjeoiaaSame
import Derived.Test.YtkdkkbfbdjeoiaaRefSplit
namespace Go.Proofs.Ytkdkkbfbdjeoiaa
open Go.RowKit

theorem app_at {α : Type} {A B : List α} {i : Nat} {x : α} (h : (A ++ B)[i]? = some x) : A[i]? = some x ∨ (A.length ≤ i ∧ B[i - A.length]? = some x) := by
  rw [List.getElem?_append] at h
  split at h
  · exact .inl h
  · exact .inr ⟨by omega, h⟩
theorem Rws.join {w W W' : World} {R S : List Rw} (h : Rws w W R) (k : Rws W W' S) : Rws w W' (R ++ S) := by
  have hk := h.keep k.bel
  refine ⟨fun i r hi => ?_, fun i j p q hij hi hj => ?_, hk.bel⟩
  · rcases app_at hi with hi | ⟨_, hi⟩
    · exact hk.own i r hi
    · exact own_lower (k.own _ r hi) h.size
  · rcases app_at hi with hi | ⟨e1, hi⟩
    · rcases app_at hj with hj | ⟨e2, hj⟩
      · exact h.far i j p q hij hi hj
      · exact far_new (h.own i p hi) (k.own _ q hj)
    · rcases app_at hj with hj | ⟨e2, hj⟩
      · exact (far_new (h.own j q hj) (k.own _ p hi)).symm
      · exact k.far _ _ p q (by omega) hi hj
theorem Rws.left {w W : World} {R S : List Rw} (h : Rws w W (R ++ S)) : Rws w W R :=
  ⟨fun i r hi => h.own i r (by rw [List.getElem?_append_left (List.getElem?_eq_some_iff.1 hi).1]; exact hi), fun i j p q hij hi hj => h.far i j p q hij (by rw [List.getElem?_append_left (List.getElem?_eq_some_iff.1 hi).1]; exact hi) (by rw [List.getElem?_append_left (List.getElem?_eq_some_iff.1 hj).1]; exact hj), h.bel⟩

theorem own_same {w w' : World} {base e size n : Nat} {v : Value} {xs : List Value} (h : w.ownsRow base e size v n xs) (hs : ∀ g, v.ownBlock = some g → w'.heap[g]? = w.heap[g]?) : w'.ownsRow base e size v n xs := by
  refine ⟨h.1, ?_⟩
  rcases h.2 with h0 | ⟨g, cap, cur, rfl, hb', hg, rest⟩
  · exact .inl h0
  · exact .inr ⟨g, cap, cur, rfl, hb', by rw [hs g rfl]; exact hg, rest⟩

/-- rows stay while other rows are written and grown -/
theorem rws_only {w w0 W : World} {R : List Rw} {base m : Nat} {X G : Nat → Value} {N M : Nat → Nat} {mark : Nat → Value} {Z : Nat → List Value} (h : Rws w w0 R) (hm : Many w0 W base m X N mark G M Z)
    (hf : ∀ (i : Nat) (r : Rw) (k : Nat), R[i]? = some r → k < m → Far r.v (X k)) (hX : ∀ j, j < m → ∀ g, (X j).ownBlock = some g → w.heap.size ≤ g) : Rws w W R := by
  refine ⟨fun i r hi => own_same (h.own i r hi) fun g hg => ?_, h.far, ⟨hm.ee.1.trans h.bel.os, hm.ee.2.1.trans h.bel.tape, hm.ee.2.2.trans h.bel.output, Nat.le_trans h.bel.size hm.sz, fun k hk => ?_⟩⟩
  · exact hm.only g ((h.own i r hi).lt g hg).2 (fun j hj e => hf i r j hi hj g hg e)
  · rw [hm.only k (Nat.lt_of_lt_of_le hk h.bel.size) (fun j hj e => by have := hX j hj k e; omega)]
    exact h.bel.block k hk

/-- lists that are rows of their own, before they are written -/
theorem many_of {w W : World} {R : List Rw} (h : Rws w W R) (m : Nat) (X : Nat → Value) (B : Nat → List UInt8) (idx : Nat → Nat) (mark : Nat → Value) (hR : ∀ k, k < m → R[idx k]? = some (brow (X k, B k))) (hi : ∀ j k, j < m → k < m → j ≠ k → idx j ≠ idx k) :
    Many W W w.heap.size m X (fun _ => 0) mark X (fun k => (B k).length) (fun k => bv (B k)) := by
  refine ⟨fun k hk => h.own _ _ (hR k hk), fun j k hj hk hjk => ?_, fun k _ j hj => by simp at hj, fun j k hj hk hjk => ?_, fun k _ => Nat.zero_le _, fun k hk g hg => ?_, fun k _ => .inl rfl, Nat.le_refl _, ⟨rfl, rfl, rfl⟩, fun k _ _ => rfl⟩
  · exact (h.far _ _ _ _ (hi j k hj hk hjk) (hR j hj) (hR k hk)).ne
  · exact (h.far _ _ _ _ (hi k j hk hj (Ne.symm hjk)) (hR k hk) (hR j hj)).ne
  · exact ((h.own _ _ (hR k hk)).lt g hg).2

/-- one list of values behind the other -/
def two {α : Type} (A B : List α) (d : α) (k : Nat) : α := (A ++ B).getD k d
theorem two_map {α : Type} (A B : List α) (d : α) : (List.range (A.length + B.length)).map (two A B d) = A ++ B := by
  apply List.ext_getElem
  · simp
  · intro i h1 h2
    have : i < (A ++ B).length := by simpa using h2
    simp only [List.getElem_map, List.getElem_range, two]
    rw [List.getD_eq_getElem?_getD, List.getElem?_eq_getElem this]
    rfl
theorem two_at {α : Type} {A B : List α} {d x : α} {k : Nat} (h : (A ++ B)[k]? = some x) : two A B d k = x := by
  unfold two; rw [List.getD_eq_getElem?_getD, h]; rfl

theorem at_mid {α : Type} (A B C : List α) (j : Nat) (hj : j < B.length) : (A ++ B ++ C)[A.length + j]? = B[j]? := by
  rw [List.append_assoc, List.getElem?_append_right (by omega), show A.length + j - A.length = j from by omega, List.getElem?_append_left hj]
theorem at_end {α : Type} (A B : List α) (j : Nat) : (A ++ B)[A.length + j]? = B[j]? := by
  rw [List.getElem?_append_right (by omega), show A.length + j - A.length = j from by omega]
theorem at_left {α : Type} (A B C D : List α) (j : Nat) (hj : j < A.length) : (A ++ B ++ C ++ D)[j]? = A[j]? := by
  rw [List.getElem?_append_left (by simp; omega), List.getElem?_append_left (by simp; omega), List.getElem?_append_left hj]
theorem spl_length (v : Value) (D : List (Value × List UInt8)) : (spl v D).length = D.length + 1 := by simp [spl]

/-- the marks -/
def mkA (k : Nat) : Value := .int .u8 ((k : Int) % 256)
def mkB (k : Nat) : Value := .int .u8 ((100 + (k : Int)) % 256)

/-- the lists of both answers, as one -/
def XX (Da Db : List (Value × List UInt8)) : Nat → Value := two (Da.map (·.1)) (Db.map (·.1)) (.slice none 0 0)
def BB (K : Nat) (f : Nat → List UInt8) : Nat → List UInt8 := fun k => if k < K then f k else f (k - K)
theorem XX_map {Da Db : List (Value × List UInt8)} {K : Nat} (ha : Da.length = K) (hb : Db.length = K) : (List.range (K + K)).map (XX Da Db) = Da.map (·.1) ++ Db.map (·.1) := by
  have := two_map (Da.map (·.1)) (Db.map (·.1)) (.slice none 0 0)
  rw [List.length_map, List.length_map, ha, hb] at this
  exact this
theorem two_rows {w W : World} {S : List Rw} {va vb : Value} {Da Db : List (Value × List UInt8)} {K : Nat} {f : Nat → List UInt8} (_h : Rws w W (S ++ spl va Da ++ spl vb Db)) (ha : Da.length = K) (hb : Db.length = K) (hDa : Da.map (·.2) = (List.range K).map f) (hDb : Db.map (·.2) = (List.range K).map f) :
    ∀ k, k < K + K → ∃ i, S.length < i ∧ (S ++ spl va Da ++ spl vb Db)[i]? = some (brow (XX Da Db k, BB K f k)) ∧ i = if k < K then S.length + (k + 1) else S.length + (K + 1) + (k - K + 1) := by
  intro k hk
  by_cases hl : k < K
  · refine ⟨S.length + (k + 1), by omega, ?_, by rw [if_pos hl]⟩
    rw [at_mid _ _ _ (k + 1) (by rw [spl_length]; omega)]
    have h1 : k < Da.length := by omega
    have e1 : XX Da Db k = Da[k].1 := two_at (by rw [List.getElem?_append_left (by simpa using h1)]; simp [h1])
    have e2 : Da[k].2 = f k := by have := congrArg (fun L => L[k]?) hDa; simpa [h1, hl] using this
    rw [e1]; unfold BB; rw [if_pos hl, ← e2]
    simp [spl, h1]
  · refine ⟨S.length + (K + 1) + (k - K + 1), by omega, ?_, by rw [if_neg hl]⟩
    have e0 : S.length + (K + 1) = (S ++ spl va Da).length := by rw [List.length_append, spl_length, ha]
    rw [e0, at_end]
    have h1 : k - K < Db.length := by omega
    have e1 : XX Da Db k = Db[k - K].1 := two_at (by rw [List.getElem?_append_right (by simp; omega)]; simp [ha, h1])
    have e2 : Db[k - K].2 = f (k - K) := by have := congrArg (fun L => L[k - K]?) hDb; simpa [h1, show k - K < K by omega] using this
    rw [e1]; unfold BB; rw [if_neg hl, ← e2]
    simp [spl, h1]
theorem two_many {w W : World} {S : List Rw} {va vb : Value} {Da Db : List (Value × List UInt8)} {K : Nat} {f : Nat → List UInt8} (h : Rws w W (S ++ spl va Da ++ spl vb Db)) (ha : Da.length = K) (hb : Db.length = K) (hDa : Da.map (·.2) = (List.range K).map f) (hDb : Db.map (·.2) = (List.range K).map f) :
    Many W W w.heap.size (K + K) (XX Da Db) (fun _ => 0) mkA (XX Da Db) (fun k => (BB K f k).length) (fun k => bv (BB K f k)) := by
  have hr := two_rows h ha hb hDa hDb
  refine many_of h (K + K) (XX Da Db) (BB K f) (fun k => if k < K then S.length + (k + 1) else S.length + (K + 1) + (k - K + 1)) mkA (fun k hk => ?_) (fun j k hj hk hjk => ?_)
  · obtain ⟨i, _, h1, h2⟩ := hr k hk
    rw [← h2]; exact h1
  · show (if j < K then S.length + (j + 1) else S.length + (K + 1) + (j - K + 1)) ≠ (if k < K then S.length + (k + 1) else S.length + (K + 1) + (k - K + 1))
    split <;> split <;> omega
theorem two_far {w W : World} {S : List Rw} {va vb : Value} {Da Db : List (Value × List UInt8)} {K : Nat} {f : Nat → List UInt8} (h : Rws w W (S ++ spl va Da ++ spl vb Db)) (ha : Da.length = K) (hb : Db.length = K) (hDa : Da.map (·.2) = (List.range K).map f) (hDb : Db.map (·.2) = (List.range K).map f) :
    (∀ (i : Nat) (r : Rw) (k : Nat), S[i]? = some r → k < K + K → Far r.v (XX Da Db k)) ∧ ∀ j, j < K + K → ∀ g, (XX Da Db j).ownBlock = some g → w.heap.size ≤ g := by
  have hr := two_rows h ha hb hDa hDb
  refine ⟨fun i r k hi hk => ?_, fun j hj g hg => ?_⟩
  · obtain ⟨q, h0, h1, _⟩ := hr k hk
    have hlt := (List.getElem?_eq_some_iff.1 hi).1
    refine h.far i q r _ (by omega) ?_ h1
    rw [List.append_assoc, List.getElem?_append_left hlt]; exact hi
  · obtain ⟨q, _, h1, _⟩ := hr j hj
    exact ((h.own q _ h1).lt g hg).1
end Go.Proofs.Ytkdkkbfbdjeoiaa
