/- A list of bytes in memory (Tx); where a text is cut into runs (rn). -/
import Derived.Test.YtcjlkcpmljddfaaFns
namespace Go.Proofs.Ytcjlkcpmljddfaa
open Go.RowKit

def at8 (l : List UInt8) (i : Nat) : UInt8 := l.getD i 0

/-- The value '.slice ao n c' reads as the bytes l. -/
structure Tx (w : World) (ao : Option Addr) (n c : Nat) (l : List UInt8) : Prop where
  len : l.length = n
  cap : n ≤ c
  big : n ≤ 140737488355328
  nil : ao = none → c = 0
  cells : ∀ a, ao = some a → ∀ j, j < n → w.cell? (a.add j) = some (.int .u8 ((at8 l j).toNat : Int))

theorem lt_of_cell {w : World} {a : Addr} {v : Value} (h : w.cell? a = some v) : a.block < w.heap.size := by
  rcases Nat.lt_or_ge a.block w.heap.size with h' | h'
  · exact h'
  · simp [World.cell?, Array.getElem?_eq_none h'] at h
theorem Tx.keep {w w' : World} {ao : Option Addr} {n c : Nat} {l : List UInt8} (h : Tx w ao n c l) (hb : Below w.heap.size w w') : Tx w' ao n c l :=
  ⟨h.len, h.cap, h.big, h.nil, fun a ha j hj => by have h1 := h.cells a ha j hj; rw [hb.cell (lt_of_cell h1)]; exact h1⟩
theorem bAlloc {w W : World} (h : Below w.heap.size w W) (o : Obj) : Below w.heap.size w (W.alloc o) := h.alloc h.size o
theorem add_none (g o j : Nat) : (⟨g, o, none⟩ : Addr).add j = ⟨g, o + j, none⟩ := by unfold Addr.add; split <;> simp_all
theorem Tx.at {w : World} {ao : Option Addr} {n c : Nat} {l : List UInt8} (h : Tx w ao n c l) (hn : 0 < n) :
    ∃ g o, ao = some ⟨g, o, none⟩ ∧ ∀ j, j < n → w.cell? ⟨g, o + j, none⟩ = some (.int .u8 ((at8 l j).toNat : Int)) := by
  cases ao with
  | none => have := h.nil rfl; have := h.cap; omega
  | some a =>
    have h0 := h.cells a rfl 0 hn
    obtain ⟨g, o, s⟩ := a
    have hs : s = none := by simpa [Addr.add] using World.cell?_spot h0
    subst hs
    exact ⟨g, o, rfl, fun j hj => by have := h.cells _ rfl j hj; rwa [add_none] at this⟩

theorem Tx.none {w : World} {n c : Nat} {l : List UInt8} (h : Tx w none n c l) : n = 0 ∧ c = 0 ∧ l = [] := by
  have h1 := h.nil rfl
  have h2 := h.cap
  have h3 := h.len
  exact ⟨by omega, h1, List.eq_nil_of_length_eq_zero (by omega)⟩
theorem tx_nil (w : World) : Tx w none 0 0 [] := ⟨rfl, Nat.le_refl _, by omega, fun _ => rfl, fun _ h => by simp at h⟩


/-- a run ends behind the byte i -/
def cut (K : Nat → Int) (n i : Nat) : Bool := decide (i + 1 = n ∨ ¬ K i = K (i + 1))
/-- the ends of the runs among the first k bytes -/
def rn (K : Nat → Int) (n k : Nat) : List Nat := ((List.range k).filter (cut K n)).map (· + 1)
theorem rn_yes {K : Nat → Int} {n k : Nat} (h : cut K n k = true) : rn K n (k + 1) = rn K n k ++ [k + 1] := by
  unfold rn; rw [List.range_succ, List.filter_append, List.map_append]; simp [h]
theorem rn_no {K : Nat → Int} {n k : Nat} (h : cut K n k = false) : rn K n (k + 1) = rn K n k := by
  unfold rn; rw [List.range_succ, List.filter_append, List.map_append]; simp [h]
theorem rn_len (K : Nat → Int) (n k : Nat) : (rn K n k).length ≤ k := by
  unfold rn; rw [List.length_map]; exact Nat.le_trans (List.length_filter_le _ _) (by rw [List.length_range]; exact Nat.le_refl _)
theorem rn_more (K : Nat → Int) (n f : Nat) : ∀ d, ∃ X, rn K n (f + d) = rn K n f ++ X
  | 0 => ⟨[], by simp⟩
  | d + 1 => by
    obtain ⟨X, hX⟩ := rn_more K n f d
    cases h : cut K n (f + d) with
    | true => exact ⟨X ++ [f + d + 1], by rw [← Nat.add_assoc, rn_yes h, hX, List.append_assoc]⟩
    | false => exact ⟨X, by rw [← Nat.add_assoc, rn_no h, hX]⟩
theorem rn_calm (K : Nat → Int) (n f : Nat) : ∀ d, (∀ j, f ≤ j → j < f + d → cut K n j = false) → rn K n (f + d) = rn K n f
  | 0, _ => by simp
  | d + 1, h => by rw [← Nat.add_assoc, rn_no (h _ (by omega) (by omega)), rn_calm K n f d (fun j h1 h2 => h j h1 (by omega))]
/-- the next run's end -/
theorem first_cut (K : Nat → Int) (n : Nat) : ∀ d f, f + d = n → 0 < d → ∃ e, f < e ∧ e ≤ n ∧ cut K n (e - 1) = true ∧ ∀ j, f ≤ j → j + 1 < e → cut K n j = false
  | 0, _, _, h => by omega
  | d + 1, f, h, _ => by
    cases hc : cut K n f with
    | true => exact ⟨f + 1, by omega, by omega, hc, fun j h1 h2 => by omega⟩
    | false =>
      have hd : 0 < d := by
        rcases Nat.eq_zero_or_pos d with h0 | h0
        · subst h0
          have : cut K n f = true := decide_eq_true (.inl (by omega))
          rw [hc] at this; cases this
        · exact h0
      obtain ⟨e, h1, h2, h3, h4⟩ := first_cut K n d (f + 1) (by omega) hd
      refine ⟨e, by omega, h2, h3, fun j h5 h6 => ?_⟩
      rcases Nat.lt_or_ge f j with h7 | h7
      · exact h4 j (by omega) h6
      · obtain rfl : j = f := by omega
        exact hc
theorem calm_same {K : Nat → Int} {n f e : Nat} (h : ∀ j, f ≤ j → j + 1 < e → cut K n j = false) : ∀ d, f + d < e → K (f + d) = K f
  | 0, _ => rfl
  | d + 1, hd => by
    have h1 := h (f + d) (by omega) (by omega)
    have h2 := calm_same h d (by omega)
    have h3 := of_decide_eq_false h1
    rw [← Nat.add_assoc, ← h2]
    apply Classical.byContradiction
    intro h4
    exact h3 (.inr fun h5 => h4 h5.symm)
/-- behind i runs, at f -/
theorem run_next {K : Nat → Int} {n f : Nat} (hf : f < n) : ∃ e, f < e ∧ e ≤ n ∧ rn K n e = rn K n f ++ [e] ∧ (rn K n n)[(rn K n f).length]? = some e ∧ (∀ j, f ≤ j → j < e → K j = K f) ∧ (e < n → ¬ K e = K f) := by
  obtain ⟨e, h1, h2, h3, h4⟩ := first_cut K n (n - f) f (by omega) (by omega)
  have hr : rn K n e = rn K n f ++ [e] := by
    have e1 : e - 1 + 1 = e := by omega
    have := rn_yes h3
    rw [e1] at this
    rw [this]
    have h5 := rn_calm K n f (e - 1 - f) (fun j h6 h7 => h4 j h6 (by omega))
    rw [show f + (e - 1 - f) = e - 1 from by omega] at h5
    rw [h5]
  have hK : ∀ j, f ≤ j → j < e → K j = K f := fun j h5 h6 => by
    have := calm_same h4 (j - f) (by omega)
    rwa [show f + (j - f) = j from by omega] at this
  refine ⟨e, h1, h2, hr, ?_, hK, fun h5 h6 => ?_⟩
  · obtain ⟨X, hX⟩ := rn_more K n e (n - e)
    rw [show e + (n - e) = n from by omega] at hX
    rw [hX, hr, List.append_assoc, List.getElem?_append_right (Nat.le_refl _), Nat.sub_self]; rfl
  · have h7 := of_decide_eq_true h3
    have h8 := hK (e - 1) (by omega) (by omega)
    rw [show e - 1 + 1 = e from by omega] at h7
    rcases h7 with h7 | h7
    · omega
    · exact h7 (h8.trans h6.symm)

/-- the kind of the byte i -/
def kn (l : List UInt8) (big : Bool) (i : Nat) : Int := kd ((at8 l i).toNat : Int) big
theorem kd_big {x y : Int} (h : kd x false = kd y false) : kd x true = kd y true := by
  unfold kd at h ⊢
  simp only [Bool.false_eq_true, false_or, true_or, if_true] at h ⊢
  repeat' split at h
  all_goals (first | omega | (repeat' split) <;> omega)
theorem rn_big (l : List UInt8) (n : Nat) : (rn (kn l true) n n).length ≤ (rn (kn l false) n n).length := by
  unfold rn
  rw [List.length_map, List.length_map, ← List.countP_eq_length_filter, ← List.countP_eq_length_filter]
  refine List.countP_mono_left fun i _ h => ?_
  have h1 := of_decide_eq_true h
  refine decide_eq_true ?_
  rcases h1 with h1 | h1
  · exact .inl h1
  · exact .inr fun h2 => h1 (kd_big h2)

/-- numbers as cells -/
def iv (l : List Nat) : List Value := l.map fun (x : Nat) => Value.int .i64 (x : Int)
theorem iv_length (l : List Nat) : (iv l).length = l.length := by simp [iv]
theorem iv_one (l : List Nat) : ∀ u ∈ iv l, u.oneCell' = true := by
  intro u hu; obtain ⟨x, _, rfl⟩ := List.mem_map.1 hu; rfl
theorem iv_snoc (l : List Nat) (k : Nat) : iv (l ++ [k]) = iv l ++ [.int .i64 (k : Int)] := by simp [iv]
theorem iv_at {l : List Nat} {i k : Nat} (h : l[i]? = some k) : (iv l)[i]? = some (.int .i64 (k : Int)) := by simp [iv, h]
end Go.Proofs.Ytcjlkcpmljddfaa
