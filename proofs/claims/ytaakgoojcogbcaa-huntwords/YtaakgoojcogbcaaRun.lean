/- Matches of a list of things, and what a search tells (pure). -/
import Derived.Test.YtaakgoojcogbcaaKnd
namespace Go.Proofs.Ytaakgoojcogbcaa
open Go.RowKit

/-- a thing: 0 one, 1 many, 2 the line's beginning, 3 its end, 4 a word's beginning, 5 its end -/
structure Th where
  k : Nat
  s : Nat → Bool
def th (l : List Th) (k : Nat) : Th := l.getD k ⟨9, fun _ => false⟩
/-- no place -/
def N0 : Nat := 9223372036854775807
/-- is a word's byte there? -/
def iw (line : List UInt8) (i : Int) : Bool := decide (0 ≤ i ∧ i < (line.length : Int)) && decide (kd ((at8 line i.toNat).toNat : Int) false = 2)
/-- does a thing let pass without a byte? -/
def fr (line : List UInt8) (t : Th) (p : Nat) : Bool :=
  if t.k = 0 then false else if t.k = 1 then true else if t.k = 2 then decide (p = 0) else if t.k = 3 then decide (p = line.length) else if t.k = 4 then iw line p && !iw line ((p : Int) - 1) else iw line ((p : Int) - 1) && !iw line p
def tk1 (t : Th) (b : Nat) : Bool := decide (t.k = 0) && t.s b
def tkm (t : Th) (b : Nat) : Bool := decide (t.k = 1) && t.s b
/-- the byte -/
def bn (line : List UInt8) (i : Nat) : Nat := (at8 line i).toNat
theorem bn_lt (line : List UInt8) (i : Nat) : bn line i < 256 := (at8 line i).toNat_lt

/-! Vectors: of truths, of places. -/
def Pb (l : List Th) (line : List UInt8) (p : Nat) (v : Nat → Bool) : Nat → Bool
  | 0 => v 0
  | k + 1 => v (k + 1) || (fr line (th l k) p && Pb l line p v k)
def Rb (l : List Th) (b : Nat) (v : Nat → Bool) (k : Nat) : Bool :=
  (decide (0 < k) && (tk1 (th l (k - 1)) b && v (k - 1))) || (decide (k < l.length) && (tkm (th l k) b && v k))
def V (l : List Th) (line : List UInt8) (s : Nat) : Nat → Nat → Bool
  | 0 => if s = 0 then Pb l line 0 (fun k => decide (k = 0)) else fun _ => false
  | p + 1 => if s = p + 1 then Pb l line (p + 1) (fun k => decide (k = 0)) else Pb l line (p + 1) (Rb l (bn line p) (V l line s p))
/-- the things match from s to b -/
def M (l : List Th) (line : List UInt8) (s b : Nat) : Bool := V l line s b l.length

def Pn (l : List Th) (line : List UInt8) (p : Nat) (g : Nat → Nat) : Nat → Nat
  | 0 => g 0
  | k + 1 => if fr line (th l k) p then min (g (k + 1)) (Pn l line p g k) else g (k + 1)
def Rn (l : List Th) (b : Nat) (g : Nat → Nat) (k : Nat) : Nat :=
  min (if 0 < k ∧ tk1 (th l (k - 1)) b = true then g (k - 1) else N0) (if k < l.length ∧ tkm (th l k) b = true then g k else N0)

theorem Pb_some {l : List Th} {line : List UInt8} {p : Nat} {v : Nat → Bool} {C : Nat → Prop} {u : Nat → Nat → Bool} (h : ∀ k, v k = true ↔ ∃ s, C s ∧ u s k = true) :
    ∀ k, Pb l line p v k = true ↔ ∃ s, C s ∧ Pb l line p (u s) k = true
  | 0 => h 0
  | k + 1 => by
    have ih := Pb_some (l := l) (line := line) (p := p) h k
    unfold Pb
    rw [Bool.or_eq_true, Bool.and_eq_true, h (k + 1), ih]
    constructor
    · rintro (⟨s, h1, h2⟩ | ⟨h0, s, h1, h2⟩)
      · exact ⟨s, h1, by rw [h2]; rfl⟩
      · exact ⟨s, h1, by rw [h0, h2]; simp⟩
    · rintro ⟨s, h1, h2⟩
      rw [Bool.or_eq_true, Bool.and_eq_true] at h2
      rcases h2 with h2 | ⟨h0, h2⟩
      · exact .inl ⟨s, h1, h2⟩
      · exact .inr ⟨h0, s, h1, h2⟩
theorem Rb_some {l : List Th} {b : Nat} {v : Nat → Bool} {C : Nat → Prop} {u : Nat → Nat → Bool} (h : ∀ k, v k = true ↔ ∃ s, C s ∧ u s k = true) (k : Nat) :
    Rb l b v k = true ↔ ∃ s, C s ∧ Rb l b (u s) k = true := by
  unfold Rb
  rw [Bool.or_eq_true, Bool.and_eq_true, Bool.and_eq_true, Bool.and_eq_true, Bool.and_eq_true, h k, h (k - 1)]
  constructor
  · rintro (⟨h0, h3, s, h1, h2⟩ | ⟨h0, h3, s, h1, h2⟩)
    · exact ⟨s, h1, by rw [h0, h2, h3]; simp⟩
    · exact ⟨s, h1, by rw [h0, h2, h3]; simp⟩
  · rintro ⟨s, h1, h2⟩
    rw [Bool.or_eq_true, Bool.and_eq_true, Bool.and_eq_true, Bool.and_eq_true, Bool.and_eq_true] at h2
    rcases h2 with ⟨h0, h3, h2⟩ | ⟨h0, h3, h2⟩
    · exact .inl ⟨h0, h3, s, h1, h2⟩
    · exact .inr ⟨h0, h3, s, h1, h2⟩
theorem Pn_le {l : List Th} {line : List UInt8} {p : Nat} {g : Nat → Nat} (T : Nat) : ∀ k, Pn l line p g k ≤ T ↔ Pb l line p (fun k => decide (g k ≤ T)) k = true
  | 0 => by unfold Pn Pb; simp
  | k + 1 => by
    have ih := Pn_le (l := l) (line := line) (p := p) (g := g) T k
    unfold Pn Pb
    rw [Bool.or_eq_true, Bool.and_eq_true, ← ih]
    split
    · rename_i h; rw [h]; simp; omega
    · rename_i h; simp [h]
theorem Rn_le {l : List Th} {b : Nat} {g : Nat → Nat} {T : Nat} (hT : T < N0) (k : Nat) : Rn l b g k ≤ T ↔ Rb l b (fun k => decide (g k ≤ T)) k = true := by
  unfold Rn Rb
  rw [Bool.or_eq_true, Bool.and_eq_true, Bool.and_eq_true, Bool.and_eq_true, Bool.and_eq_true]
  simp only [decide_eq_true_eq]
  rw [show ∀ x y : Nat, min x y ≤ T ↔ x ≤ T ∨ y ≤ T from fun x y => by omega]
  constructor
  · rintro (h | h)
    · split at h
      · rename_i hh; exact .inl ⟨hh.1, hh.2, h⟩
      · omega
    · split at h
      · rename_i hh; exact .inr ⟨hh.1, hh.2, h⟩
      · omega
  · rintro (⟨h1, h2, h3⟩ | ⟨h1, h2, h3⟩)
    · exact .inl (by rw [if_pos ⟨h1, h2⟩]; exact h3)
    · exact .inr (by rw [if_pos ⟨h1, h2⟩]; exact h3)
theorem Pb_false (l : List Th) (line : List UInt8) (p : Nat) {v : Nat → Bool} (h : ∀ k, v k = false) : ∀ k, Pb l line p v k = false
  | 0 => h 0
  | k + 1 => by unfold Pb; rw [h, Pb_false l line p h k]; simp
theorem Rb_false (l : List Th) (b : Nat) {v : Nat → Bool} (h : ∀ k, k < l.length → v k = false) {k : Nat} (hk : k ≤ l.length) : Rb l b v k = false := by
  unfold Rb
  by_cases h0 : 0 < k
  · rw [h (k - 1) (by omega)]
    by_cases h1 : k < l.length
    · rw [h k h1]; simp
    · simp [h1]
  · by_cases h1 : k < l.length
    · rw [h k h1]; simp [h0]
    · simp [h0, h1]
theorem Pb_to {l : List Th} {line : List UInt8} {p n : Nat} {v u : Nat → Bool} (h : ∀ k, k ≤ n → v k = u k) : ∀ k, k ≤ n → Pb l line p v k = Pb l line p u k
  | 0, hk => h 0 hk
  | k + 1, hk => by unfold Pb; rw [h _ hk, Pb_to h k (by omega)]
theorem Rb_to {l : List Th} {b n : Nat} {v u : Nat → Bool} (h : ∀ k, k ≤ n → v k = u k) (k : Nat) (hk : k ≤ n) : Rb l b v k = Rb l b u k := by
  unfold Rb; rw [h k hk, h (k - 1) (by omega)]
theorem V_high (l : List Th) (line : List UInt8) (s : Nat) : ∀ p, p < s → ∀ k, V l line s p k = false
  | 0, h, k => by unfold V; rw [if_neg (by omega)]
  | p + 1, h, k => by
    unfold V
    rw [if_neg (by omega)]
    have ih := V_high l line s p (by omega)
    refine Pb_false l line _ (fun k => ?_) k
    unfold Rb; rw [ih, ih]; simp
end Go.Proofs.Ytaakgoojcogbcaa
