/- How a pattern is read (pure). -/
import Derived.Test.YtaakgoojcogbcaaRd
namespace Go.Proofs.Ytaakgoojcogbcaa
open Go.RowKit
def one (s : Nat → Bool) : Th := ⟨0, s⟩
def many (s : Nat → Bool) : Th := ⟨1, s⟩
def fre (k : Nat) : Th := ⟨k, fun _ => false⟩
/-- a set's items from i on: where they end, what they hold, the first fault -/
def sl (p : List UInt8) (first : Nat) : Nat → Nat → (Nat → Bool) → Int → Nat × (Nat → Bool) × Int
  | 0, i, s, f => (i, s, f)
  | m + 1, i, s, f =>
    if i < p.length ∧ (i = first ∨ bn p i ≠ 93) then
      sl p first m (i + (itm p i).2.2) (fun x => s x || (decide ((itm p i).1 ≤ x) && decide (x ≤ (itm p i).2.1))) (if (itm p i).2.1 < (itm p i).1 ∧ f = -1 then (i : Int) else f)
    else (i, s, f)
/-- the set whose bracket stands at i: is it turned, where its items begin -/
def ngd (p : List UInt8) (i : Nat) : Bool := decide (i + 1 < p.length) && decide (bn p (i + 1) = 94)
def fst1 (p : List UInt8) (i : Nat) : Nat := if ngd p i then i + 2 else i + 1
def sR (p : List UInt8) (i : Nat) : Nat × (Nat → Bool) × Int := sl p (fst1 p i) p.length (fst1 p i) (fun _ => false) (-1)
/-- what is read: the fault or -1, the next place, the things -/
def rd1 (p : List UInt8) (i : Nat) (l : List Th) : Int × Nat × List Th :=
  if bn p i = 94 ∧ i = 0 then (-1, i + 1, l ++ [fre 2])
  else if bn p i = 36 ∧ i + 1 = p.length then (-1, i + 1, l ++ [fre 3])
  else if bn p i = 42 then
    if l = [] ∨ (th l (l.length - 1)).k = 2 then (-1, i + 1, l ++ [one fun x => x == 42])
    else if (th l (l.length - 1)).k = 0 then (-1, i + 1, l.dropLast ++ [many (th l (l.length - 1)).s])
    else (i, i, l)
  else if bn p i = 92 then
    if i + 1 = p.length then (i, i, l)
    else if bn p (i + 1) = 60 then (-1, i + 2, l ++ [fre 4])
    else if bn p (i + 1) = 62 then (-1, i + 2, l ++ [fre 5])
    else (-1, i + 2, l ++ [one fun x => x == bn p (i + 1)])
  else if bn p i = 91 then
    if (sR p i).1 = p.length then (i, i, l)
    else ((sR p i).2.2, (sR p i).1 + 1, l ++ [one (if ngd p i then fun x => !(sR p i).2.1 x else (sR p i).2.1)])
  else if bn p i = 46 then (-1, i + 1, l ++ [one fun _ => true])
  else (-1, i + 1, l ++ [one fun x => x == bn p i])
/-- a whole pattern: the fault or -1, and the things -/
def rdA (p : List UInt8) : Nat → Nat → List Th → Int × List Th
  | 0, _, l => (-1, l)
  | m + 1, i, l => if i < p.length then (if (rd1 p i l).1 = -1 then rdA p m (rd1 p i l).2.1 (rd1 p i l).2.2 else ((rd1 p i l).1, [])) else (-1, l)
def cmp (p : List UInt8) : Int × List Th := rdA p p.length 0 []

theorem itm_size (p : List UInt8) (i : Nat) (h : i < p.length) : 1 ≤ (itm p i).2.2 ∧ i + (itm p i).2.2 ≤ p.length ∧ (itm p i).1 < 256 ∧ (itm p i).2.1 < 256 := by
  unfold itm
  have h1 := bn_lt p i
  have h2 := bn_lt p (i + 2)
  split
  · exact ⟨by show 1 ≤ 3; omega, by show i + 3 ≤ _; omega, h1, h2⟩
  · exact ⟨Nat.le_refl _, by show i + 1 ≤ _; omega, h1, h1⟩
theorem sl_end (p : List UInt8) (first : Nat) : ∀ m i s f, i ≤ p.length → i ≤ (sl p first m i s f).1 ∧ (sl p first m i s f).1 ≤ p.length ∧ ((sl p first m i s f).2.2 = f ∨ (0 ≤ (sl p first m i s f).2.2 ∧ (sl p first m i s f).2.2 < p.length))
  | 0, i, s, f, h => ⟨Nat.le_refl _, h, .inl rfl⟩
  | m + 1, i, s, f, h => by
    unfold sl
    split
    · rename_i hc
      have hz := itm_size p i hc.1
      have ih := sl_end p first m (i + (itm p i).2.2) (fun x => s x || (decide ((itm p i).1 ≤ x) && decide (x ≤ (itm p i).2.1))) (if (itm p i).2.1 < (itm p i).1 ∧ f = -1 then (i : Int) else f) hz.2.1
      refine ⟨by omega, ih.2.1, ?_⟩
      rcases ih.2.2 with e | e
      · rw [e]; split
        · exact .inr ⟨by omega, by omega⟩
        · exact .inl rfl
      · exact .inr e
    · exact ⟨Nat.le_refl _, h, .inl rfl⟩
theorem fst1_ge (p : List UInt8) (i : Nat) : i + 1 ≤ fst1 p i := by unfold fst1; split <;> omega
theorem fst1_le {p : List UInt8} {i : Nat} (h : i < p.length) : fst1 p i ≤ p.length := by
  unfold fst1
  split
  · rename_i hn; unfold ngd at hn; simp at hn; omega
  · omega
theorem sR_end {p : List UInt8} {i : Nat} (h : i < p.length) : i + 1 ≤ (sR p i).1 ∧ (sR p i).1 ≤ p.length ∧ ((sR p i).2.2 = -1 ∨ (0 ≤ (sR p i).2.2 ∧ (sR p i).2.2 < p.length)) := by
  have := sl_end p (fst1 p i) p.length (fst1 p i) (fun _ => false) (-1) (fst1_le h)
  have h2 := fst1_ge p i
  exact ⟨by unfold sR; omega, this.2.1, this.2.2⟩
/-- the things' number never outgrows the place -/
theorem rd1_ok {p : List UInt8} {i : Nat} {l : List Th} (h : i < p.length) (hl : l.length ≤ i) : i ≤ (rd1 p i l).2.1 ∧ ((rd1 p i l).1 = -1 → i < (rd1 p i l).2.1) ∧ (rd1 p i l).2.1 ≤ p.length ∧ (rd1 p i l).2.2.length ≤ (rd1 p i l).2.1 ∧ ((rd1 p i l).1 = -1 ∨ (0 ≤ (rd1 p i l).1 ∧ (rd1 p i l).1 < p.length)) := by
  have hs := sR_end h
  have hd : (l.dropLast).length ≤ i := by simp; omega
  unfold rd1
  repeat' split
  all_goals dsimp only
  all_goals try simp only [List.length_append, List.length_cons, List.length_nil]
  all_goals refine ⟨by omega, fun hh => by omega, by omega, by omega, ?_⟩
  all_goals first | exact .inl rfl | exact .inl trivial | exact .inr ⟨by omega, by omega⟩ | omega | simp
end Go.Proofs.Ytaakgoojcogbcaa
