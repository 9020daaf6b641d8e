/- The program's Byte, Lines, LineAt and the reference's answer the same, for every span and number. -/
import Derived.Test.YtfjfflkdcmpgnaaRefEnds
namespace Go.Proofs.Ytfjfflkdcmpgnaa
open Go.RowKit

/-- what Byte answers -/
def byV (s o l i : Int) (O A : List UInt8) : Int := if hdB s o l O A = true ∧ 0 ≤ i ∧ i < l then ((at8 (cutL s o l O A) i.toNat).toNat : Int) else 0
def byE (s o l i : Int) (O A : List UInt8) : Int := if hdB s o l O A = false then 10 else if i < 0 ∨ l ≤ i then 2 else 0
/-- what Lines answers -/
def lnV (s o l : Int) (O A : List UInt8) : Int := if hdB s o l O A = true then (nl (cutL s o l O A) : Int) else 0
def lnE (s o l : Int) (O A : List UInt8) : Int := if hdB s o l O A = true then 0 else 10
/-- what LineAt answers -/
def laV (s o l n : Int) (O A : List UInt8) : Int := if hdB s o l O A = true ∧ 0 ≤ n ∧ n < nl (cutL s o l O A) then ((endsTo (cutL s o l O A) (cutL s o l O A).length).getD n.toNat 0 : Int) else 0
def laE (s o l n : Int) (O A : List UInt8) : Int := if hdB s o l O A = false then 10 else if n < 0 ∨ (nl (cutL s o l O A) : Int) ≤ n then 2 else 0

theorem byte_all (p : Option Addr) (s o l i : Int) (O A : List UInt8) (base : Nat) (w : World) (h1 : -9223372036854775808 ≤ l) (h2 : l ≤ 9223372036854775807) (h : Bf w base p O A) :
    Calls Try.prog 27 #[.pointer p, .agg #[.int .i64 s, .int .i64 o, .int .i64 l], .int .i64 i] w fun e w' => e = .returned (.tuple #[.int .u8 (byV s o l i O A), .int .i64 (byE s o l i O A)]) ∧ Below w.heap.size w w' := by
  cases hd : hdB s o l O A with
  | false =>
    have e1 : byV s o l i O A = 0 := by unfold byV; rw [hd]; simp
    have e2 : byE s o l i O A = 10 := by unfold byE; rw [hd]; simp
    rw [e1, e2]; exact byte_no p s o l i O A base w h1 h2 hd h
  | true =>
    by_cases hi : i < 0
    · have e1 : byV s o l i O A = 0 := by unfold byV; rw [if_neg (by omega)]
      have e2 : byE s o l i O A = 2 := by unfold byE; rw [hd, if_neg (by simp), if_pos (.inl hi)]
      rw [e1, e2]; exact byte_low p s o l i O A base w h1 h2 hd hi h
    · by_cases hl : l ≤ i
      · have e1 : byV s o l i O A = 0 := by unfold byV; rw [if_neg (by omega)]
        have e2 : byE s o l i O A = 2 := by unfold byE; rw [hd, if_neg (by simp), if_pos (.inr hl)]
        rw [e1, e2]; exact byte_high p s o l i O A base w h1 h2 hd (by omega) hl h
      · have e1 : byV s o l i O A = ((at8 (cutL s o l O A) i.toNat).toNat : Int) := by unfold byV; rw [if_pos ⟨hd, by omega, by omega⟩]
        have e2 : byE s o l i O A = 0 := by unfold byE; rw [hd, if_neg (by simp), if_neg (by omega)]
        rw [e1, e2]
        obtain ⟨o', l', rfl, rfl, hs, hh, _⟩ := hd_parts hd
        obtain ⟨i', rfl⟩ := Int.eq_ofNat_of_zero_le (show 0 ≤ i by omega)
        exact byte_yes p s o' l' i' O A base w hs hh (by omega) h

theorem lines_all (p : Option Addr) (s o l : Int) (O A : List UInt8) (base : Nat) (w : World) (h1 : -9223372036854775808 ≤ l) (h2 : l ≤ 9223372036854775807) (h : Bf w base p O A) :
    Calls Try.prog 24 #[.pointer p, .agg #[.int .i64 s, .int .i64 o, .int .i64 l]] w fun e w' => e = .returned (.tuple #[.int .i64 (lnV s o l O A), .int .i64 (lnE s o l O A)]) ∧ Below w.heap.size w w' := by
  cases hd : hdB s o l O A with
  | false =>
    have e1 : lnV s o l O A = 0 := by unfold lnV; rw [hd]; simp
    have e2 : lnE s o l O A = 10 := by unfold lnE; rw [hd]; simp
    rw [e1, e2]; exact lines_no p s o l O A base w h1 h2 hd h
  | true =>
    have e1 : lnV s o l O A = (nl (cutL s o l O A) : Int) := by unfold lnV; rw [if_pos hd]
    have e2 : lnE s o l O A = 0 := by unfold lnE; rw [if_pos hd]
    rw [e1, e2]
    obtain ⟨o', l', rfl, rfl, hs, hh, _⟩ := hd_parts hd
    exact lines_yes p s o' l' O A base w hs hh h

theorem lineAt_all (p : Option Addr) (s o l n : Int) (O A : List UInt8) (base : Nat) (w : World) (h1 : -9223372036854775808 ≤ l) (h2 : l ≤ 9223372036854775807) (h3 : n ≤ 9223372036854775807) (h : Bf w base p O A) :
    Calls Try.prog 30 #[.pointer p, .agg #[.int .i64 s, .int .i64 o, .int .i64 l], .int .i64 n] w fun e w' => e = .returned (.tuple #[.int .i64 (laV s o l n O A), .int .i64 (laE s o l n O A)]) ∧ Below w.heap.size w w' := by
  cases hd : hdB s o l O A with
  | false =>
    have e1 : laV s o l n O A = 0 := by unfold laV; rw [hd]; simp
    have e2 : laE s o l n O A = 10 := by unfold laE; rw [hd]; simp
    rw [e1, e2]; exact lineAt_no p s o l n O A base w h1 h2 hd h
  | true =>
    by_cases hi : n < 0
    · have e1 : laV s o l n O A = 0 := by unfold laV; rw [if_neg (by omega)]
      have e2 : laE s o l n O A = 2 := by unfold laE; rw [hd, if_neg (by simp), if_pos (.inl hi)]
      rw [e1, e2]; exact lineAt_low p s o l n O A base w h1 h2 hd hi h
    · obtain ⟨n', rfl⟩ := Int.eq_ofNat_of_zero_le (show 0 ≤ n by omega)
      obtain ⟨o', l', rfl, rfl, hs, hh, _⟩ := hd_parts hd
      by_cases hl : (nl (cutL s o' l' O A) : Int) ≤ (n' : Int)
      · have e1 : laV s o' l' n' O A = 0 := by unfold laV; rw [if_neg (by omega)]
        have e2 : laE s o' l' n' O A = 2 := by unfold laE; rw [hd, if_neg (by simp), if_pos (.inr hl)]
        rw [e1, e2]; exact lineAt_high p s o' l' n' O A base w hs hh (by omega) (show nl (cutL s o' l' O A) ≤ n' by omega) h
      · obtain ⟨q, hq1, hq2⟩ := endsTo_at (cutL s o' l' O A) (cutL s o' l' O A).length n' (Nat.le_refl _) (by rw [List.take_length]; omega)
        have e1 : laV s o' l' n' O A = (q : Int) := by unfold laV; rw [if_pos ⟨hd, by omega, by omega⟩, Int.toNat_natCast]; simp [List.getD, hq1]
        have e2 : laE s o' l' n' O A = 0 := by unfold laE; rw [hd, if_neg (by simp), if_neg (by omega)]
        rw [e1, e2]
        exact lineAt_yes p s o' l' n' q O A base w hs hh (by omega) hq2 h
end Go.Proofs.Ytfjfflkdcmpgnaa
