/- Where a cursor rests: plain facts; and the contracts of lines' functions at a place, their answers known. -/
import Derived.Test.YtbkhbnmihnomaaaRef2
namespace Go.Proofs.Ytbkhbnmihnomaaa
open Go.RowKit

theorem bT {a b c : World} (h1 : Below a.heap.size a b) (h2 : Below b.heap.size b c) : Below a.heap.size a c := h1.trans (h2.mono h1.size)
theorem cl_nat {l : List UInt8} {k : Nat} (h : k ≤ l.length) : cl l (k : Int) = k := by
  unfold cl; rw [if_neg (by omega), if_neg (by omega)]; simp
theorem rs_cases {l : List UInt8} {i : Nat} (h : i ≤ l.length) : rs l i = i ∨ (rs l i = i - 1 ∧ 0 < i ∧ le (at8 l (i - 1)) = false ∧ (i = l.length ∨ le (at8 l i) = true)) := by
  unfold rs
  by_cases hc : (i < l.length ∧ le (at8 l i) = false) ∨ bg l i = i
  · rw [if_pos hc]; exact .inl rfl
  · rw [if_neg hc]
    have h0 : 0 < i := by
      rcases Nat.eq_zero_or_pos i with e | e
      · subst e; exact absurd (.inr rfl) hc
      · exact e
    refine .inr ⟨rfl, h0, ?_, ?_⟩
    · cases hb : le (at8 l (i - 1)) with
      | false => rfl
      | true => exact absurd (.inr (bg_yes h0 hb)) hc
    · rcases Nat.lt_or_ge i l.length with hl | hl
      · cases hb : le (at8 l i) with
        | true => exact .inr rfl
        | false => exact absurd (.inl ⟨hl, hb⟩) hc
      · exact .inl (by omega)
theorem rs_le {l : List UInt8} {i : Nat} (h : i ≤ l.length) : rs l i ≤ i := by rcases rs_cases h with e | ⟨e, _⟩ <;> omega
theorem rs_ge {l : List UInt8} {i : Nat} (h : i ≤ l.length) : i ≤ rs l i + 1 := by rcases rs_cases h with e | ⟨e, _⟩ <;> omega
theorem rs_again {l : List UInt8} {i : Nat} (h : i ≤ l.length) : rs l (rs l i) = rs l i := by
  rcases rs_cases h with e | ⟨e, h0, hb, _⟩
  · rw [e, e]
  · rw [e]
    unfold rs
    rw [if_pos (.inl ⟨by omega, hb⟩)]
theorem rs_line {l : List UInt8} {i : Nat} (h : i ≤ l.length) : nl (l.take (rs l i)) = nl (l.take i) := by
  rcases rs_cases h with e | ⟨e, h0, hb, _⟩
  · rw [e]
  · have := nl_take l (i - 1) (by omega)
    rw [hb, show i - 1 + 1 = i from by omega] at this
    rw [e, this]; rfl
theorem rs_pc {l : List UInt8} {i : Nat} (h : i ≤ l.length) : pc (bg l i) (en l (bg l i)) ((i - bg l i : Nat) : Int) = rs l i := by
  have hb := bg_le l i
  have hE := place_en h
  have hEl := en_le (t := l) (s := bg l i) (by omega)
  unfold pc
  by_cases hlt : i < en l (bg l i)
  · rw [if_pos (by omega)]
    have : rs l i = i := by unfold rs; rw [if_pos (.inl ⟨by omega, en_none hb hlt⟩)]
    rw [this]; simp; omega
  · have hi : en l (bg l i) = i := by omega
    rw [if_neg (by omega), hi]
    rcases rs_cases h with e | ⟨e, h0, h1, h2⟩
    · rw [e]
      unfold lb
      rcases Nat.lt_or_ge (bg l i) i with hl | hl
      · exfalso
        unfold rs at e
        rcases Nat.lt_or_ge i l.length with h3 | h3
        · have h4 := en_edge (t := l) (s := bg l i) (by omega)
          rw [hi] at h4
          rw [if_neg (fun h => by rcases h with h | h; (rw [h4] at h; simp at h); omega)] at e
          omega
        · rw [if_neg (fun h => by rcases h with h | h <;> omega)] at e
          omega
      · omega
    · rw [e]
      have : bg l i ≠ i := bg_no h0 h1
      unfold lb; omega

/-- Rest, its answer known -/
theorem of_is {ao : Option Addr} {n c k : Nat} {l : List UInt8} {w : World} (hk : k ≤ n) (HT : Hid (Tx w ao n c l)) :
    Calls Try.prog 14 #[.slice ao n c, .int .i64 k] w fun e w' => e = .returned (.tuple #[.int .i64 (nl (l.take k)), .int .i64 0]) ∧ Below w.heap.size w w' := by
  have := of_any ao n c k l w HT
  have e : pr (aOf l (k : Int)) = .returned (.tuple #[.int .i64 (nl (l.take k)), .int .i64 0]) := by
    unfold pr aOf ans plB; rw [decide_eq_true (by have := HT.out.len; omega)]; rfl
  rwa [e] at this
theorem col_is {ao : Option Addr} {n c k : Nat} {l : List UInt8} {w : World} (hk : k ≤ n) (HT : Hid (Tx w ao n c l)) :
    Calls Try.prog 33 #[.slice ao n c, .int .i64 k] w fun e w' => e = .returned (.tuple #[.int .i64 ((k - bg l k : Nat) : Int), .int .i64 0]) ∧ w' = w := by
  have := column_any ao n c k l w HT
  have e : pr (aCol l (k : Int)) = .returned (.tuple #[.int .i64 ((k - bg l k : Nat) : Int), .int .i64 0]) := by
    unfold pr aCol ans plB; rw [decide_eq_true (by have := HT.out.len; omega)]; rfl
  rwa [e] at this
theorem ln_at (l : List UInt8) (k : Nat) : lnB l (nl (l.take k) : Nat) = true := decide_eq_true ⟨by omega, by have := nl_take_le l k; omega⟩
theorem at_is {ao : Option Addr} {n c k : Nat} {l : List UInt8} {w : World} (hk : k ≤ n) (HT : Hid (Tx w ao n c l)) :
    Calls Try.prog 18 #[.slice ao n c, .int .i64 (nl (l.take k)), .int .i64 ((k - bg l k : Nat) : Int)] w fun e w' => e = .returned (.tuple #[.int .i64 (rs l k), .int .i64 0]) ∧ w' = w := by
  have hl := HT.out.len
  have hb := HT.out.big
  have h1 := nl_take_le l k
  have h2 := nl_le l
  have := at_any ao n c (nl (l.take k) : Nat) ((k - bg l k : Nat) : Int) l w (by omega) (by omega) HT
  have e : pr (aAt l (nl (l.take k) : Nat) ((k - bg l k : Nat) : Int)) = .returned (.tuple #[.int .i64 (rs l k), .int .i64 0]) := by
    unfold pr aAt ans
    rw [ln_at, decide_eq_true (by omega), Int.toNat_natCast, sp_of l k (by omega), rs_pc (by omega)]; rfl
  rwa [e] at this
theorem start_is {ao : Option Addr} {n c k : Nat} {l : List UInt8} {w : World} (hk : k ≤ n) (HT : Hid (Tx w ao n c l)) :
    Calls Try.prog 48 #[.slice ao n c, .int .i64 (nl (l.take k))] w fun e w' => e = .returned (.tuple #[.int .i64 (bg l k), .int .i64 0]) ∧ w' = w := by
  have hl := HT.out.len
  have hb := HT.out.big
  have h1 := nl_take_le l k
  have h2 := nl_le l
  have := start_any ao n c (nl (l.take k) : Nat) l w (by omega) HT
  have e : pr (aStart l (nl (l.take k) : Nat)) = .returned (.tuple #[.int .i64 (bg l k), .int .i64 0]) := by
    unfold pr aStart ans
    rw [ln_at, Int.toNat_natCast, sp_of l k (by omega)]; rfl
  rwa [e] at this
theorem end_is {ao : Option Addr} {n c k : Nat} {l : List UInt8} {w : World} (hk : k ≤ n) (HT : Hid (Tx w ao n c l)) :
    Calls Try.prog 17 #[.slice ao n c, .int .i64 (nl (l.take k))] w fun e w' => e = .returned (.tuple #[.int .i64 (en l (bg l k)), .int .i64 0]) ∧ w' = w := by
  have hl := HT.out.len
  have hb := HT.out.big
  have h1 := nl_take_le l k
  have h2 := nl_le l
  have := end_any ao n c (nl (l.take k) : Nat) l w (by omega) HT
  have e : pr (aEnd l (nl (l.take k) : Nat)) = .returned (.tuple #[.int .i64 (en l (bg l k)), .int .i64 0]) := by
    unfold pr aEnd ans
    rw [ln_at, Int.toNat_natCast, sp_of l k (by omega)]; rfl
  rwa [e] at this

end Go.Proofs.Ytbkhbnmihnomaaa
