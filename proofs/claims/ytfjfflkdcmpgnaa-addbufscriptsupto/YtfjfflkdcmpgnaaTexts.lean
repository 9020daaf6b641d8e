/- Plain facts on lists: the spans that Add tells, and the bytes that they stand for. -/
import Derived.Test.YtfjfflkdcmpgnaaLined
namespace Go.Proofs.Ytfjfflkdcmpgnaa
open Go.RowKit

/-- what was added by the first j texts -/
def flat (T : List (List UInt8)) (j : Nat) : List UInt8 := (T.take j).flatten
/-- text number j -/
def txt (T : List (List UInt8)) (j : Nat) : List UInt8 := T.getD j []
/-- the original text, and then the texts -/
def allT (O : List UInt8) (T : List (List UInt8)) (j : Nat) : List UInt8 := (O :: T).getD j []
def spS (j : Nat) : Int := if j = 0 then 0 else 1
def spO (T : List (List UInt8)) (j : Nat) : Nat := (flat T (j - 1)).length
def spL (O : List UInt8) (T : List (List UInt8)) (j : Nat) : Nat := (allT O T j).length
/-- the bytes counted by the law's first loop -/
def tot (O : List UInt8) (T : List (List UInt8)) (j : Nat) : Nat := O.length + (flat T j).length + j
/-- the cells of the first n spans -/
def spCells (O : List UInt8) (T : List (List UInt8)) (n : Nat) : List Value :=
  (List.range n).flatMap fun j => [.int .i64 (spS j), .int .i64 (spO T j : Int), .int .i64 (spL O T j : Int)]

theorem flat_zero (T : List (List UInt8)) : flat T 0 = [] := by simp [flat]
theorem flat_succ (T : List (List UInt8)) (j : Nat) (h : j < T.length) : flat T (j + 1) = flat T j ++ txt T j := by
  unfold flat txt
  rw [List.take_succ_eq_append_getElem h, List.flatten_append]
  simp [List.getD, h]
theorem txt_eq (T : List (List UInt8)) (j : Nat) (h : j < T.length) : txt T j = T[j] := by simp [txt, h]
theorem allT_zero (O : List UInt8) (T : List (List UInt8)) : allT O T 0 = O := by simp [allT]
theorem allT_succ (O : List UInt8) (T : List (List UInt8)) (j : Nat) : allT O T (j + 1) = txt T j := by simp [allT, txt]
theorem tot_zero (O : List UInt8) (T : List (List UInt8)) : tot O T 0 = O.length := by simp [tot, flat]
theorem tot_succ (O : List UInt8) (T : List (List UInt8)) (j : Nat) (h : j < T.length) : tot O T (j + 1) = tot O T j + ((txt T j).length + 1) := by
  unfold tot; rw [flat_succ T j h, List.length_append]; omega
theorem spCells_length (O : List UInt8) (T : List (List UInt8)) (n : Nat) : (spCells O T n).length = n * 3 := by
  unfold spCells
  induction n with
  | zero => simp
  | succ n ih => rw [List.range_succ, List.flatMap_append, List.length_append, ih]; simp; omega
theorem spCells_succ (O : List UInt8) (T : List (List UInt8)) (n : Nat) : spCells O T (n + 1) = spCells O T n ++ [.int .i64 (spS n), .int .i64 (spO T n : Int), .int .i64 (spL O T n : Int)] := by
  unfold spCells; rw [List.range_succ, List.flatMap_append]; simp
theorem spCells_one (O : List UInt8) (T : List (List UInt8)) : spCells O T 1 = [.int .i64 0, .int .i64 0, .int .i64 (O.length : Int)] := by
  simp [spCells, spS, spO, spL, allT, flat]
theorem spCells_at (O : List UInt8) (T : List (List UInt8)) (n j : Nat) (h : j < n) :
    (spCells O T n)[j * 3]? = some (.int .i64 (spS j)) ∧ (spCells O T n)[j * 3 + 1]? = some (.int .i64 (spO T j : Int)) ∧ (spCells O T n)[j * 3 + 2]? = some (.int .i64 (spL O T j : Int)) := by
  induction n with
  | zero => omega
  | succ n ih =>
    rw [spCells_succ]
    have hl := spCells_length O T n
    rcases Nat.lt_or_ge j n with hj | hj
    · obtain ⟨h1, h2, h3⟩ := ih hj
      rw [List.getElem?_append_left (by omega), List.getElem?_append_left (by omega), List.getElem?_append_left (by omega)]
      exact ⟨h1, h2, h3⟩
    · obtain rfl : j = n := by omega
      rw [List.getElem?_append_right (by omega), List.getElem?_append_right (by omega), List.getElem?_append_right (by omega), hl]
      simp

/-- the whole of the added bytes, cut at a span -/
theorem flat_cut (T : List (List UInt8)) (j : Nat) (h : j < T.length) : ((flat T T.length).drop (flat T j).length).take (txt T j).length = txt T j := by
  have e : flat T T.length = flat T j ++ (txt T j ++ (T.drop (j + 1)).flatten) := by
    unfold flat txt
    rw [List.take_length]
    have h1 : T = T.take j ++ (T[j] :: T.drop (j + 1)) := by rw [List.getElem_cons_drop]; simp
    conv => lhs; rw [h1]
    rw [List.flatten_append, List.flatten_cons]
    simp [List.getD, h]
  rw [e, List.drop_left, List.take_left]
theorem flat_le (T : List (List UInt8)) (j : Nat) (h : j < T.length) : (flat T j).length + (txt T j).length ≤ (flat T T.length).length := by
  have e := flat_cut T j h
  have := congrArg List.length e
  simp at this
  rcases Nat.eq_zero_or_pos (txt T j).length with hz | hz
  · have h2 : flat T j = (flat T T.length).take (flat T j).length := by
      unfold flat
      rw [List.take_length]
      have h1 : T = T.take j ++ T.drop j := by simp
      conv => rhs; rw [h1]
      rw [List.flatten_append]
      simp
    have := congrArg List.length h2
    simp at this
    omega
  · omega
theorem which_sp (O A : List UInt8) (j : Nat) : which (spS j) O A = if j = 0 then O else A := by
  unfold which spS
  split <;> simp_all
theorem sp_cut (O : List UInt8) (T : List (List UInt8)) (j : Nat) (h : j < T.length + 1) : cutL (spS j) (spO T j) (spL O T j) O (flat T T.length) = allT O T j := by
  unfold cutL
  rw [which_sp]
  cases j with
  | zero => simp [spO, spL, flat, allT]
  | succ k =>
    simp only [Nat.succ_ne_zero, if_false, spO, spL, Nat.add_sub_cancel, allT_succ, Int.toNat_natCast]
    exact flat_cut T k (by omega)
theorem sp_le (O : List UInt8) (T : List (List UInt8)) (j : Nat) (h : j < T.length + 1) : spO T j + spL O T j ≤ (which (spS j) O (flat T T.length)).length := by
  rw [which_sp]
  cases j with
  | zero => simp [spO, spL, flat, allT]
  | succ k =>
    simp only [Nat.succ_ne_zero, if_false, spO, spL, Nat.add_sub_cancel, allT_succ]
    exact flat_le T k (by omega)
theorem sp_sound (O : List UInt8) (T : List (List UInt8)) (j : Nat) (h : j < T.length + 1) (hO : O.length ≤ 4611686018427387904) (hA : (flat T T.length).length ≤ 4611686018427387904) : sndB (spS j) (spO T j) (spL O T j) = true := by
  have h1 := sp_le O T j h
  rw [which_sp] at h1
  unfold sndB
  refine decide_eq_true ⟨?_, by omega, by omega, ?_⟩
  · unfold spS; split <;> simp
  · split at h1 <;> omega

theorem sp_one (j : Nat) : spS (j + 1) = 1 := by simp [spS]
theorem spO_next (O : List UInt8) (T : List (List UInt8)) (j : Nat) (h : j < T.length) : spO T (j + 2) = spO T (j + 1) + spL O T (j + 1) := by
  unfold spO spL
  simp only [Nat.add_sub_cancel, allT_succ]
  rw [show j + 2 - 1 = j + 1 from rfl, flat_succ T j h, List.length_append]
theorem sp_joins (O : List UInt8) (T : List (List UInt8)) (j : Nat) (h : j + 2 < T.length + 1) (hO : O.length ≤ 4611686018427387904) (hA : (flat T T.length).length ≤ 4611686018427387904) :
    jnB (spS (j + 1)) (spO T (j + 1)) (spL O T (j + 1)) (spS (j + 2)) (spO T (j + 2)) (spL O T (j + 2)) = true := by
  unfold jnB
  rw [sp_sound O T (j + 1) (by omega) hO hA, sp_sound O T (j + 2) h hO hA, sp_one, sp_one (j + 1), spO_next O T j (by omega)]
  simp
theorem flat_cut2 (T : List (List UInt8)) (j : Nat) (h : j + 1 < T.length) : ((flat T T.length).drop (flat T j).length).take ((txt T j).length + (txt T (j + 1)).length) = txt T j ++ txt T (j + 1) := by
  have e : flat T T.length = flat T j ++ ((txt T j ++ txt T (j + 1)) ++ (T.drop (j + 2)).flatten) := by
    unfold flat txt
    rw [List.take_length]
    have h1 : T = T.take j ++ (T[j] :: T[j + 1] :: T.drop (j + 2)) := by rw [List.getElem_cons_drop, List.getElem_cons_drop]; simp
    conv => lhs; rw [h1]
    rw [List.flatten_append, List.flatten_cons, List.flatten_cons]
    simp [List.getD, h, show j < T.length from by omega]
  rw [e, List.drop_left, ← List.length_append, List.take_left]
theorem sp_cut2 (O : List UInt8) (T : List (List UInt8)) (j : Nat) (h : j + 2 < T.length + 1) : cutL 1 (spO T (j + 1)) ((spL O T (j + 1) + spL O T (j + 2) : Nat) : Int) O (flat T T.length) = allT O T (j + 1) ++ allT O T (j + 2) := by
  have e1 : which 1 O (flat T T.length) = flat T T.length := by simp [which]
  unfold cutL
  rw [e1]
  simp only [spO, spL, Nat.add_sub_cancel, allT_succ, Int.toNat_natCast]
  exact flat_cut2 T j (by omega)
theorem sp_le2 (O : List UInt8) (T : List (List UInt8)) (j : Nat) (h : j + 2 < T.length + 1) : spO T (j + 1) + (spL O T (j + 1) + spL O T (j + 2)) ≤ (which 1 O (flat T T.length)).length := by
  have h1 := sp_le O T (j + 2) h
  have h2 := spO_next O T j (by omega)
  rw [sp_one (j + 1)] at h1
  omega
theorem tot_ge (O : List UInt8) (T : List (List UInt8)) : (flat T T.length).length ≤ tot O T T.length := by unfold tot; omega
theorem txt_le (O : List UInt8) (T : List (List UInt8)) (j : Nat) (h : j < T.length) : (txt T j).length ≤ tot O T T.length := by
  have := flat_le T j h; unfold tot; omega
end Go.Proofs.Ytfjfflkdcmpgnaa
