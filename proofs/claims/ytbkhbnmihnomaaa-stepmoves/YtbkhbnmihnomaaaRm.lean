/- The contract of the reference's Move, whole. -/
import Derived.Test.YtbkhbnmihnomaaaRma
import Derived.Test.YtbkhbnmihnomaaaRmb
import Derived.Test.YtbkhbnmihnomaaaRmc
import Derived.Test.YtbkhbnmihnomaaaRmd
namespace Go.Proofs.Ytbkhbnmihnomaaa
open Go.RowKit

theorem rmove_ok (ao : Option Addr) (n c p N : Nat) (want cnt : Int) (l : List UInt8) (s : ByteArray) (w : World) (hw2 : want ≤ 9223372036854775807) (HT : Hid (Tx w ao n c l)) (hp : p ≤ n) (hw1 : -1 ≤ want) (hc0 : 0 ≤ cnt) (hc9 : cnt ≤ 9999) (hN : max cnt 1 = (N : Int)) : Calls Try.prog 9 #[.slice ao n c, .int .i64 p, .int .i64 want, .int .i64 cnt, .string s] w fun e w' => e = mvE (mv l p want cnt s) ∧ Below w.heap.size w w' := by
  have hpl : p ≤ l.length := by rw [HT.out.len]; exact hp
  have S := fun (k : Nat) (hk : kn s = k) (h0 : k ≠ 0) q (ht : tgt l p want N (decide (cnt = 0)) k = some q) => mvE_some (l := l) (p := p) (N := N) (want := want) (cnt := cnt) (s := s) (q := q) hpl hw1 hc0 hc9 (by rw [hk]; exact h0) hN (by rw [hk]; exact ht)
  have Z := fun (k : Nat) (hk : kn s = k) (h0 : k ≠ 0) (ht : tgt l p want N (decide (cnt = 0)) k = none) => mvE_none (l := l) (p := p) (N := N) (want := want) (cnt := cnt) (s := s) hpl hw1 hc0 hc9 (by rw [hk]; exact h0) hN (by rw [hk]; exact ht)
  refine kn_cases (P := fun k => kn s = k → Calls Try.prog 9 #[.slice ao n c, .int .i64 p, .int .i64 want, .int .i64 cnt, .string s] w fun e w' => e = mvE (mv l p want cnt s) ∧ Below w.heap.size w w') (kn s) (kn_le s) ?_ ?_ ?_ ?_ ?_ ?_ ?_ ?_ ?_ ?_ ?_ ?_ ?_ ?_ ?_ ?_ ?_ rfl
  · intro hk
    rw [mvE_bad (by unfold okB; rw [hk]; simp)]
    exact rmove_0 ao n c p N want cnt l s w hw2 HT hp hw1 hc0 hc9 hN hk
  · intro hk
    cases ht : tgt l p want N (decide (cnt = 0)) 1 with
    | none =>
      rw [Z 1 hk (by omega) ht]
      exact rmove_1n ao n c p N want cnt l s w hw2 HT hp hw1 hc0 hc9 hN hk ht
    | some q =>
      rw [S 1 hk (by omega) q ht, hk]
      exact rmove_1y ao n c p N want cnt l s w hw2 HT hp hw1 hc0 hc9 hN hk q ht
  · intro hk
    cases ht : tgt l p want N (decide (cnt = 0)) 2 with
    | none =>
      rw [Z 2 hk (by omega) ht]
      exact rmove_2n ao n c p N want cnt l s w hw2 HT hp hw1 hc0 hc9 hN hk ht
    | some q =>
      rw [S 2 hk (by omega) q ht, hk]
      exact rmove_2y ao n c p N want cnt l s w hw2 HT hp hw1 hc0 hc9 hN hk q ht
  · intro hk
    cases ht : tgt l p want N (decide (cnt = 0)) 3 with
    | none =>
      rw [Z 3 hk (by omega) ht]
      exact rmove_3n ao n c p N want cnt l s w hw2 HT hp hw1 hc0 hc9 hN hk ht
    | some q =>
      rw [S 3 hk (by omega) q ht, hk]
      exact rmove_3y ao n c p N want cnt l s w hw2 HT hp hw1 hc0 hc9 hN hk q ht
  · intro hk
    cases ht : tgt l p want N (decide (cnt = 0)) 4 with
    | none =>
      rw [Z 4 hk (by omega) ht]
      exact rmove_4n ao n c p N want cnt l s w hw2 HT hp hw1 hc0 hc9 hN hk ht
    | some q =>
      rw [S 4 hk (by omega) q ht, hk]
      exact rmove_4y ao n c p N want cnt l s w hw2 HT hp hw1 hc0 hc9 hN hk q ht
  · intro hk
    cases ht : tgt l p want N (decide (cnt = 0)) 5 with
    | none =>
      rw [Z 5 hk (by omega) ht]
      exact rmove_5n ao n c p N want cnt l s w hw2 HT hp hw1 hc0 hc9 hN hk ht
    | some q =>
      rw [S 5 hk (by omega) q ht, hk]
      exact rmove_5y ao n c p N want cnt l s w hw2 HT hp hw1 hc0 hc9 hN hk q ht
  · intro hk
    cases ht : tgt l p want N (decide (cnt = 0)) 6 with
    | none =>
      rw [Z 6 hk (by omega) ht]
      exact rmove_6n ao n c p N want cnt l s w hw2 HT hp hw1 hc0 hc9 hN hk ht
    | some q =>
      rw [S 6 hk (by omega) q ht, hk]
      exact rmove_6y ao n c p N want cnt l s w hw2 HT hp hw1 hc0 hc9 hN hk q ht
  · intro hk
    cases ht : tgt l p want N (decide (cnt = 0)) 7 with
    | none =>
      rw [Z 7 hk (by omega) ht]
      exact rmove_7n ao n c p N want cnt l s w hw2 HT hp hw1 hc0 hc9 hN hk ht
    | some q =>
      rw [S 7 hk (by omega) q ht, hk]
      exact rmove_7y ao n c p N want cnt l s w hw2 HT hp hw1 hc0 hc9 hN hk q ht
  · intro hk
    cases ht : tgt l p want N (decide (cnt = 0)) 8 with
    | none =>
      rw [Z 8 hk (by omega) ht]
      exact rmove_8n ao n c p N want cnt l s w hw2 HT hp hw1 hc0 hc9 hN hk ht
    | some q =>
      rw [S 8 hk (by omega) q ht, hk]
      exact rmove_8y ao n c p N want cnt l s w hw2 HT hp hw1 hc0 hc9 hN hk q ht
  · intro hk
    cases ht : tgt l p want N (decide (cnt = 0)) 9 with
    | none =>
      rw [Z 9 hk (by omega) ht]
      exact rmove_9n ao n c p N want cnt l s w hw2 HT hp hw1 hc0 hc9 hN hk ht
    | some q =>
      rw [S 9 hk (by omega) q ht, hk]
      exact rmove_9y ao n c p N want cnt l s w hw2 HT hp hw1 hc0 hc9 hN hk q ht
  · intro hk
    cases ht : tgt l p want N (decide (cnt = 0)) 10 with
    | none =>
      rw [Z 10 hk (by omega) ht]
      exact rmove_10n ao n c p N want cnt l s w hw2 HT hp hw1 hc0 hc9 hN hk ht
    | some q =>
      rw [S 10 hk (by omega) q ht, hk]
      exact rmove_10y ao n c p N want cnt l s w hw2 HT hp hw1 hc0 hc9 hN hk q ht
  · intro hk
    rw [S 11 hk (by omega) _ rfl, hk]
    exact rmove_11y ao n c p N want cnt l s w hw2 HT hp hw1 hc0 hc9 hN hk _ rfl
  · intro hk
    obtain ⟨F, hF⟩ : ∃ F, lnFirst l ((nl (l.take p) : Nat) : Int) = some F := ⟨_, (by unfold lnFirst; rw [ln_at]; rfl)⟩
    rw [S 12 hk (by omega) F hF, hk]
    exact rmove_12y ao n c p N want cnt l s w hw2 HT hp hw1 hc0 hc9 hN hk F hF
  · intro hk
    cases ht : tgt l p want N (decide (cnt = 0)) 13 with
    | none =>
      rw [Z 13 hk (by omega) ht]
      exact rmove_13n ao n c p N want cnt l s w hw2 HT hp hw1 hc0 hc9 hN hk ht
    | some q =>
      rw [S 13 hk (by omega) q ht, hk]
      exact rmove_13y ao n c p N want cnt l s w hw2 HT hp hw1 hc0 hc9 hN hk q ht
  · intro hk
    rw [S 14 hk (by omega) _ rfl, hk]
    exact rmove_14y ao n c p N want cnt l s w hw2 HT hp hw1 hc0 hc9 hN hk _ rfl
  · intro hk
    cases ht : tgt l p want N (decide (cnt = 0)) 15 with
    | none =>
      rw [Z 15 hk (by omega) ht]
      exact rmove_15n ao n c p N want cnt l s w hw2 HT hp hw1 hc0 hc9 hN hk ht
    | some q =>
      rw [S 15 hk (by omega) q ht, hk]
      by_cases hz : cnt = 0
      · exact rmove_15yz ao n c p N want cnt l s w hw2 HT hp hw1 hc0 hc9 hN hk q ht hz
      · exact rmove_15yw ao n c p N want cnt l s w hw2 HT hp hw1 hc0 hc9 hN hk q ht hz
  · intro hk
    cases ht : tgt l p want N (decide (cnt = 0)) 16 with
    | none =>
      rw [Z 16 hk (by omega) ht]
      exact rmove_16n ao n c p N want cnt l s w hw2 HT hp hw1 hc0 hc9 hN hk ht
    | some q =>
      rw [S 16 hk (by omega) q ht, hk]
      exact rmove_16y ao n c p N want cnt l s w hw2 HT hp hw1 hc0 hc9 hN hk q ht
theorem rmove_any (ao : Option Addr) (n c : Nat) (i want cnt : Int) (l : List UInt8) (s : ByteArray) (w : World) (hw2 : want ≤ 9223372036854775807) (HT : Hid (Tx w ao n c l)) :
    Calls Try.prog 9 #[.slice ao n c, .int .i64 i, .int .i64 want, .int .i64 cnt, .string s] w fun e w' => e = mvE (mv l i want cnt s) ∧ Below w.heap.size w w' := by
  have hl := HT.out.len
  have bad : (i < 0 ∨ (n : Int) < i ∨ want < -1 ∨ cnt < 0 ∨ 9999 < cnt) → okB l i want cnt s = false := fun h => by
    cases hb : okB l i want cnt s with
    | false => rfl
    | true =>
      exfalso
      unfold okB plB at hb
      simp only [Bool.and_eq_true, decide_eq_true_eq] at hb
      omega
  by_cases h1 : i < 0
  · rw [mvE_bad (bad (by omega))]; exact rmove_bad0 ao n c i want cnt l s w HT h1
  · by_cases h2 : (n : Int) < i
    · rw [mvE_bad (bad (by omega))]; exact rmove_bad1 ao n c i want cnt l s w HT (by omega) h2
    · by_cases h3 : want < -1
      · rw [mvE_bad (bad (by omega))]; exact rmove_bad2 ao n c i want cnt l s w HT (by omega) (by omega) h3
      · by_cases h4 : cnt < 0
        · rw [mvE_bad (bad (by omega))]; exact rmove_bad3 ao n c i want cnt l s w HT (by omega) (by omega) (by omega) h4
        · by_cases h5 : 9999 < cnt
          · rw [mvE_bad (bad (by omega))]; exact rmove_bad4 ao n c i want cnt l s w HT (by omega) (by omega) (by omega) (by omega) h5
          · obtain ⟨p, rfl⟩ := Int.eq_ofNat_of_zero_le (show 0 ≤ i by omega)
            exact rmove_ok ao n c p (max cnt 1).toNat want cnt l s w hw2 HT (by omega) (by omega) (by omega) (by omega) (by omega)
end Go.Proofs.Ytbkhbnmihnomaaa
