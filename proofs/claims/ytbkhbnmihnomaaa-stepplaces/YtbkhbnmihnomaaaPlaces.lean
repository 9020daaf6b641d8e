/- The walk of quoinlaw07.StepPlaces: it answers true for every text and every question. -/
import Derived.Test.YtbkhbnmihnomaaaPlaces0
import Derived.Test.YtbkhbnmihnomaaaPl1
import Derived.Test.YtbkhbnmihnomaaaPl2
import Derived.Test.YtbkhbnmihnomaaaPl3
import Derived.Test.YtbkhbnmihnomaaaPl4
import Derived.Test.YtbkhbnmihnomaaaPl5
import Derived.Test.YtbkhbnmihnomaaaPl6
import Derived.Test.YtbkhbnmihnomaaaPl7
namespace Go.Proofs.Ytbkhbnmihnomaaa
open Go.RowKit

theorem places_ok (ao : Option Addr) (n c p N : Nat) (want cnt : Int) (l : List UInt8) (s : ByteArray) (w : World) (hw2 : want ≤ 9223372036854775807) (HT : Hid (Tx w ao n c l)) (hp : p ≤ n) (hw1 : -1 ≤ want) (hc0 : 0 ≤ cnt) (hc9 : cnt ≤ 9999) (hN : max cnt 1 = (N : Int)) : Calls Try.prog 5 #[.slice ao n c, .agg #[.int .i64 p, .int .i64 want, .int .i64 cnt, .string s]] w fun e w' => e = .returned (.bool true) ∧ Below w.heap.size w w' := by
  refine kn_cases (P := fun k => kn s = k → Calls Try.prog 5 #[.slice ao n c, .agg #[.int .i64 p, .int .i64 want, .int .i64 cnt, .string s]] w fun e w' => e = .returned (.bool true) ∧ Below w.heap.size w w') (kn s) (kn_le s) ?_ ?_ ?_ ?_ ?_ ?_ ?_ ?_ ?_ ?_ ?_ ?_ ?_ ?_ ?_ ?_ ?_ rfl
  · exact fun hk => places_0n ao n c p N want cnt l s w hw2 HT hp hw1 hc0 hc9 hN hk
  · intro hk
    cases ht : tgt l p want N (decide (cnt = 0)) 1 with
    | none => exact places_1n ao n c p N want cnt l s w hw2 HT hp hw1 hc0 hc9 hN hk ht
    | some q => exact places_1y ao n c p N want cnt l s w hw2 HT hp hw1 hc0 hc9 hN hk q ht
  · intro hk
    cases ht : tgt l p want N (decide (cnt = 0)) 2 with
    | none => exact places_2n ao n c p N want cnt l s w hw2 HT hp hw1 hc0 hc9 hN hk ht
    | some q => exact places_2y ao n c p N want cnt l s w hw2 HT hp hw1 hc0 hc9 hN hk q ht
  · intro hk
    cases ht : tgt l p want N (decide (cnt = 0)) 3 with
    | none => exact places_3n ao n c p N want cnt l s w hw2 HT hp hw1 hc0 hc9 hN hk ht
    | some q => exact places_3y ao n c p N want cnt l s w hw2 HT hp hw1 hc0 hc9 hN hk q ht
  · intro hk
    cases ht : tgt l p want N (decide (cnt = 0)) 4 with
    | none => exact places_4n ao n c p N want cnt l s w hw2 HT hp hw1 hc0 hc9 hN hk ht
    | some q => exact places_4y ao n c p N want cnt l s w hw2 HT hp hw1 hc0 hc9 hN hk q ht
  · intro hk
    cases ht : tgt l p want N (decide (cnt = 0)) 5 with
    | none => exact places_5n ao n c p N want cnt l s w hw2 HT hp hw1 hc0 hc9 hN hk ht
    | some q => exact places_5y ao n c p N want cnt l s w hw2 HT hp hw1 hc0 hc9 hN hk q ht
  · intro hk
    cases ht : tgt l p want N (decide (cnt = 0)) 6 with
    | none => exact places_6n ao n c p N want cnt l s w hw2 HT hp hw1 hc0 hc9 hN hk ht
    | some q => exact places_6y ao n c p N want cnt l s w hw2 HT hp hw1 hc0 hc9 hN hk q ht
  · intro hk
    cases ht : tgt l p want N (decide (cnt = 0)) 7 with
    | none => exact places_7n ao n c p N want cnt l s w hw2 HT hp hw1 hc0 hc9 hN hk ht
    | some q => exact places_7y ao n c p N want cnt l s w hw2 HT hp hw1 hc0 hc9 hN hk q ht
  · intro hk
    cases ht : tgt l p want N (decide (cnt = 0)) 8 with
    | none => exact places_8n ao n c p N want cnt l s w hw2 HT hp hw1 hc0 hc9 hN hk ht
    | some q => exact places_8y ao n c p N want cnt l s w hw2 HT hp hw1 hc0 hc9 hN hk q ht
  · intro hk
    cases ht : tgt l p want N (decide (cnt = 0)) 9 with
    | none => exact places_9n ao n c p N want cnt l s w hw2 HT hp hw1 hc0 hc9 hN hk ht
    | some q => exact places_9y ao n c p N want cnt l s w hw2 HT hp hw1 hc0 hc9 hN hk q ht
  · intro hk
    cases ht : tgt l p want N (decide (cnt = 0)) 10 with
    | none => exact places_10n ao n c p N want cnt l s w hw2 HT hp hw1 hc0 hc9 hN hk ht
    | some q => exact places_10y ao n c p N want cnt l s w hw2 HT hp hw1 hc0 hc9 hN hk q ht
  · exact fun hk => places_11y ao n c p N want cnt l s w hw2 HT hp hw1 hc0 hc9 hN hk _ rfl
  · intro hk
    obtain ⟨F, hF⟩ := lnFirst_yes (l := l) (nl_take_le l p)
    exact places_12y ao n c p N want cnt l s w hw2 HT hp hw1 hc0 hc9 hN hk F hF
  · intro hk
    cases ht : tgt l p want N (decide (cnt = 0)) 13 with
    | none => exact places_13n ao n c p N want cnt l s w hw2 HT hp hw1 hc0 hc9 hN hk ht
    | some q => exact places_13y ao n c p N want cnt l s w hw2 HT hp hw1 hc0 hc9 hN hk q ht
  · exact fun hk => places_14y ao n c p N want cnt l s w hw2 HT hp hw1 hc0 hc9 hN hk _ rfl
  · intro hk
    cases ht : tgt l p want N (decide (cnt = 0)) 15 with
    | none => exact places_15n ao n c p N want cnt l s w hw2 HT hp hw1 hc0 hc9 hN hk ht
    | some q => exact places_15y ao n c p N want cnt l s w hw2 HT hp hw1 hc0 hc9 hN hk q ht
  · intro hk
    cases ht : tgt l p want N (decide (cnt = 0)) 16 with
    | none => exact places_16n ao n c p N want cnt l s w hw2 HT hp hw1 hc0 hc9 hN hk ht
    | some q => exact places_16y ao n c p N want cnt l s w hw2 HT hp hw1 hc0 hc9 hN hk q ht
theorem stepPlaces_walk (ao : Option Addr) (n c : Nat) (i want cnt : Int) (l : List UInt8) (s : ByteArray) (w : World) (_hi1 : -9223372036854775808 ≤ i) (_hi2 : i ≤ 9223372036854775807) (hw2 : want ≤ 9223372036854775807) (_hc1 : -9223372036854775808 ≤ cnt) (_hc2 : cnt ≤ 9223372036854775807) (HT : Hid (Tx w ao n c l)) :
    Calls Try.prog 5 #[.slice ao n c, .agg #[.int .i64 i, .int .i64 want, .int .i64 cnt, .string s]] w fun e w' => e = .returned (.bool true) ∧ Below w.heap.size w w' := by
  by_cases h1 : i < 0
  · exact places_bad0 ao n c i want cnt l s w hw2 HT h1
  · by_cases h2 : (n : Int) < i
    · exact places_bad1 ao n c i want cnt l s w hw2 HT (by omega) h2
    · by_cases h3 : want < -1
      · exact places_bad2 ao n c i want cnt l s w hw2 HT (by omega) (by omega) h3
      · by_cases h4 : cnt < 0
        · exact places_bad3 ao n c i want cnt l s w hw2 HT (by omega) (by omega) (by omega) h4
        · by_cases h5 : 9999 < cnt
          · exact places_bad4 ao n c i want cnt l s w hw2 HT (by omega) (by omega) (by omega) (by omega) h5
          · obtain ⟨p, rfl⟩ := Int.eq_ofNat_of_zero_le (show 0 ≤ i by omega)
            exact places_ok ao n c p (max cnt 1).toNat want cnt l s w hw2 HT (by omega) (by omega) (by omega) (by omega) (by omega)
end Go.Proofs.Ytbkhbnmihnomaaa
