/- quoinlaw04.plain: every step of the kinds 0, 1 and 2. -/
import Derived.Test.YtpifjghhlcjedaaPm27
import Derived.Test.YtpifjghhlcjedaaPm28
import Derived.Test.YtpifjghhlcjedaaPm29
import Derived.Test.YtpifjghhlcjedaaPm23
namespace Go.Proofs.Ytpifjghhlcjedaa
open Go.RowKit Go.Shelf

theorem plGave_own {ta : Option Addr} {W w' : World} {T U : List UInt8} {v : Value} (h : w'.ownsRow W.heap.size 5 1 v U.length (Ab.bv U)) (hb : Below W.heap.size W w') : PlGave ta W w' (.returned (.tuple #[v, .bool true])) T (some U) := by
  obtain ⟨ao, cap, hc, rfl⟩ := own_shape' h
  exact ⟨ao, cap, rfl, hc, Ab.own_rd h, hb, own_nw h (Nat.le_refl _)⟩
theorem plain_any (T : List UInt8) (q : Sq) (ta ap ae : Option Addr) (tc cp ce : Nat) (W : World) (hR : Hid (Ab.Rd W (.slice ta T.length tc) T)) (hq : Hid (Sqr W q ap ae cp ce)) (hz : T.length + qby q ≤ 1048576) (hm : q.es.length ≤ 1048576) (hc : T.length ≤ tc) (hk : 0 ≤ q.kind ∧ q.kind ≤ 2) :
    Calls Try.prog 28 #[.slice ta T.length tc, .agg #[.int .i64 q.kind, .int .i64 q.a, .int .i64 q.b, .slice ap q.p.length cp, .slice ae q.es.length ce]] W fun e' w' => PlGave ta W w' e' T (stT T q) := by
  obtain ⟨k, x, y, p, es⟩ := q
  unfold qby at hz
  dsimp only at *
  have hno : ∀ (w' : World), Below W.heap.size W w' → PlGave ta W w' (.returned (.tuple #[.slice ta T.length tc, .bool false])) T none := fun w' hb => ⟨ta, tc, rfl, hc, hR.out.keep hb, hb, .inl ⟨rfl, rfl⟩⟩
  by_cases k0 : k = 0
  · subst k0
    by_cases h : 0 ≤ x ∧ x ≤ (T.length : Int)
    · obtain ⟨n, rfl⟩ := Int.eq_ofNat_of_zero_le h.1
      refine (plain0_yes T p ta ap tc cp n y _ W hR hq.out.rp (by omega) (by omega) hc (by omega)).mono ?_
      rintro e' w' ⟨v, rfl, ho, hb⟩
      have : stT T ⟨0, (n : Int), y, p, es⟩ = some (T.take n ++ (p ++ T.drop n)) := by unfold stT; rw [if_pos rfl, if_pos h, Int.toNat_natCast]
      rw [this]
      exact plGave_own ho hb
    · refine (plain0_no T.length tc ta x y _ _ W (by omega)).mono ?_
      rintro e' w' ⟨rfl, hb⟩
      have : stT T ⟨0, x, y, p, es⟩ = none := by unfold stT; rw [if_pos rfl, if_neg h]
      rw [this]
      exact hno w' hb
  · by_cases k1 : k = 1
    · subst k1
      by_cases h : 0 ≤ x ∧ x ≤ y ∧ y ≤ (T.length : Int)
      · obtain ⟨n, rfl⟩ := Int.eq_ofNat_of_zero_le h.1
        obtain ⟨m, rfl⟩ := Int.eq_ofNat_of_zero_le (show 0 ≤ y by omega)
        refine (plain1_yes T ta tc n m _ _ W hR (by omega) hc (by omega) (by omega)).mono ?_
        rintro e' w' ⟨v, rfl, ho, hb⟩
        have : stT T ⟨1, (n : Int), (m : Int), p, es⟩ = some (T.take n ++ T.drop m) := by unfold stT; rw [if_neg (show ¬ (1 : Int) = 0 by decide), if_pos rfl, if_pos h, Int.toNat_natCast, Int.toNat_natCast]
        rw [this]
        exact plGave_own ho hb
      · refine (plain1_no T.length tc ta x y _ _ W (by omega)).mono ?_
        rintro e' w' ⟨rfl, hb⟩
        have : stT T ⟨1, x, y, p, es⟩ = none := by unfold stT; rw [if_neg (show ¬ (1 : Int) = 0 by decide), if_pos rfl, if_neg h]
        rw [this]
        exact hno w' hb
    · obtain rfl : k = 2 := by omega
      have : stT T ⟨2, x, y, p, es⟩ = apT T es := by unfold stT; rw [if_neg (show ¬ (2 : Int) = 0 by decide), if_neg (show ¬ (2 : Int) = 1 by decide), if_pos rfl]
      rw [this]
      exact plain2_any T es ta ae tc ce x y _ W hR hq.out.re (by omega) hm hc
end Go.Proofs.Ytpifjghhlcjedaa

