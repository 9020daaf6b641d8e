/- extent.Take of a range that it takes. -/
import Derived.Test.YtbknnicpdkpmiaaTkffn
import Derived.Test.YtbknnicpdkpmiaaTkffe
import Derived.Test.YtbknnicpdkpmiaaTkffm
import Derived.Test.YtbknnicpdkpmiaaTkftn
import Derived.Test.YtbknnicpdkpmiaaTkfte
import Derived.Test.YtbknnicpdkpmiaaTkftm
import Derived.Test.YtbknnicpdkpmiaaTktfn
import Derived.Test.YtbknnicpdkpmiaaTktfe
import Derived.Test.YtbknnicpdkpmiaaTktfm
import Derived.Test.YtbknnicpdkpmiaaTktte
import Derived.Test.YtbknnicpdkpmiaaTkttm
namespace Go.Proofs.Ytbknnicpdkpmiaa
open Go.RowKit

theorem take_yes (ao : Option Addr) (n c f t : Nat) (L D : Bool) (l : List UInt8) (w : World) (hbig : n ≤ 140737488351232) (h : rgB l (f : Int) (t : Int) L D = true) (HT : Hid (Tx w ao n c l)) :
    Calls Try.prog 14 #[.slice ao n c, .agg #[.int .i64 (f : Int), .int .i64 (t : Int), .bool L, .bool D]] w fun e w' => ∃ v, e = tr true L v 0 ∧ w'.ownsRow w.heap.size 5 1 v (tk l f t L D).length (bv (tk l f t L D)) ∧ Below w.heap.size w w' := by
  have hlen := HT.out.len
  have hcap := HT.out.cap
  unfold rgB at h
  obtain ⟨h1, h2⟩ := Bool.and_eq_true_iff.1 h
  have h1 := of_decide_eq_true h1
  have hft : f ≤ t := by omega
  have htn : t ≤ n := by omega
  by_cases hl : (L && D) = true
  · obtain ⟨rfl, rfl⟩ := Bool.and_eq_true_iff.1 hl
    have h2 : leB l (f : Int) = true := by simpa using h2
    have hfn : f < n := by
      unfold leB at h2
      have := of_decide_eq_true (Bool.and_eq_true_iff.1 h2).1
      omega
    cases ao with
    | none => have := HT.out.none; omega
    | some a =>
      by_cases hc : c = f + 1
      · obtain rfl : n = f + 1 := by omega
        subst hc
        exact take_tt_end f t l w a hft htn hbig HT h2
      · exact take_tt_mid (some a) n c f t l w hft htn hbig HT h2 a rfl hc
  · cases ao with
    | none =>
      obtain ⟨rfl, rfl, rfl⟩ := HT.out.none
      obtain rfl : t = 0 := by omega
      obtain rfl : f = 0 := by omega
      cases L <;> cases D
      · exact take_ff_none w
      · exact take_ft_none w
      · exact take_tf_none w
      · exact absurd rfl hl
    | some a =>
      by_cases hc : c = f
      · obtain rfl : n = f := by omega
        obtain rfl : t = n := by omega
        subst hc
        cases L <;> cases D
        · exact take_ff_end _ l w a hbig HT
        · exact take_ft_end _ l w a hbig HT
        · exact take_tf_end _ l w a hbig HT
        · exact absurd rfl hl
      · cases L <;> cases D
        · exact take_ff_mid (some a) n c f t l w hft htn hbig HT a rfl hc
        · exact take_ft_mid (some a) n c f t l w hft htn hbig HT a rfl hc
        · exact take_tf_mid (some a) n c f t l w hft htn hbig HT a rfl hc
        · exact absurd rfl hl
theorem rg_nat {l : List UInt8} {F T : Int} {L D : Bool} (h : rgB l F T L D = true) : ∃ f t : Nat, F = f ∧ T = t ∧ f ≤ t ∧ t ≤ l.length := by
  unfold rgB at h
  have h1 := of_decide_eq_true (Bool.and_eq_true_iff.1 h).1
  obtain ⟨f, rfl⟩ := Int.eq_ofNat_of_zero_le h1.1
  obtain ⟨t, rfl⟩ := Int.eq_ofNat_of_zero_le (show 0 ≤ T by omega)
  exact ⟨f, t, rfl, rfl, by omega, by omega⟩

end Go.Proofs.Ytbknnicpdkpmiaa
