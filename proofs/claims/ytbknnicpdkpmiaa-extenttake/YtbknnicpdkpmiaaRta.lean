/- The reference's Take of a range that it takes. -/
import Derived.Test.YtbknnicpdkpmiaaRtff
import Derived.Test.YtbknnicpdkpmiaaRtft
import Derived.Test.YtbknnicpdkpmiaaRttf
import Derived.Test.YtbknnicpdkpmiaaRttt
import Derived.Test.YtbknnicpdkpmiaaRtn
import Derived.Test.YtbknnicpdkpmiaaTak
namespace Go.Proofs.Ytbknnicpdkpmiaa
open Go.RowKit

theorem rtake_yes (ao : Option Addr) (n c f t : Nat) (L D : Bool) (l : List UInt8) (w : World) (hbig : n ≤ 140737488351232) (h : rgB l (f : Int) (t : Int) L D = true) (HT : Hid (Tx w ao n c l)) :
    Calls Try.prog 13 #[.slice ao n c, .agg #[.int .i64 (f : Int), .int .i64 (t : Int), .bool L, .bool D]] w fun e w' => ∃ v, e = tr true L v 0 ∧ w'.ownsRow w.heap.size 5 1 v (tk l f t L D).length (bv (tk l f t L D)) ∧ Below w.heap.size w w' := by
  have hlen := HT.out.len
  unfold rgB at h
  obtain ⟨h1, h2⟩ := Bool.and_eq_true_iff.1 h
  have h1 := of_decide_eq_true h1
  have hft : f ≤ t := by omega
  have htn : t ≤ n := by omega
  cases L <;> cases D
  · exact rtake_ff ao n c f t l w hft htn hbig HT
  · exact rtake_ft ao n c f t l w hft htn hbig HT
  · exact rtake_tf ao n c f t l w hft htn hbig HT
  · exact rtake_tt ao n c f t l w hft htn hbig HT (by simpa using h2)

end Go.Proofs.Ytbknnicpdkpmiaa
