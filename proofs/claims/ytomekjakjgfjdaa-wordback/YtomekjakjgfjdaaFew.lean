/- The contracts of word's fewer. -/
import Derived.Test.YtomekjakjgfjdaaScan
import Derived.Deep.LoopGhost
namespace Go.Proofs.Ytomekjakjgfjdaa
open Go.RowKit

set_option maxHeartbeats 1000000 in
theorem fewer_up (ao : Option Addr) (n c d fk : Nat) (kind : Int) (big : Bool) (w : World) :
    Calls Try.prog 28 #[.agg #[.int .i64 1, .func (.func fk) #[] #[], .bool true, .int .i64 kind, .bool big], .slice ao n c, .int .i64 d] w fun e w' => e = .returned (.int .i64 n) ∧ Below w.heap.size w w' := by
  go_enter Try.func28, Try.ntmps28
  go_wp2
  go_ret
  exact ⟨rfl, bAlloc (Below.refl _ _) _⟩
set_option maxHeartbeats 1000000 in
theorem fewer_dn (ao : Option Addr) (n c d fk : Nat) (kind : Int) (big : Bool) (w : World) :
    Calls Try.prog 28 #[.agg #[.int .i64 (-1), .func (.func fk) #[] #[], .bool true, .int .i64 kind, .bool big], .slice ao n c, .int .i64 d] w fun e w' => e = .returned (.int .i64 0) ∧ Below w.heap.size w w' := by
  go_enter Try.func28, Try.ntmps28
  go_wp2
  go_ret
  exact ⟨rfl, bAlloc (Below.refl _ _) _⟩
set_option maxHeartbeats 1000000 in
theorem fewer_at (ao : Option Addr) (n c d fk : Nat) (way kind : Int) (big : Bool) (w : World) :
    Calls Try.prog 28 #[.agg #[.int .i64 way, .func (.func fk) #[] #[], .bool false, .int .i64 kind, .bool big], .slice ao n c, .int .i64 d] w fun e w' => e = .returned (.int .i64 d) ∧ Below w.heap.size w w' := by
  go_enter Try.func28, Try.ntmps28
  go_wp2
  go_ret
  exact ⟨rfl, bAlloc (Below.refl _ _) _⟩

end Go.Proofs.Ytomekjakjgfjdaa
