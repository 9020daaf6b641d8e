/- Ovr -/
import Derived.Test.YtppefcnopkmhbaaGreatDoorPt23
namespace Go.Proofs.YtppefcnopkmhbaaGreatDoor
open Go.RowKit

set_option maxRecDepth 8000
theorem one_own (W : World) (b : UInt8) : (W.alloc (.cells #[.int .u8 (b.toNat : Int)] 5)).ownsRow W.heap.size 5 1 (.slice (some ⟨W.heap.size, 0, none⟩) 1 1) 1 (bv [b]) :=
  ⟨rfl, .inr ⟨W.heap.size, 1, _, rfl, Nat.le_refl _, Blk.new W 5 _, Nat.le_refl _, by unfold maxLen; omega, rfl, rfl⟩⟩
end Go.Proofs.YtppefcnopkmhbaaGreatDoor
