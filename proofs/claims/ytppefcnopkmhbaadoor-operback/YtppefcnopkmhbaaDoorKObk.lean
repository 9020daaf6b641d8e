/- OperBack, both ways. -/
import Derived.Test.YtppefcnopkmhbaaDoorKObl
namespace Go.Proofs.YtppefcnopkmhbaaDoor
open Go.RowKit
theorem operBack_walk (ao : Option Addr) (n c : Nat) (l : List UInt8) (i1 i2 : Int) (L : Bool) (W : World) (HT : Tx W ao n c l) (h11 : -9223372036854775808 ≤ i1) (h12 : i1 ≤ 9223372036854775807) (h21 : -9223372036854775808 ≤ i2) (h22 : i2 ≤ 9223372036854775807) (hn0 : n ≤ 281474976710656) :
    Calls Tryd.prog 3 #[.slice ao n c, .agg #[.int .i64 i1, .int .i64 i2, .bool L]] W fun e w' => e = .returned (.bool true) ∧ Below W.heap.size W w' := by
  cases L with
  | false => exact back_bytes ao n c l i1 i2 W HT h11 h12 h21 h22 hn0
  | true => exact back_lines ao n c l i1 i2 W HT h11 h12 h21 h22 hn0
end Go.Proofs.YtppefcnopkmhbaaDoor
