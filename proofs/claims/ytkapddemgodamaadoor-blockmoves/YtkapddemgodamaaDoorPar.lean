/- A bracket's partner in the text: the program's walk with its stack in memory. -/
import Derived.Test.YtkapddemgodamaaDoorParr
import Derived.Test.YtkapddemgodamaaDoorParl
namespace Go.Proofs.YtkapddemgodamaaDoor
open Go.RowKit


theorem partnerOf_any {ao : Option Addr} {n c p : Nat} {l : List UInt8} {w : World} (hp : p < n) (hpk : pk (bi l p) = true) (HT : Hid (Tx w ao n c l)) :
    Calls Tryd.prog 32 #[.slice ao n c, .int .i64 p] w fun e w' => e = oq (pt l p) ∧ Below w.heap.size w w' := by
  have hl := HT.out.len
  unfold pt
  cases h : pn (bi l p) with
  | true => rw [if_pos rfl, hl]; exact partnerOf_r hp hpk h HT
  | false => rw [if_neg (by simp)]; exact partnerOf_l hp hpk h HT
end Go.Proofs.YtkapddemgodamaaDoor
