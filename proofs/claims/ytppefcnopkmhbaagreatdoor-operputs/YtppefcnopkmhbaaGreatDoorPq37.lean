/- Rhd -/
import Derived.Test.YtppefcnopkmhbaaGreatDoorPq36
import Derived.Test.YtppefcnopkmhbaaGreatDoorPq19
import Derived.Test.YtppefcnopkmhbaaGreatDoorPq08
import Derived.Deep.CutBlock
namespace Go.Proofs.YtppefcnopkmhbaaGreatDoor
open Go.RowKit

set_option maxRecDepth 8000
theorem rfst_call {ao : Option Addr} {n c a en : Nat} {l : List UInt8} {W : World} {eo : Option Addr} {ec : Nat} {E : List Er} {DD : List Ed} (HT : Tx W ao n c l) (hbig : n ≤ 1048576) (ha : a ≤ n + 1) (hen : E.length = en) (he : en ≤ 1048577) (hE : Edz W eo E) (hD : E.map Er.d = DD) (hs : nsum DD ≤ 1073741824) :
    Calls Tryz.prog 30 #[.slice ao n c, .slice eo en ec, .int .i64 (a : Int)] W fun e w' => e = .returned (.int .i64 (fbh l DD a)) ∧ Below W.heap.size W w' :=
  rfst_any ao n c l eo en ec a E W HT (by omega) hE hen (by omega) hD (mod_n (by have := HT.len; omega)) (by omega)
theorem rstart_call {ao : Option Addr} {n c i : Nat} {l : List UInt8} {W : World} (HT : Tx W ao n c l) (hn : n ≤ 1048576) (hi : i ≤ n + 1) :
    Calls Tryz.prog 45 #[.slice ao n c, .int .i64 (i : Int)] W fun e w' => e = .returned (.tuple #[.int .i64 (if i ≤ nl l then (sp l i : Int) else 0), .int .i64 (if i ≤ nl l then 0 else 2)]) ∧ w' = W := by
  have h := refStart_any ao n c (i : Int) l W (by omega) HT
  have e : pr (aStart l (i : Int)) = .returned (.tuple #[.int .i64 (if i ≤ nl l then (sp l i : Int) else 0), .int .i64 (if i ≤ nl l then 0 else 2)]) := by
    by_cases h : i ≤ nl l
    · rw [if_pos h, if_pos h]
      unfold pr aStart ans
      rw [ln_at h]
      rfl
    · rw [if_neg h, if_neg h]
      refine pr_startN ?_
      unfold lnB
      exact decide_eq_false (by omega)
  rw [e] at h
  exact h
end Go.Proofs.YtppefcnopkmhbaaGreatDoor
