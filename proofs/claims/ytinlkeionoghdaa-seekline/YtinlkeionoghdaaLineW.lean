/- SeekLine walked, all keys. -/
import Derived.Test.YtinlkeionoghdaaSf
import Derived.Test.YtinlkeionoghdaaSt
import Derived.Test.YtinlkeionoghdaaSff
import Derived.Test.YtinlkeionoghdaaStt
namespace Go.Proofs.Ytinlkeionoghdaa
open Go.RowKit

set_option maxRecDepth 4000 in
set_option maxHeartbeats 4000000 in
theorem seekLine_0 (ao : Option Addr) (n c : Nat) (i cnt key b : Int) (t : Bool) (l : List UInt8) (w : World) (hkey : kq key = 0) (HT : Hid (Tx w ao n c l)) :
    Calls Try.prog 5 #[.agg #[.slice ao n c, .int .i64 i, .int .i64 cnt, .int .u8 key, .int .u8 b, .bool t]] w fun e w' => e = .returned (.bool true) ∧ Below w.heap.size w w' := by
  have hl := Hid.mk' hkey
  clear hkey
  go_enter Try.func5, Try.ntmps5
  go_wp2_with fail
  refine (awake_any _).mono ?_
  rintro e w1 ⟨rfl, hb1⟩
  have c0 : w1.cell? ⟨w.heap.size, 0, none⟩ = some (.slice ao n c) := keepC hb1 (by simp [go_sem])
  have c1 : w1.cell? ⟨w.heap.size, 1, none⟩ = some (.int .i64 i) := keepC hb1 (by simp [go_sem])
  have c2 : w1.cell? ⟨w.heap.size, 2, none⟩ = some (.int .i64 cnt) := keepC hb1 (by simp [go_sem])
  have c3 : w1.cell? ⟨w.heap.size, 3, none⟩ = some (.int .u8 key) := keepC hb1 (by simp [go_sem])
  have c4 : w1.cell? ⟨w.heap.size, 4, none⟩ = some (.int .u8 b) := keepC hb1 (by simp [go_sem])
  have B1 := Hid.mk' (bT (bAlloc (Below.refl _ _) _) hb1)
  clear hb1
  go_wp2_with fail
  refine (move_any ao n c i cnt key b l _ (Hid.mk' (HT.out.keep B1.out))).mono ?_
  rintro e w2 ⟨rfl, hb2⟩
  have B2 := Hid.mk' (bT B1.out hb2)
  replace c0 := keepC hb2 c0
  replace c1 := keepC hb2 c1
  replace c2 := keepC hb2 c2
  replace c3 := keepC hb2 c3
  replace c4 := keepC hb2 c4
  have hz := lt_of_cell c1
  clear hb2 B1
  rcases mv_cases l i cnt key b with ⟨z, hz', e1⟩ | ⟨p, q, rfl, hp, h0, h1, hk, hh, e1⟩
  · rw [e1, mvE_def]
    have hz1 : (z != 0) = true := by rcases hz' with rfl | rfl <;> rfl
    clear e1 hz'
    dsimp only
    go_wp2
    go_ret
    exact ⟨rfl, bAlloc B2.out _⟩
  · exact absurd hl.out hk
theorem seekLine_walk (ao : Option Addr) (n c : Nat) (i cnt key b : Int) (t : Bool) (l : List UInt8) (w : World) (HT : Hid (Tx w ao n c l)) :
    Calls Try.prog 5 #[.agg #[.slice ao n c, .int .i64 i, .int .i64 cnt, .int .u8 key, .int .u8 b, .bool t]] w fun e w' => e = .returned (.bool true) ∧ Below w.heap.size w w' := by
  rcases kq_cases key with ⟨rfl, h⟩ | ⟨rfl, h⟩ | ⟨rfl, h⟩ | ⟨rfl, h⟩ | ⟨g1, g2, g3, g4, h⟩
  · exact seekLine_1 ao n c i cnt b t l w HT
  · exact seekLine_2 ao n c i cnt b t l w HT
  · exact seekLine_3 ao n c i cnt b t l w HT
  · exact seekLine_4 ao n c i cnt b t l w HT
  · exact seekLine_0 ao n c i cnt key b t l w h HT
end Go.Proofs.Ytinlkeionoghdaa
