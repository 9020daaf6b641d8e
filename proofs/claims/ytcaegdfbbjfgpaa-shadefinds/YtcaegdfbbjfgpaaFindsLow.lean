/- The walk of quoinlaw02.ShadeFinds, one way. -/
import Derived.Test.YtcaegdfbbjfgpaaFindsKit
namespace Go.Proofs.Ytcaegdfbbjfgpaa
open Go.RowKit

set_option maxRecDepth 100000 in
set_option maxHeartbeats 8000000 in
theorem finds_low (ao : Option Addr) (n c : Nat) (L : List Pc) (m : Int) (w : World) (hn : (n : Int) ≤ (5000 : Int)) (hl : Hid (L.length ≤ 5000)) (hr : Hid (Rdb w (.slice ao n c) L)) (h0 : m < 0) :
    Calls Try.prog 7 #[.slice ao n c, .int .i64 m] w fun e w' => e = .returned (.bool true) ∧ Below w.heap.size w w' := by
  have HF : Hid ((Tr.buildT (good L)).fine) := (buildT_fine (by have := hl.out; omega)).1
  generalize HT : Tr.buildT (good L) = T at *
  have HTT : Hid (Tr.buildT (good L) = T) := HT
  clear HT
  go_enter Try.func7, Try.ntmps7
  go_wp2_with (first | (go_at_call 9; refine (alive_any _).mono ?_; rintro e w1 ⟨rfl, hb1⟩)
                     | (go_at_call 14; refine (Build_any _ L _ (by have := hl.out; omega) (hr.out.keep hb1)).mono ?_; rw [HTT.out]; rintro e w2 ⟨a2, rfl, hat2, hb2⟩; (have L2 : Below w.heap.size w w2 := hb1.trans (hb2.mono hb1.size)); (have K2 : Hid (TB (w2.alloc (.cells #[.pointer a2] 26)) w2.heap.size T a2) := TB.new hat2); clear hat2)
                     | (go_at_call 33; refine (Find52_no T a2 m _ (.inl h0) K2.out.2).mono ?_; rintro e w3 ⟨rfl, hb3⟩; (have L3 : Below w.heap.size w w3 := L2.trans ((bA hb3).mono L2.size)); (have K3 : Hid (TB w3 w2.heap.size T a2) := K2.out.keep hb3); (have t3 := K3.out.c); clear K2)
                     | (go_at_call 34; refine (Find53_no T a2 m _ (.inl h0) K3.out.2).mono ?_; rintro e w4 ⟨rfl, hb4⟩; (have L4 : Below w.heap.size w w4 := L3.trans (hb4.mono L3.size)); (have K4 : Hid (TB w4 w2.heap.size T a2) := K3.out.keep hb4); (have t4 := K4.out.c); (have t4a := alp t4); (have t4b := alp2 t4); clear K3)
                     | (go_at_call 18; refine (Bytes_any T a2 _ K4.out.2).mono ?_; rintro e w' ⟨rfl, rfl⟩)
                     | (go_at_call 19; refine (Lines_any T a2 _ (K4.out.2.alloc _)).mono ?_; rintro e w' ⟨rfl, rfl⟩)
)
  go_ret
  exact ⟨rfl, L4⟩
end Go.Proofs.Ytcaegdfbbjfgpaa
