/- HuntUnders, walked for every text. -/
import Derived.Test.YtaakgoojcogbcaaZRuf
import Derived.Test.YtaakgoojcogbcaaZUnw
namespace Go.Proofs.Ytaakgoojcogbcaa
open Go.RowKit
set_option maxRecDepth 8000 in
set_option maxHeartbeats 8000000 in
theorem huntUnders_full (w : World) (ao : Option Addr) (n c : Nat) (t : List UInt8) (k : Int) (hn : n ≤ 140737488351232) (HT : Hid (Tx w ao n c t)) :
    Calls Try.prog 6 #[.slice ao n c, .int .i64 k] w fun e w' => e = .returned (.bool true) ∧ Below w.heap.size w w' := by
  go_enter Try.func6, Try.ntmps6
  go_wp2_with fail
  refine (awake_any _).mono ?_
  rintro e w1 ⟨rfl, hb1⟩
  have U1 := Hid.mk' hb1
  clear hb1
  go_wp2_with fail
  refine (runder_fit ao n c k t w1 (by omega) (HT.out.keep U1.out)).mono ?_
  intro e w2 hP
  obtain ⟨hb2, a1, n1, c1, L, f, rfl, ht1, hr1⟩ := hP.form
  have U2 := Hid.mk' (bT U1.out hb2)
  have T1 := Hid.mk' ht1
  have R1 := Hid.mk' hr1
  clear hP hb2 ht1 hr1 U1
  go_wp2_with fail
  refine (under_fit ao n c k t w2 (by omega) (HT.out.keep U2.out)).mono ?_
  intro e w3 hP
  obtain ⟨hb3, a2, n2, c2, L2, f2, rfl, ht2, hr2⟩ := hP.form
  obtain ⟨rfl, rfl⟩ := R1.out.one hr2
  have U3 := Hid.mk' (bT U2.out hb3)
  have cv1 := conv_tx (T1.out.keep hb3)
  have cv2 := conv_tx ht2
  clear hP hb3 ht2 hr2 U2 T1 R1
  go_wp2
  go_ret
  exact ⟨by simp, U3.out⟩
end Go.Proofs.Ytaakgoojcogbcaa
