/- BlockTimes walked. -/
import Derived.Test.YtkapddemgodamaaDoorTim1
import Derived.Test.YtkapddemgodamaaDoorTim2
import Derived.Test.YtkapddemgodamaaDoorTim3
import Derived.Test.YtkapddemgodamaaDoorTim4
namespace Go.Proofs.YtkapddemgodamaaDoor
open Go.RowKit
set_option maxRecDepth 8000 in
set_option maxHeartbeats 2000000 in
theorem times_0 (ao : Option Addr) (n c : Nat) (i cnt : Int) (s : ByteArray) (w : World) (hk : kn s = 0) (HG : Hid (Gl w)) :
    Calls Tryd.prog 4 #[.slice ao n c, .agg #[.int .i64 i, .int .i64 cnt, .string s]] w fun e w' => e = .returned (.bool true) ∧ Below w.heap.size w w' := by
  obtain ⟨r1, r2, r3, r4, r5⟩ := kn_rules s 0 hk
  clear hk
  go_enter Tryd.func4, Tryd.ntmps4
  go_wp2_with fail
  refine (awake_any _ (Hid.mk' (HG.out.keep (bAlloc (Below.refl _ _) _)))).mono ?_
  rintro e w1 ⟨rfl, hb1⟩
  have B1 := Hid.mk' (bT (bAlloc (Below.refl w.heap.size w) (.cells #[.int .i64 i, .int .i64 cnt, .string s] 28)) hb1)
  have k2 : w1.cell? ⟨w.heap.size, 2, none⟩ = some (.string s) := keepC hb1 (by simp [go_sem])
  clear hb1
  go_wp2
  go_ret
  exact ⟨rfl, B1.out⟩
set_option maxRecDepth 8000 in
set_option maxHeartbeats 2000000 in
theorem times_5 (ao : Option Addr) (n c : Nat) (i cnt : Int) (s : ByteArray) (w : World) (hk : kn s = 5) (HG : Hid (Gl w)) :
    Calls Tryd.prog 4 #[.slice ao n c, .agg #[.int .i64 i, .int .i64 cnt, .string s]] w fun e w' => e = .returned (.bool true) ∧ Below w.heap.size w w' := by
  obtain ⟨r1, r2, r3, r4, r5⟩ := kn_rules s 5 hk
  clear hk
  go_enter Tryd.func4, Tryd.ntmps4
  go_wp2_with fail
  refine (awake_any _ (Hid.mk' (HG.out.keep (bAlloc (Below.refl _ _) _)))).mono ?_
  rintro e w1 ⟨rfl, hb1⟩
  have B1 := Hid.mk' (bT (bAlloc (Below.refl w.heap.size w) (.cells #[.int .i64 i, .int .i64 cnt, .string s] 28)) hb1)
  have k2 : w1.cell? ⟨w.heap.size, 2, none⟩ = some (.string s) := keepC hb1 (by simp [go_sem])
  clear hb1
  go_wp2
  go_ret
  exact ⟨rfl, B1.out⟩
theorem times_walk (ao : Option Addr) (n c : Nat) (i cnt : Int) (s : ByteArray) (l : List UInt8) (w : World) (h1 : -9223372036854775808 ≤ i) (h2 : i ≤ 9223372036854775807) (h3 : -9223372036854775808 ≤ cnt) (h4 : cnt ≤ 9223372036854775807) (hn : n < 4294967281) (hc : c ≤ 9223372036854775807) (HG : Hid (Gl w)) (HT : Hid (Tx w ao n c l)) :
    Calls Tryd.prog 4 #[.slice ao n c, .agg #[.int .i64 i, .int .i64 cnt, .string s]] w fun e w' => e = .returned (.bool true) ∧ Below w.heap.size w w' := by
  have h5 := kn_le s
  have hh : kn s = 0 ∨ kn s = 1 ∨ kn s = 2 ∨ kn s = 3 ∨ kn s = 4 ∨ kn s = 5 := by omega
  rcases hh with h | h | h | h | h | h
  · exact times_0 ao n c i cnt s w h HG
  · exact times_1 ao n c i cnt s l w h h1 h2 h3 h4 hn hc HG HT
  · exact times_2 ao n c i cnt s l w h h1 h2 h3 h4 hn hc HG HT
  · exact times_3 ao n c i cnt s l w h h1 h2 h3 h4 hn hc HG HT
  · exact times_4 ao n c i cnt s l w h h1 h2 h3 h4 hn hc HG HT
  · exact times_5 ao n c i cnt s w h HG
end Go.Proofs.YtkapddemgodamaaDoor
