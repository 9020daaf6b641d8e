/- The walk of quoinlaw03.SpliceInserts. -/
import Derived.Test.YtjjgloioppjcaaaRefIns
namespace Go.Proofs.Ytjjgloioppjcaaa
open Go.RowKit

set_option maxRecDepth 100000 in
set_option maxHeartbeats 4000000 in
theorem inserts_walk (v : Value) (L : List Sp) (a s o l : Int) (w : World) (hl : l ≤ 9223372036854775807) (hz : L.length ≤ 1048576) (hg : Hid (Rng L)) (hr : Hid (Rdb w v L)) :
    Calls Try.prog 5 #[v, .int .i64 a, .agg #[.int .i64 s, .int .i64 o, .int .i64 l]] w fun e w' => e = .returned (.bool true) ∧ Below w.heap.size w w' := by
  have l1 := insL_length L a ⟨s, o, l⟩
  generalize h1 : insL L a ⟨s, o, l⟩ = A at *
  generalize h2 : insE L a ⟨s, o, l⟩ = R at *
  have E1 := Hid.mk' h1
  have E2 := Hid.mk' h2
  clear h1 h2
  go_enter Try.func5, Try.ntmps5
  go_wp2_with (first | (go_at_call 9; refine (awake_any _).mono ?_; rintro e w9 ⟨rfl, hb9⟩; (have H9 : Hid (Below (w.alloc (.cells #[.int .i64 s, .int .i64 o, .int .i64 l] 39)).heap.size (w.alloc (.cells #[.int .i64 s, .int .i64 o, .int .i64 l] 39)) w9) := hb9); (obtain ⟨c0, c1, c2⟩ := three hb9); clear hb9)
                     | (go_at_call 21; (have Q := refInsert_rdb a s o l hz (hr.out.keep (bA H9.out))); rw [E1.out, E2.out] at Q; refine Q.mono ?_; clear Q; rintro e w8 ⟨va, rfl, h8, k8⟩; (have H8 : Hid (Rdb w8 va A ∧ Below (w.alloc (.cells #[.int .i64 s, .int .i64 o, .int .i64 l] 39)).heap.size (w.alloc (.cells #[.int .i64 s, .int .i64 o, .int .i64 l] 39)) w8) := ⟨own_rdb h8, bT H9.out k8⟩); (obtain ⟨d0, d1, d2⟩ := three H8.out.2); clear h8 k8)
                     | (go_at_call 22; (have Q := Insert_rdb a s o l hl hz hg (hr.out.keep (bA H8.out.2))); rw [E1.out, E2.out] at Q; refine Q.mono ?_; clear Q; rintro e w7 ⟨vb, rfl, h7, k7⟩; (have H7 : Hid (Rdb w7 vb A ∧ Rdb w7 va A ∧ Below w.heap.size w w7) := ⟨own_rdb h7, H8.out.1.keep k7, bA (bT H8.out.2 k7)⟩); clear h7 k7)
                     | (go_at_call 12; (have Q := same_rdb (by omega) H7.out.1 H7.out.2.1); refine Q.mono ?_; clear Q; rintro e w6 ⟨rfl, k6⟩; (have H6 := Hid.mk' (bT H7.out.2.2 k6)); clear k6))
  go_ret
  exact ⟨rfl, H6.out⟩
end Go.Proofs.Ytjjgloioppjcaaa
