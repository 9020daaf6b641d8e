/- The walk of quoinlaw03.SplicePacks. -/
import Derived.Test.YtjjgloioppjcaaaSame
namespace Go.Proofs.Ytjjgloioppjcaaa
open Go.RowKit

set_option maxRecDepth 100000 in
set_option maxHeartbeats 4000000 in
theorem packs_walk (v : Value) (L : List Sp) (w : World) (hz : L.length * 24 ≤ 140737488351232) (hg : Hid (Rng L)) (hr : Hid (Rdb w v L)) :
    Calls Try.prog 3 #[v] w fun e w' => e = .returned (.bool true) ∧ Below w.heap.size w w' := by
  have hpl := packA_length L
  generalize hP : packA L = P at *
  have HP := Hid.mk' hP
  clear hP
  generalize hS : sizeW L = S
  have HS := Hid.mk' hS
  clear hS
  go_enter Try.func3, Try.ntmps3
  go_wp2_with (first | (go_at_call 9; refine (awake_any w).mono ?_; rintro e w9 ⟨rfl, hb9⟩; have H9 : Hid (Below w.heap.size w w9) := hb9; clear hb9)
                     | (go_at_call 10; (have Q := refPack_rdb (by omega) (hr.out.keep H9.out)); rw [HP.out] at Q; refine Q.mono ?_; clear Q; rintro e w8 ⟨v8, rfl, hown8, hb8, _⟩; (have H8 : Hid (w8.ownsRow w9.heap.size 39 3 v8 P.length (cells P) ∧ Below w.heap.size w w8) := ⟨hown8, bT H9.out hb8⟩); clear hown8 hb8)
                     | (go_at_call 11; (have Q := refSize_rdb (by omega) (hr.out.keep H8.out.2)); rw [HS.out] at Q; refine Q.mono ?_; clear Q; rintro e w7 ⟨rfl, hb7⟩; (have H7 : Hid (w7.ownsRow w9.heap.size 39 3 v8 P.length (cells P) ∧ Below w.heap.size w w7) := ⟨own_keep H8.out.1 hb7, bT H8.out.2 hb7⟩); clear hb7)
                     | (go_at_call 13; (have Q := Pack_rdb (by omega) hg.out (hr.out.keep H7.out.2)); rw [HP.out] at Q; refine Q.mono ?_; clear Q; rintro e w6 ⟨v6, rfl, hown6, hb6, _⟩; (have H6 : Hid (w6.ownsRow w9.heap.size 39 3 v8 P.length (cells P) ∧ w6.ownsRow w7.heap.size 39 3 v6 P.length (cells P) ∧ Below w.heap.size w w6) := ⟨own_keep H7.out.1 hb6, hown6, bT H7.out.2 hb6⟩); clear hown6 hb6)
                     | (go_at_call 12; (have Q := same_own (by omega) H6.out.2.1 H6.out.1); refine Q.mono ?_; clear Q; rintro e w5 ⟨rfl, hb5⟩; (have H5 : Hid (Below w.heap.size w w5) := bT H6.out.2.2 hb5); clear hb5)
                     | (go_at_call 14; (have Q := Size_rdb (by omega) hg.out (hr.out.keep H5.out)); rw [HS.out] at Q; refine Q.mono ?_; clear Q; rintro e w4 ⟨rfl, hb4⟩; (have H4 : Hid (Below w.heap.size w w4) := bT H5.out hb4); clear hb4))
  go_ret
  exact ⟨rfl, H4.out⟩
end Go.Proofs.Ytjjgloioppjcaaa
