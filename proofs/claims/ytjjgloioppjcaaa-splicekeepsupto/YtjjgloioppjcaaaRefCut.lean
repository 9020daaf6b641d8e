/- The contract of the reference's Cut. -/
import Derived.Test.YtjjgloioppjcaaaRefDel
namespace Go.Proofs.Ytjjgloioppjcaaa
open Go.RowKit

set_option maxRecDepth 100000 in
set_option maxHeartbeats 2000000 in
theorem refCut_rdb {w : World} {v : Value} {L : List Sp} (n : Int) (hz : L.length ≤ 1048576) (h1 : Hid (Rdb w v L)) :
    Calls Try.prog 15 #[v, .int .i64 n] w fun e w' => Gave2 w (cut1 L n) (cut2 L n) (rfs L n n) e w' := by
  obtain ⟨ao, c, rfl⟩ := rdb_shape h1.out
  have HR := Hid.mk' (rdb_row h1.out)
  cases hok : okL L with
  | false =>
    rw [cut1, cut2, rfs_bad hok, if_neg (by omega), if_neg (by omega)]
    have HO := Hid.mk' hok
    clear hok
    go_enter Try.func15, Try.ntmps15
    go_wp2_with (go_at_call 26; refine (refAllRight_any ao _ c L _ rfl (by omega) HR).mono ?_; rintro e w9 ⟨rfl, hb9⟩; rw [HO.out]; (have H9 := Hid.mk' hb9); clear hb9)
    exact bodyPost_ret (v := .tuple #[.slice none 0 0, .slice none 0 0, .int .i64 10]) (by simp [results, Try.results15, go_sem]) rfl ⟨_, _, rfl, World.ownsRow_nil _ _ _ _, World.ownsRow_nil _ _ _ _, .inl rfl, H9.out⟩
  | true =>
    have HO := Hid.mk' hok
    have HZ := Hid.mk' (sizeW_eq hz hok)
    have hla := betW_length 0 n L
    have hlb := betW_length n (sizeW L) L
    have hE : Hid (rfs L n n = if n < 0 ∨ n < n ∨ sizeW L < n then 30 else 0) := by unfold Hid rfs; rw [if_pos hok]
    clear hok
    generalize hS : sizeW L = S at *
    have HS := Hid.mk' hS
    clear hS
    by_cases ha : n < 0
    · rw [cut1, cut2, hE.out, if_pos (show n < 0 ∨ n < n ∨ S < n by omega), if_neg (by omega), if_neg (by omega)]
      clear hE
      go_enter Try.func15, Try.ntmps15
      go_wp2_with (go_at_call 26; refine (refAllRight_any ao _ c L _ rfl (by omega) HR).mono ?_; rintro e w9 ⟨rfl, hb9⟩; rw [HO.out]; (have H9 := Hid.mk' hb9); clear hb9)
      exact bodyPost_ret (v := .tuple #[.slice none 0 0, .slice none 0 0, .int .i64 30]) (by simp [results, Try.results15, go_sem]) rfl ⟨_, _, rfl, World.ownsRow_nil _ _ _ _, World.ownsRow_nil _ _ _ _, .inl rfl, H9.out⟩
    · by_cases hs : S < n
      · rw [cut1, cut2, hE.out, if_pos (show n < 0 ∨ n < n ∨ S < n by omega), if_neg (by omega), if_neg (by omega)]
        clear hE
        go_enter Try.func15, Try.ntmps15
        go_wp2_with (first | (go_at_call 26; refine (refAllRight_any ao _ c L _ rfl (by omega) HR).mono ?_; rintro e w9 ⟨rfl, hb9⟩; rw [HO.out]; (have H9 := Hid.mk' hb9); clear hb9)
                           | (go_at_call 11; (have Q := refSize_rdb (by omega) (h1.out.keep H9.out)); rw [HS.out] at Q; refine Q.mono ?_; clear Q; rintro e w8 ⟨rfl, h8⟩; (have H8 := Hid.mk' (bT H9.out h8)); clear h8))
        exact bodyPost_ret (v := .tuple #[.slice none 0 0, .slice none 0 0, .int .i64 30]) (by simp [results, Try.results15, go_sem]) rfl ⟨_, _, rfl, World.ownsRow_nil _ _ _ _, World.ownsRow_nil _ _ _ _, .inl rfl, H8.out⟩
      · rw [cut1, cut2, hE.out, if_neg (show ¬ (n < 0 ∨ n < n ∨ S < n) by omega), if_pos rfl, if_pos rfl, HS.out]
        clear hE
        have hS2 : S ≤ 2251799813685248 := by have := HZ.out; omega
        generalize hA : betW 0 n L = A at *
        generalize hB : betW n S L = B at *
        have HA := Hid.mk' hA
        have HB := Hid.mk' hB
        clear hA hB
        go_enter Try.func15, Try.ntmps15
        go_wp2_with (first | (go_at_call 26; refine (refAllRight_any ao _ c L _ rfl (by omega) HR).mono ?_; rintro e w9 ⟨rfl, hb9⟩; rw [HO.out]; (have H9 := Hid.mk' hb9); clear hb9)
                           | (go_at_call_of 30 (Value.int .i64 0); (have Q := part_rdb 0 n hz (by omega) (by omega) HO.out (h1.out.keep H8.out)); rw [HA.out] at Q; refine Q.mono ?_; clear Q; rintro e w7 ⟨v7, rfl, h7, k7, _⟩; (have H7 : Hid (w7.ownsRow w8.heap.size 39 3 v7 A.length (cells A) ∧ Below w.heap.size w w7) := ⟨h7, bT H8.out k7⟩); clear h7 k7)
                           | (go_at_call_of 30 (Value.int .i64 S); (have Q := part_rdb n S hz (by omega) (by omega) HO.out (h1.out.keep H5.out.2)); rw [HB.out] at Q; refine Q.mono ?_; clear Q; rintro e w4 ⟨v4, rfl, h4, k4, _⟩; (have H4 : Hid (w4.ownsRow w.heap.size 39 3 v6 (packL A).length (cells (packL A)) ∧ w4.ownsRow w5.heap.size 39 3 v4 B.length (cells B) ∧ Below w.heap.size w w4) := ⟨own_keep H5.out.1 k4, h4, bT H5.out.2 k4⟩); clear h4 k4)
                           | (go_at_call 11; (have Q := refSize_rdb (by omega) (h1.out.keep H6.out.2)); rw [HS.out] at Q; refine Q.mono ?_; clear Q; rintro e w5 ⟨rfl, h5⟩; (have H5 : Hid (w5.ownsRow w.heap.size 39 3 v6 (packL A).length (cells (packL A)) ∧ Below w.heap.size w w5) := ⟨own_keep H6.out.1 h5, bT H6.out.2 h5⟩); clear h5)
                           | (go_at_call 11; (have Q := refSize_rdb (by omega) (h1.out.keep H9.out)); rw [HS.out] at Q; refine Q.mono ?_; clear Q; rintro e w8 ⟨rfl, h8⟩; (have H8 := Hid.mk' (bT H9.out h8)); clear h8)
                           | (go_at_call 10; (have Q := refPack_rdb (by omega) (own_rdb H4.out.2.1)); rw [packA_yes (by rw [← HB.out]; exact betW_ok HO.out)] at Q; refine Q.mono ?_; clear Q; rintro e w3 ⟨v3, rfl, h3, k3, _⟩; (have H3 : Hid (w3.ownsRow w.heap.size 39 3 v6 (packL A).length (cells (packL A)) ∧ w3.ownsRow w.heap.size 39 3 v3 (packL B).length (cells (packL B)) ∧ (v6.ownBlock = none ∨ v6.ownBlock ≠ v3.ownBlock) ∧ Below w.heap.size w w3) := ⟨own_keep H4.out.1 k3, own_lower h3 H4.out.2.2.size, own_fresh H4.out.1 h3, bT H4.out.2.2 k3⟩); clear h3 k3)
                           | (go_at_call 10; (have Q := refPack_rdb (by omega) (own_rdb H7.out.1)); rw [packA_yes (by rw [← HA.out]; exact betW_ok HO.out)] at Q; refine Q.mono ?_; clear Q; rintro e w6 ⟨v6, rfl, h6, k6, _⟩; (have H6 : Hid (w6.ownsRow w.heap.size 39 3 v6 (packL A).length (cells (packL A)) ∧ Below w.heap.size w w6) := ⟨own_lower h6 H7.out.2.size, bT H7.out.2 k6⟩); clear h6 k6))
        exact bodyPost_ret (v := .tuple #[v6, v3, .int .i64 0]) (by simp [results, Try.results15, go_sem]) rfl ⟨v6, v3, rfl, H3.out⟩
end Go.Proofs.Ytjjgloioppjcaaa
