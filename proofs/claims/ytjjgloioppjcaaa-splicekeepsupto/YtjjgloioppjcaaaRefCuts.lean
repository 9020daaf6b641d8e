/- The contracts of the reference's Slice, Cut and Delete. -/
import Derived.Test.YtjjgloioppjcaaaPart
namespace Go.Proofs.Ytjjgloioppjcaaa
open Go.RowKit

theorem sizeW_eq {L : List Sp} (hz : L.length ≤ 1048576) (h : okL L = true) : sizeW L = sumL L ∧ 0 ≤ sumL L ∧ sumL L ≤ 2251799813685248 := by
  have := sumL_bounds h
  refine ⟨?_, by omega, by omega⟩
  rw [sizeW, if_pos h, wrap_in (by omega) (by omega)]
theorem bet_eq {L : List Sp} {a b : Int} (hz : L.length ≤ 1048576) (h : okL L = true) (ha : 0 ≤ a ∧ a ≤ 2251799813685248) (hb : 0 ≤ b ∧ b ≤ 2251799813685248) : betL a b 0 L = betW a b L :=
  (betW_eq ⟨ha.1, by omega⟩ ⟨hb.1, by omega⟩ h (by have := (sizeW_eq hz h).2; omega)).symm

theorem part_rdb {w : World} {v : Value} {L : List Sp} (a b : Int) (hz : L.length ≤ 1048576) (ha : 0 ≤ a ∧ a ≤ 2251799813685248) (hb : 0 ≤ b ∧ b ≤ 2251799813685248) (hok : okL L = true) (h1 : Rdb w v L) :
    Calls Try.prog 30 #[v, .int .i64 a, .int .i64 b] w fun e w' => Gave w.heap.size w (betW a b L) e w' := by
  obtain ⟨a1, c1, rfl⟩ := rdb_shape h1
  rw [← bet_eq hz hok ha hb]
  exact part_any a1 c1 a b L w hz ha hb hok (rdb_row h1)
theorem packA_yes {L : List Sp} (h : okL L = true) : packA L = packL L := by rw [packA, if_pos h]

set_option maxRecDepth 100000 in
set_option maxHeartbeats 2000000 in
theorem refSlice_rdb {w : World} {v : Value} {L : List Sp} (a b : Int) (hz : L.length ≤ 1048576) (h1 : Hid (Rdb w v L)) :
    Calls Try.prog 17 #[v, .int .i64 a, .int .i64 b] w fun e w' => Gave1 w (slcL L a b) (rfs L a b) e w' := by
  obtain ⟨ao, c, rfl⟩ := rdb_shape h1.out
  have HR := Hid.mk' (rdb_row h1.out)
  cases hok : okL L with
  | false =>
    rw [slcL, rfs_bad hok, if_neg (by omega)]
    have HO := Hid.mk' hok
    clear hok
    go_enter Try.func17, Try.ntmps17
    go_wp2_with (go_at_call 26; refine (refAllRight_any ao _ c L _ rfl (by omega) HR).mono ?_; rintro e w9 ⟨rfl, hb9⟩; rw [HO.out]; (have H9 := Hid.mk' hb9); clear hb9)
    exact bodyPost_ret (v := .tuple #[.slice none 0 0, .int .i64 10]) (by simp [results, Try.results17, go_sem]) rfl ⟨_, rfl, World.ownsRow_nil _ _ _ _, H9.out⟩
  | true =>
    have HO := Hid.mk' hok
    have HZ := Hid.mk' (sizeW_eq hz hok)
    have hbl := betW_length a b L
    have hE : Hid (rfs L a b = if a < 0 ∨ b < a ∨ sizeW L < b then 30 else 0) := by unfold Hid rfs; rw [if_pos hok]
    clear hok
    generalize hS : sizeW L = S at *
    have HS := Hid.mk' hS
    clear hS
    by_cases ha : a < 0
    · rw [slcL, hE.out, if_pos (show a < 0 ∨ b < a ∨ S < b by omega), if_neg (by omega)]
      clear hE
      go_enter Try.func17, Try.ntmps17
      go_wp2_with (go_at_call 26; refine (refAllRight_any ao _ c L _ rfl (by omega) HR).mono ?_; rintro e w9 ⟨rfl, hb9⟩; rw [HO.out]; (have H9 := Hid.mk' hb9); clear hb9)
      exact bodyPost_ret (v := .tuple #[.slice none 0 0, .int .i64 30]) (by simp [results, Try.results17, go_sem]) rfl ⟨_, rfl, World.ownsRow_nil _ _ _ _, H9.out⟩
    · by_cases hb : b < a
      · rw [slcL, hE.out, if_pos (show a < 0 ∨ b < a ∨ S < b by omega), if_neg (by omega)]
        clear hE
        go_enter Try.func17, Try.ntmps17
        go_wp2_with (go_at_call 26; refine (refAllRight_any ao _ c L _ rfl (by omega) HR).mono ?_; rintro e w9 ⟨rfl, hb9⟩; rw [HO.out]; (have H9 := Hid.mk' hb9); clear hb9)
        exact bodyPost_ret (v := .tuple #[.slice none 0 0, .int .i64 30]) (by simp [results, Try.results17, go_sem]) rfl ⟨_, rfl, World.ownsRow_nil _ _ _ _, H9.out⟩
      · by_cases hs : S < b
        · rw [slcL, hE.out, if_pos (show a < 0 ∨ b < a ∨ S < b by omega), if_neg (by omega)]
          clear hE
          go_enter Try.func17, Try.ntmps17
          go_wp2_with (first | (go_at_call 26; refine (refAllRight_any ao _ c L _ rfl (by omega) HR).mono ?_; rintro e w9 ⟨rfl, hb9⟩; rw [HO.out]; (have H9 := Hid.mk' hb9); clear hb9)
                             | (go_at_call 11; (have Q := refSize_rdb (by omega) (h1.out.keep H9.out)); rw [HS.out] at Q; refine Q.mono ?_; clear Q; rintro e w8 ⟨rfl, h8⟩; (have H8 := Hid.mk' (bT H9.out h8)); clear h8))
          exact bodyPost_ret (v := .tuple #[.slice none 0 0, .int .i64 30]) (by simp [results, Try.results17, go_sem]) rfl ⟨_, rfl, World.ownsRow_nil _ _ _ _, H8.out⟩
        · rw [slcL, hE.out, if_neg (show ¬ (a < 0 ∨ b < a ∨ S < b) by omega), if_pos rfl]
          clear hE
          have hS2 : S ≤ 2251799813685248 := by have := HZ.out; omega
          go_enter Try.func17, Try.ntmps17
          go_wp2_with (first | (go_at_call 26; refine (refAllRight_any ao _ c L _ rfl (by omega) HR).mono ?_; rintro e w9 ⟨rfl, hb9⟩; rw [HO.out]; (have H9 := Hid.mk' hb9); clear hb9)
                             | (go_at_call 11; (have Q := refSize_rdb (by omega) (h1.out.keep H9.out)); rw [HS.out] at Q; refine Q.mono ?_; clear Q; rintro e w8 ⟨rfl, h8⟩; (have H8 := Hid.mk' (bT H9.out h8)); clear h8)
                             | (go_at_call 30; (have Q := part_rdb a b hz (by omega) (by omega) HO.out (h1.out.keep H8.out)); refine Q.mono ?_; clear Q; rintro e w7 ⟨v7, rfl, h7, k7, _⟩; (have H7 : Hid (w7.ownsRow w8.heap.size 39 3 v7 (betW a b L).length (cells (betW a b L)) ∧ Below w.heap.size w w7) := ⟨h7, bT H8.out k7⟩); clear h7 k7)
                             | (go_at_call 10; (have Q := refPack_rdb (by omega) (own_rdb H7.out.1)); rw [packA_yes (betW_ok HO.out)] at Q; refine Q.mono ?_; clear Q; rintro e w6 ⟨v6, rfl, h6, k6, _⟩; (have H6 : Hid (w6.ownsRow w.heap.size 39 3 v6 (packL (betW a b L)).length (cells (packL (betW a b L))) ∧ Below w.heap.size w w6) := ⟨own_lower h6 H7.out.2.size, bT H7.out.2 k6⟩); clear h6 k6))
          exact bodyPost_ret (v := .tuple #[v6, .int .i64 0]) (by simp [results, Try.results17, go_sem]) rfl ⟨v6, rfl, H6.out⟩
end Go.Proofs.Ytjjgloioppjcaaa
