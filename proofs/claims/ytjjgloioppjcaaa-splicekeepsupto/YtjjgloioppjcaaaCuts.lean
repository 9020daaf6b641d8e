/- The contracts of ahead, behind, refusal, Slice, Delete, Cut. -/
import Derived.Test.YtjjgloioppjcaaaBet
namespace Go.Proofs.Ytjjgloioppjcaaa
open Go.RowKit

theorem between_rdb {w : World} {v : Value} {L : List Sp} (a b : Int) (hz : L.length * 24 ≤ 140737488355328) (hok : okL L = true) (h1 : Rdb w v L) :
    Calls Try.prog 34 #[v, .int .i64 a, .int .i64 b] w fun e w' => Gave w.heap.size w (betW a b L) e w' := by
  obtain ⟨a1, c1, rfl⟩ := rdb_shape h1
  exact between_any a1 c1 a b L w hz hok (rdb_row h1)

set_option maxHeartbeats 1000000 in
theorem ahead_rdb {w : World} {v : Value} {L : List Sp} (b : Int) (hz : L.length * 24 ≤ 140737488355328) (hok : Hid (okL L = true)) (h1 : Hid (Rdb w v L)) :
    Calls Try.prog 32 #[v, .int .i64 b] w fun e w' => Gave w.heap.size w (betW 0 b L) e w' := by
  go_enter Try.func32, Try.ntmps32
  go_wp2_with (go_at_call 34; (have Q := between_rdb 0 b hz hok.out h1.out); refine Q.mono ?_; clear Q; rintro e w9 ⟨v9, rfl, h9⟩; (have H9 := Hid.mk' h9); clear h9)
  go_ret
  exact ⟨v9, rfl, H9.out⟩

set_option maxHeartbeats 1000000 in
theorem behind_rdb {w : World} {v : Value} {L : List Sp} (a : Int) (hz : L.length * 24 ≤ 140737488355328) (hok : Hid (okL L = true)) (h1 : Hid (Rdb w v L)) :
    Calls Try.prog 33 #[v, .int .i64 a] w fun e w' => Gave w.heap.size w (betW a (sizeW L) L) e w' := by
  generalize hS : sizeW L = S
  have HS := Hid.mk' hS
  clear hS
  go_enter Try.func33, Try.ntmps33
  go_wp2_with (first | (go_at_call 14; (have Q := Size_rdb hz (okL_rng hok.out) h1.out); rw [HS.out] at Q; refine Q.mono ?_; clear Q; rintro e w9 ⟨rfl, h9⟩; (have H9 := Hid.mk' h9); clear h9)
                     | (go_at_call 34; (have Q := between_rdb a S hz hok.out (h1.out.keep H9.out)); refine Q.mono ?_; clear Q; rintro e w8 ⟨v8, rfl, h8⟩; (have H8 := Hid.mk' h8); clear h8))
  go_ret
  exact Gave.lower ⟨v8, rfl, H8.out⟩ H9.out

/-- why the bytes from a to b - 1 can't be told -/
def rfs (L : List Sp) (a b : Int) : Int := if okL L = true then (if a < 0 ∨ b < a ∨ sizeW L < b then 30 else 0) else 10
theorem rfs_bad {L : List Sp} {a b : Int} (h : okL L = false) : rfs L a b = 10 := by simp [rfs, h]
theorem rfs_zero {L : List Sp} {a b : Int} (h : rfs L a b = 0) : okL L = true ∧ 0 ≤ a ∧ a ≤ b ∧ b ≤ sizeW L := by
  unfold rfs at h
  split at h
  · rename_i h1
    split at h
    · omega
    · rename_i h2
      exact ⟨h1, by omega, by omega, by omega⟩
  · omega

set_option maxHeartbeats 1000000 in
theorem refusal_rdb {w : World} {v : Value} {L : List Sp} (a b : Int) (hz : L.length * 24 ≤ 140737488355328) (hg : Hid (Rng L)) (h1 : Hid (Rdb w v L)) :
    Calls Try.prog 31 #[v, .int .i64 a, .int .i64 b] w fun e w' => e = .returned (.int .i64 (rfs L a b)) ∧ Below w.heap.size w w' := by
  obtain ⟨ao, c, rfl⟩ := rdb_shape h1.out
  have HR := Hid.mk' (rdb_row h1.out)
  cases hok : okL L with
  | false =>
    rw [rfs_bad hok]
    have HO := Hid.mk' hok
    clear hok
    go_enter Try.func31, Try.ntmps31
    go_wp2_with (go_at_call 28; refine (allRight_any ao _ c L _ rfl (by omega) hg HR).mono ?_; rintro e w9 ⟨rfl, hb9⟩; rw [HO.out]; (have H9 := Hid.mk' hb9); clear hb9)
    go_ret
    exact ⟨rfl, H9.out⟩
  | true =>
    have HO := Hid.mk' hok
    have hE : Hid (rfs L a b = if a < 0 ∨ b < a ∨ sizeW L < b then 30 else 0) := by unfold Hid rfs; rw [if_pos hok]
    clear hok
    generalize hS : sizeW L = S at *
    have HS := Hid.mk' hS
    clear hS
    by_cases ha : a < 0
    · rw [hE.out, if_pos (by omega)]
      clear hE
      go_enter Try.func31, Try.ntmps31
      go_wp2_with (go_at_call 28; refine (allRight_any ao _ c L _ rfl (by omega) hg HR).mono ?_; rintro e w9 ⟨rfl, hb9⟩; rw [HO.out]; (have H9 := Hid.mk' hb9); clear hb9)
      go_ret
      exact ⟨rfl, H9.out⟩
    · by_cases hb : b < a
      · rw [hE.out, if_pos (by omega)]
        clear hE
        go_enter Try.func31, Try.ntmps31
        go_wp2_with (go_at_call 28; refine (allRight_any ao _ c L _ rfl (by omega) hg HR).mono ?_; rintro e w9 ⟨rfl, hb9⟩; rw [HO.out]; (have H9 := Hid.mk' hb9); clear hb9)
        go_ret
        exact ⟨rfl, H9.out⟩
      · by_cases hs : S < b
        · rw [hE.out, if_pos (by omega)]
          clear hE
          go_enter Try.func31, Try.ntmps31
          go_wp2_with (first | (go_at_call 28; refine (allRight_any ao _ c L _ rfl (by omega) hg HR).mono ?_; rintro e w9 ⟨rfl, hb9⟩; rw [HO.out]; (have H9 := Hid.mk' hb9); clear hb9)
                             | (go_at_call 14; (have Q := Size_rdb hz (okL_rng HO.out) (h1.out.keep H9.out)); rw [HS.out] at Q; refine Q.mono ?_; clear Q; rintro e w8 ⟨rfl, h8⟩; (have H8 := Hid.mk' (bT H9.out h8)); clear h8))
          go_ret
          exact ⟨rfl, H8.out⟩
        · rw [hE.out, if_neg (by omega)]
          clear hE
          go_enter Try.func31, Try.ntmps31
          go_wp2_with (first | (go_at_call 28; refine (allRight_any ao _ c L _ rfl (by omega) hg HR).mono ?_; rintro e w9 ⟨rfl, hb9⟩; rw [HO.out]; (have H9 := Hid.mk' hb9); clear hb9)
                             | (go_at_call 14; (have Q := Size_rdb hz (okL_rng HO.out) (h1.out.keep H9.out)); rw [HS.out] at Q; refine Q.mono ?_; clear Q; rintro e w8 ⟨rfl, h8⟩; (have H8 := Hid.mk' (bT H9.out h8)); clear h8))
          go_ret
          exact ⟨rfl, H8.out⟩

/-- together, of one list that the call owns, in a block that was just made -/
theorem together_own (L : List Sp) (v : Value) (B : Nat) (w w0 : World) (hok : okL L = true) (hz : L.length * 24 ≤ 140737488355328) (hr : w.ownsRow B 39 3 v L.length (cells L)) (hb : Below w0.heap.size w0 w) :
    Calls Try.prog 29 #[.slice (some ⟨w.heap.size, 0, none⟩) 1 1] (w.alloc (.cells #[v] 22)) fun e w' => Gave w0.heap.size w0 (packL L) e w' := by
  obtain ⟨ao, c, rfl⟩ := own_shape hr
  exact together_one ao c L w w0 hok hz (own_rdb hr) hb

/-- Slice's answer -/
def slcL (L : List Sp) (a b : Int) : List Sp := if rfs L a b = 0 then packL (betW a b L) else []

/-- what a call gives that answers a list and an error -/
def Gave1 (w0 : World) (A : List Sp) (r : Int) (e : Ending) (w' : World) : Prop :=
  ∃ v', e = .returned (.tuple #[v', .int .i64 r]) ∧ w'.ownsRow w0.heap.size 39 3 v' A.length (cells A) ∧ Below w0.heap.size w0 w'

set_option maxRecDepth 100000 in
set_option maxHeartbeats 2000000 in
theorem Slice_rdb {w : World} {v : Value} {L : List Sp} (a b : Int) (hz : L.length * 24 ≤ 140737488355328) (hg : Hid (Rng L)) (h1 : Hid (Rdb w v L)) :
    Calls Try.prog 20 #[v, .int .i64 a, .int .i64 b] w fun e w' => Gave1 w (slcL L a b) (rfs L a b) e w' := by
  have hbl := betW_length a b L
  by_cases h0 : rfs L a b = 0
  · have HO := Hid.mk' (rfs_zero h0).1
    have H0 := Hid.mk' h0
    rw [slcL, if_pos h0, h0]
    clear h0
    go_enter Try.func20, Try.ntmps20
    go_wp2_with (first | (go_at_call 31; (have Q := refusal_rdb a b hz hg h1); rw [H0.out] at Q; refine Q.mono ?_; clear Q; rintro e w9 ⟨rfl, h9⟩; (have H9 := Hid.mk' h9); clear h9)
                       | (go_at_call 34; (have Q := between_rdb a b hz HO.out (h1.out.keep H9.out)); refine Q.mono ?_; clear Q; rintro e w8 ⟨v8, rfl, h8, k8, _⟩; obtain ⟨a8, c8, rfl⟩ := own_shape h8; (have H8 : Hid (w8.ownsRow w9.heap.size 39 3 (.slice a8 (betW a b L).length c8) (betW a b L).length (cells (betW a b L)) ∧ Below w.heap.size w w8) := ⟨h8, bT H9.out k8⟩); clear h8 k8)
                       | (go_at_call 29; (have Q := together_own (betW a b L) _ w9.heap.size w8 w (betW_ok HO.out) (by omega) H8.out.1 H8.out.2); refine Q.mono ?_; clear Q; rintro e w7 ⟨v7, rfl, h7, k7, _⟩; (have H7 := Hid.mk' (And.intro h7 k7)); clear h7 k7))
    exact bodyPost_ret (v := .tuple #[v7, .int .i64 0]) (by simp [results, Try.results20, go_sem]) rfl ⟨v7, rfl, H7.out⟩
  · rw [slcL, if_neg h0]
    generalize hR : rfs L a b = R at *
    have HR := Hid.mk' hR
    clear hR
    go_enter Try.func20, Try.ntmps20
    go_wp2_with (go_at_call 31; (have Q := refusal_rdb a b hz hg h1); rw [HR.out] at Q; refine Q.mono ?_; clear Q; rintro e w9 ⟨rfl, h9⟩; (have H9 := Hid.mk' h9); clear h9)
    exact bodyPost_ret (v := .tuple #[.slice none 0 0, .int .i64 R]) (by simp [results, Try.results20, go_sem]) rfl ⟨_, rfl, World.ownsRow_nil _ _ _ _, H9.out⟩
end Go.Proofs.Ytjjgloioppjcaaa
