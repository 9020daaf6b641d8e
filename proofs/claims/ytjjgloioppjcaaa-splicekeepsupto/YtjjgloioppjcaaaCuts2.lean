/- The contracts of Delete and Cut. -/
import Derived.Test.YtjjgloioppjcaaaCuts
namespace Go.Proofs.Ytjjgloioppjcaaa
open Go.RowKit

/-- together, of lists whose values lie in a block that was just made -/
theorem together_made (LL : List (List Sp)) (V : List Value) (w w0 : World) (hl : LL.length = V.length) (hk : LL.length ≤ 1000) (hok : okL LL.flatten = true) (hz : LL.flatten.length * 24 ≤ 140737488355328) (hr : ∀ (i : Nat) (L : List Sp), LL[i]? = some L → ∃ v, V[i]? = some v ∧ Rdb w v L) (hb : Below w0.heap.size w0 w) :
    Calls Try.prog 29 #[.slice (some ⟨w.heap.size, 0, none⟩) V.length V.length] (w.alloc (.cells V.toArray 22)) fun e w' => Gave w0.heap.size w0 (packL LL.flatten) e w' := by
  have h := together_any w.heap.size V.length V.length LL (w.alloc (.cells V.toArray 22)) hl.symm (by omega) hok hz (by
    intro i L hi
    obtain ⟨v, h1, h2⟩ := hr i L hi
    refine ⟨v, ?_, h2.keep (bAlloc (Below.refl _ _) _)⟩
    rw [World.cell?_alloc_mark]
    simpa using h1)
  exact h.mono fun e w' hg => hg.lower (bAlloc hb _)

theorem together_two {A B : List Sp} {a1 a2 : Option Addr} {c1 c2 B1 B2 : Nat} (w w0 : World) (hA : okL A = true) (hB : okL B = true) (hz : (A.length + B.length) * 24 ≤ 140737488355328) (h1 : w.ownsRow B1 39 3 (.slice a1 A.length c1) A.length (cells A)) (h2 : w.ownsRow B2 39 3 (.slice a2 B.length c2) B.length (cells B)) (hb : Below w0.heap.size w0 w) :
    Calls Try.prog 29 #[.slice (some ⟨w.heap.size, 0, none⟩) 2 2] (w.alloc (.cells #[.slice a1 A.length c1, .slice a2 B.length c2] 22)) fun e w' => Gave w0.heap.size w0 (packL (A ++ B)) e w' := by
  have e1 : [A, B].flatten = A ++ B := by simp
  have h := together_made [A, B] [.slice a1 A.length c1, .slice a2 B.length c2] w w0 rfl (by simp) (by rw [e1, okL_append, hA, hB]; rfl) (by rw [e1, List.length_append]; exact hz) (by
    intro i L hi
    match i with
    | 0 => simp at hi; subst hi; exact ⟨_, rfl, own_rdb h1⟩
    | 1 => simp at hi; subst hi; exact ⟨_, rfl, own_rdb h2⟩
    | (i + 2) => simp at hi) hb
  rw [e1] at h
  exact h

/-- Delete's answer -/
def delL (L : List Sp) (a b : Int) : List Sp := if rfs L a b = 0 then packL (betW 0 a L ++ betW b (sizeW L) L) else []

set_option maxRecDepth 100000 in
set_option maxHeartbeats 2000000 in
theorem Delete_rdb {w : World} {v : Value} {L : List Sp} (a b : Int) (hz : L.length * 24 ≤ 140737488355328) (hcut : rfs L a b = 0 → ((betW 0 a L).length + (betW b (sizeW L) L).length) * 24 ≤ 140737488355328) (hg : Hid (Rng L)) (h1 : Hid (Rdb w v L)) :
    Calls Try.prog 19 #[v, .int .i64 a, .int .i64 b] w fun e w' => Gave1 w (delL L a b) (rfs L a b) e w' := by
  by_cases h0 : rfs L a b = 0
  · have HO := Hid.mk' (rfs_zero h0).1
    have H0 := Hid.mk' h0
    have HC := Hid.mk' (hcut h0)
    rw [delL, if_pos h0, h0]
    generalize hA : betW 0 a L = A at *
    generalize hB : betW b (sizeW L) L = B at *
    have HA := Hid.mk' hA
    have HB := Hid.mk' hB
    clear h0 hA hB hcut
    go_enter Try.func19, Try.ntmps19
    go_wp2_with (first | (go_at_call 31; (have Q := refusal_rdb a b hz hg h1); rw [H0.out] at Q; refine Q.mono ?_; clear Q; rintro e w9 ⟨rfl, h9⟩; (have H9 := Hid.mk' h9); clear h9)
                       | (go_at_call 32; (have Q := ahead_rdb a hz HO (h1.out.keep H9.out)); rw [HA.out] at Q; refine Q.mono ?_; clear Q; rintro e w8 ⟨v8, rfl, h8, k8, _⟩; obtain ⟨a8, c8, rfl⟩ := own_shape h8; (have H8 : Hid (w8.ownsRow w9.heap.size 39 3 (.slice a8 A.length c8) A.length (cells A) ∧ Below w.heap.size w w8) := ⟨h8, bT H9.out k8⟩); clear h8 k8)
                       | (go_at_call 33; (have Q := behind_rdb b hz HO (h1.out.keep H8.out.2)); rw [HB.out] at Q; refine Q.mono ?_; clear Q; rintro e w7 ⟨v7, rfl, h7, k7, _⟩; obtain ⟨a7, c7, rfl⟩ := own_shape h7; (have H7 : Hid (w7.ownsRow w9.heap.size 39 3 (.slice a8 A.length c8) A.length (cells A) ∧ w7.ownsRow w8.heap.size 39 3 (.slice a7 B.length c7) B.length (cells B) ∧ Below w.heap.size w w7) := ⟨own_keep H8.out.1 k7, h7, bT H8.out.2 k7⟩); clear h7 k7)
                       | (go_at_call 29; (have Q := together_two w7 w (by rw [← HA.out]; exact betW_ok HO.out) (by rw [← HB.out]; exact betW_ok HO.out) HC.out H7.out.1 H7.out.2.1 H7.out.2.2); refine Q.mono ?_; clear Q; rintro e w6 ⟨v6, rfl, h6, k6, _⟩; (have H6 := Hid.mk' (And.intro h6 k6)); clear h6 k6))
    exact bodyPost_ret (v := .tuple #[v6, .int .i64 0]) (by simp [results, Try.results19, go_sem]) rfl ⟨v6, rfl, H6.out⟩
  · rw [delL, if_neg h0]
    clear hcut
    generalize hR : rfs L a b = R at *
    have HR := Hid.mk' hR
    clear hR
    go_enter Try.func19, Try.ntmps19
    go_wp2_with (go_at_call 31; (have Q := refusal_rdb a b hz hg h1); rw [HR.out] at Q; refine Q.mono ?_; clear Q; rintro e w9 ⟨rfl, h9⟩; (have H9 := Hid.mk' h9); clear h9)
    exact bodyPost_ret (v := .tuple #[.slice none 0 0, .int .i64 R]) (by simp [results, Try.results19, go_sem]) rfl ⟨_, rfl, World.ownsRow_nil _ _ _ _, H9.out⟩

/-- Cut's answers -/
def cut1 (L : List Sp) (n : Int) : List Sp := if rfs L n n = 0 then packL (betW 0 n L) else []
def cut2 (L : List Sp) (n : Int) : List Sp := if rfs L n n = 0 then packL (betW n (sizeW L) L) else []
def Gave2 (w0 : World) (A B : List Sp) (r : Int) (e : Ending) (w' : World) : Prop :=
  ∃ v1 v2, e = .returned (.tuple #[v1, v2, .int .i64 r]) ∧ w'.ownsRow w0.heap.size 39 3 v1 A.length (cells A) ∧ w'.ownsRow w0.heap.size 39 3 v2 B.length (cells B) ∧ (v1.ownBlock = none ∨ v1.ownBlock ≠ v2.ownBlock) ∧ Below w0.heap.size w0 w'

theorem own_fresh {w w' : World} {B e e' size size' n n' : Nat} {v v' : Value} {xs xs' : List Value} (h : w.ownsRow B e size v n xs) (h' : w'.ownsRow w.heap.size e' size' v' n' xs') : v.ownBlock = none ∨ v.ownBlock ≠ v'.ownBlock := by
  rcases hv : v.ownBlock with _ | g
  · exact .inl rfl
  · have h1 := (h.lt g hv).2
    refine .inr fun e => ?_
    have := (h'.lt g e.symm).1
    omega

set_option maxRecDepth 100000 in
set_option maxHeartbeats 2000000 in
theorem Cut_rdb {w : World} {v : Value} {L : List Sp} (n : Int) (hz : L.length * 24 ≤ 140737488355328) (hg : Hid (Rng L)) (h1 : Hid (Rdb w v L)) :
    Calls Try.prog 18 #[v, .int .i64 n] w fun e w' => Gave2 w (cut1 L n) (cut2 L n) (rfs L n n) e w' := by
  by_cases h0 : rfs L n n = 0
  · have HO := Hid.mk' (rfs_zero h0).1
    have H0 := Hid.mk' h0
    have hla := betW_length 0 n L
    have hlb := betW_length n (sizeW L) L
    rw [cut1, cut2, if_pos h0, if_pos h0, h0]
    generalize hA : betW 0 n L = A at *
    generalize hB : betW n (sizeW L) L = B at *
    have HA := Hid.mk' hA
    have HB := Hid.mk' hB
    clear h0 hA hB
    go_enter Try.func18, Try.ntmps18
    go_wp2_with (first | (go_at_call 31; (have Q := refusal_rdb n n hz hg h1); rw [H0.out] at Q; refine Q.mono ?_; clear Q; rintro e w9 ⟨rfl, h9⟩; (have H9 := Hid.mk' h9); clear h9)
                       | (go_at_call 32; (have Q := ahead_rdb n hz HO (h1.out.keep H9.out)); rw [HA.out] at Q; refine Q.mono ?_; clear Q; rintro e w8 ⟨v8, rfl, h8, k8, _⟩; obtain ⟨a8, c8, rfl⟩ := own_shape h8; (have H8 : Hid (w8.ownsRow w9.heap.size 39 3 (.slice a8 A.length c8) A.length (cells A) ∧ Below w.heap.size w w8) := ⟨h8, bT H9.out k8⟩); clear h8 k8)
                       | (go_at_call_of 29 (Value.slice (some ⟨w8.heap.size, 0, none⟩) 1 1); (have Q := together_own A _ w9.heap.size w8 w8 (by rw [← HA.out]; exact betW_ok HO.out) (by omega) H8.out.1 (Below.refl _ _)); refine Q.mono ?_; clear Q; rintro e w7 ⟨v7, rfl, h7, k7, _⟩; (have H7 : Hid (w7.ownsRow w8.heap.size 39 3 v7 (packL A).length (cells (packL A)) ∧ Below w.heap.size w w7) := ⟨h7, bT H8.out.2 k7⟩); clear h7 k7)
                       | (go_at_call 33; (have Q := behind_rdb n hz HO (h1.out.keep H7.out.2)); rw [HB.out] at Q; refine Q.mono ?_; clear Q; rintro e w6 ⟨v6, rfl, h6, k6, _⟩; obtain ⟨a6, c6, rfl⟩ := own_shape h6; (have H6 : Hid (w6.ownsRow w8.heap.size 39 3 v7 (packL A).length (cells (packL A)) ∧ w6.ownsRow w7.heap.size 39 3 (.slice a6 B.length c6) B.length (cells B) ∧ Below w.heap.size w w6) := ⟨own_keep H7.out.1 k6, h6, bT H7.out.2 k6⟩); clear h6 k6)
                       | (go_at_call 29; (have Q := together_own B _ w7.heap.size w6 w6 (by rw [← HB.out]; exact betW_ok HO.out) (by omega) H6.out.2.1 (Below.refl _ _)); refine Q.mono ?_; clear Q; rintro e w5 ⟨v5, rfl, h5, k5, _⟩; (have H5 : Hid (w5.ownsRow w8.heap.size 39 3 v7 (packL A).length (cells (packL A)) ∧ w5.ownsRow w6.heap.size 39 3 v5 (packL B).length (cells (packL B)) ∧ (v7.ownBlock = none ∨ v7.ownBlock ≠ v5.ownBlock) ∧ Below w.heap.size w w5) := ⟨own_keep H6.out.1 k5, h5, own_fresh H6.out.1 h5, bT H6.out.2.2 k5⟩); clear h5 k5))
    exact bodyPost_ret (v := .tuple #[v7, v5, .int .i64 0]) (by simp [results, Try.results18, go_sem]) rfl ⟨v7, v5, rfl, own_lower H5.out.1 H8.out.2.size, own_lower H5.out.2.1 H6.out.2.2.size, H5.out.2.2⟩
  · rw [cut1, cut2, if_neg h0, if_neg h0]
    generalize hR : rfs L n n = R at *
    have HR := Hid.mk' hR
    clear hR
    go_enter Try.func18, Try.ntmps18
    go_wp2_with (go_at_call 31; (have Q := refusal_rdb n n hz hg h1); rw [HR.out] at Q; refine Q.mono ?_; clear Q; rintro e w9 ⟨rfl, h9⟩; (have H9 := Hid.mk' h9); clear h9)
    exact bodyPost_ret (v := .tuple #[.slice none 0 0, .slice none 0 0, .int .i64 R]) (by simp [results, Try.results18, go_sem]) rfl ⟨_, _, rfl, World.ownsRow_nil _ _ _ _, World.ownsRow_nil _ _ _ _, .inl rfl, H9.out⟩
end Go.Proofs.Ytjjgloioppjcaaa
