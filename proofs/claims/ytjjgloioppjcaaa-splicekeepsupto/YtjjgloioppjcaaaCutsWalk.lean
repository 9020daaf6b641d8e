/- The walk of quoinlaw03.SpliceCuts. -/
import Derived.Test.YtjjgloioppjcaaaRefCut
namespace Go.Proofs.Ytjjgloioppjcaaa
open Go.RowKit

/-- values and their lists -/
def All (W : World) (xs : List (Value × List Sp)) : Prop := ∀ x ∈ xs, Rdb W x.1 x.2
theorem All.keep {w w' : World} {xs : List (Value × List Sp)} (h : All w xs) (hb : Below w.heap.size w w') : All w' xs := fun x hx => (h x hx).keep hb
theorem All.nil (w : World) : All w [] := fun x hx => by simp at hx
theorem All.cons {w : World} {xs : List (Value × List Sp)} {v : Value} {A : List Sp} (h1 : Rdb w v A) (h : All w xs) : All w ((v, A) :: xs) := fun x hx => by
  rcases List.mem_cons.1 hx with rfl | h'
  · exact h1
  · exact h x h'
theorem slcL_length (L : List Sp) (a b : Int) : (slcL L a b).length ≤ L.length := by
  unfold slcL; split
  · exact Nat.le_trans (packL_length _) (betW_length _ _ _)
  · simp
theorem cut1_length (L : List Sp) (a : Int) : (cut1 L a).length ≤ L.length := by
  unfold cut1; split
  · exact Nat.le_trans (packL_length _) (betW_length _ _ _)
  · simp
theorem cut2_length (L : List Sp) (a : Int) : (cut2 L a).length ≤ L.length := by
  unfold cut2; split
  · exact Nat.le_trans (packL_length _) (betW_length _ _ _)
  · simp
theorem delL_length (L : List Sp) (a b : Int) : (delL L a b).length ≤ L.length + L.length := by
  unfold delL; split
  · refine Nat.le_trans (packL_length _) ?_
    have := betW_length 0 a L
    have := betW_length b (sizeW L) L
    rw [List.length_append]; omega
  · simp
theorem delcut {L : List Sp} (a b : Int) (hz : L.length ≤ 1048576) : rfs L a b = 0 → ((betW 0 a L).length + (betW b (sizeW L) L).length) * 24 ≤ 140737488355328 := fun _ => by
  have := betW_length 0 a L
  have := betW_length b (sizeW L) L
  omega

set_option maxRecDepth 100000 in
set_option maxHeartbeats 4000000 in
theorem cuts_walk (v : Value) (L : List Sp) (a b : Int) (w : World) (hz : L.length ≤ 1048576) (hg : Hid (Rng L)) (hr : Hid (Rdb w v L)) :
    Calls Try.prog 4 #[v, .int .i64 a, .int .i64 b] w fun e w' => e = .returned (.bool true) ∧ Below w.heap.size w w' := by
  have l1 := cut1_length L a
  have l2 := cut2_length L a
  have l3 := delL_length L a b
  have l4 := slcL_length L a b
  have hd := Hid.mk' (delcut (L := L) a b hz)
  generalize h1 : cut1 L a = A at *
  generalize h2 : cut2 L a = B at *
  generalize h3 : delL L a b = C at *
  generalize h4 : slcL L a b = D at *
  generalize h5 : rfs L a a = R1 at *
  have hr2 : rfs L a b = rfs L a b := rfl
  generalize h6 : rfs L a b = R2 at *
  have E1 := Hid.mk' h1
  have E2 := Hid.mk' h2
  have E3 := Hid.mk' h3
  have E4 := Hid.mk' h4
  have E5 := Hid.mk' h5
  have E6 := Hid.mk' h6
  clear h1 h2 h3 h4 h5 h6 hr2
  go_enter Try.func4, Try.ntmps4
  go_wp2_with (first | (go_at_call 9; refine (awake_any w).mono ?_; rintro e w9 ⟨rfl, hb9⟩; have H9 : Hid (All w9 [] ∧ Below w.heap.size w w9) := ⟨All.nil _, hb9⟩; clear hb9)
                     | (go_at_call 15; (have Q := refCut_rdb a hz (hr.out.keep H9.out.2)); rw [E1.out, E2.out, E5.out] at Q; refine Q.mono ?_; clear Q; rintro e w8 ⟨va, vb, rfl, h1, h2, _, k1⟩; (have H8 : Hid (All w8 [(vb, B), (va, A)] ∧ Below w.heap.size w w8) := ⟨All.cons (own_rdb h2) (All.cons (own_rdb h1) (H9.out.1.keep k1)), bT H9.out.2 k1⟩); clear h1 h2 k1)
                     | (go_at_call 16; (have Q := refDelete_rdb a b hz (hr.out.keep H8.out.2)); rw [E3.out, E6.out] at Q; refine Q.mono ?_; clear Q; rintro e w7 ⟨vc, rfl, h1, k1⟩; (have H7 : Hid (All w7 [(vc, C), (vb, B), (va, A)] ∧ Below w.heap.size w w7) := ⟨All.cons (own_rdb h1) (H8.out.1.keep k1), bT H8.out.2 k1⟩); clear h1 k1)
                     | (go_at_call 17; (have Q := refSlice_rdb a b hz (hr.out.keep H7.out.2)); rw [E4.out, E6.out] at Q; refine Q.mono ?_; clear Q; rintro e w6 ⟨vd, rfl, h1, k1⟩; (have H6 : Hid (All w6 [(vd, D), (vc, C), (vb, B), (va, A)] ∧ Below w.heap.size w w6) := ⟨All.cons (own_rdb h1) (H7.out.1.keep k1), bT H7.out.2 k1⟩); clear h1 k1)
                     | (go_at_call 18; (have Q := Cut_rdb a (by omega) hg (hr.out.keep H6.out.2)); rw [E1.out, E2.out, E5.out] at Q; refine Q.mono ?_; clear Q; rintro e w5 ⟨vw, vx, rfl, h1, h2, _, k1⟩; (have H5 : Hid (All w5 [(vx, B), (vw, A), (vd, D), (vc, C), (vb, B), (va, A)] ∧ Below w.heap.size w w5) := ⟨All.cons (own_rdb h2) (All.cons (own_rdb h1) (H6.out.1.keep k1)), bT H6.out.2 k1⟩); clear h1 h2 k1)
                     | (go_at_call 19; (have Q := Delete_rdb a b (by omega) (by rw [E6.out]; exact hd.out) hg (hr.out.keep H5.out.2)); rw [E3.out, E6.out] at Q; refine Q.mono ?_; clear Q; rintro e w4 ⟨vy, rfl, h1, k1⟩; (have H4 : Hid (All w4 [(vy, C), (vx, B), (vw, A), (vd, D), (vc, C), (vb, B), (va, A)] ∧ Below w.heap.size w w4) := ⟨All.cons (own_rdb h1) (H5.out.1.keep k1), bT H5.out.2 k1⟩); clear h1 k1)
                     | (go_at_call 20; (have Q := Slice_rdb a b (by omega) hg (hr.out.keep H4.out.2)); rw [E4.out, E6.out] at Q; refine Q.mono ?_; clear Q; rintro e w3 ⟨vz, rfl, h1, k1⟩; (have H3 : Hid (All w3 [(vz, D), (vy, C), (vx, B), (vw, A), (vd, D), (vc, C), (vb, B), (va, A)] ∧ Below w.heap.size w w3) := ⟨All.cons (own_rdb h1) (H4.out.1.keep k1), bT H4.out.2 k1⟩); clear h1 k1)
                     | (go_at_call_of 12 vw; (have Q := same_rdb (L := A) (by omega) (H3.out.1 (vw, A) (by simp)) (H3.out.1 (va, A) (by simp))); refine Q.mono ?_; clear Q; rintro e w2 ⟨rfl, k1⟩; (have H2 : Hid (All w2 [(vz, D), (vy, C), (vx, B), (vw, A), (vd, D), (vc, C), (vb, B), (va, A)] ∧ Below w.heap.size w w2) := ⟨H3.out.1.keep k1, bT H3.out.2 k1⟩); clear k1)
                     | (go_at_call_of 12 vx; (have Q := same_rdb (L := B) (by omega) (H2.out.1 (vx, B) (by simp)) (H2.out.1 (vb, B) (by simp))); refine Q.mono ?_; clear Q; rintro e w1 ⟨rfl, k1⟩; (have H1 : Hid (All w1 [(vz, D), (vy, C), (vx, B), (vw, A), (vd, D), (vc, C), (vb, B), (va, A)] ∧ Below w.heap.size w w1) := ⟨H2.out.1.keep k1, bT H2.out.2 k1⟩); clear k1)
                     | (go_at_call_of 12 vy; (have Q := same_rdb (L := C) (by omega) (H1.out.1 (vy, C) (by simp)) (H1.out.1 (vc, C) (by simp))); refine Q.mono ?_; clear Q; rintro e w0 ⟨rfl, k1⟩; (have H0 : Hid (All w0 [(vz, D), (vy, C), (vx, B), (vw, A), (vd, D), (vc, C), (vb, B), (va, A)] ∧ Below w.heap.size w w0) := ⟨H1.out.1.keep k1, bT H1.out.2 k1⟩); clear k1)
                     | (go_at_call_of 12 vz; (have Q := same_rdb (L := D) (by omega) (H0.out.1 (vz, D) (by simp)) (H0.out.1 (vd, D) (by simp))); refine Q.mono ?_; clear Q; rintro e w00 ⟨rfl, k1⟩; (have H00 : Hid (All w00 [(vz, D), (vy, C), (vx, B), (vw, A), (vd, D), (vc, C), (vb, B), (va, A)] ∧ Below w.heap.size w w00) := ⟨H0.out.1.keep k1, bT H0.out.2 k1⟩); clear k1))
  go_ret
  exact ⟨rfl, H00.out.2⟩
end Go.Proofs.Ytjjgloioppjcaaa
