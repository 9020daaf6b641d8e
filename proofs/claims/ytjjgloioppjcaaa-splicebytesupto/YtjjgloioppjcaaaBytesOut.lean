/- The walk of quoinlaw03.SpliceBytes, where it does not come to the bytes. -/
import Derived.Test.YtjjgloioppjcaaaSmall
namespace Go.Proofs.Ytjjgloioppjcaaa
open Go.RowKit

/-- values and their pairs -/
def AllP (base : Nat) (W : World) (xs : List (Value × List (Int × Int))) : Prop := ∀ x ∈ xs, W.ownsRow base 55 2 x.1 x.2.length (pcells x.2)
theorem AllP.keep {base : Nat} {w w' : World} {xs : List (Value × List (Int × Int))} (h : AllP base w xs) (hb : Below w.heap.size w w') : AllP base w' xs := fun x hx => own_keep (h x hx) hb
theorem AllP.nil (base : Nat) (w : World) : AllP base w [] := fun x hx => by simp at hx
theorem AllP.cons {base : Nat} {w : World} {xs : List (Value × List (Int × Int))} {v : Value} {A : List (Int × Int)} (h1 : w.ownsRow base 55 2 v A.length (pcells A)) (h : AllP base w xs) : AllP base w ((v, A) :: xs) := fun x hx => by
  rcases List.mem_cons.1 hx with rfl | h'
  · exact h1
  · exact h x h'

set_option maxRecDepth 100000 in
set_option maxHeartbeats 8000000 in
theorem bytes_big0 (v : Value) (L : List Sp) (a b : Int) (w : World) (hz : L.length ≤ 1048576) (hg : Hid (Rng L)) (hr : Hid (Rdb w v L)) (hS : Hid (¬ okS L)) (hq0 : rfs L a a = 0) :
    Calls Try.prog 6 #[v, .int .i64 a, .int .i64 b] w fun e w' => e = .returned (.bool true) ∧ Below w.heap.size w w' := by
  have l0 := packA_length L
  have l1 := cut1_length L a
  have l2 := cut2_length L a
  have l3 := delL_length L a b
  have l4 := slcL_length L a b
  have o0 := Hid.mk' (pack_ok L)
  have o1 := Hid.mk' (cut1_ok L a)
  have o2 := Hid.mk' (cut2_ok L a)
  have o3 := Hid.mk' (del_ok L a b)
  have o4 := Hid.mk' (slc_ok L a b)
  have hag := packA_again L
  have hd := Hid.mk' (delcut (L := L) a b hz)
  generalize h0 : packA L = P at *
  generalize h1 : cut1 L a = A at *
  generalize h2 : cut2 L a = B at *
  generalize h3 : delL L a b = C at *
  generalize h4 : slcL L a b = D at *
  generalize h5 : rfs L a a = R1 at *
  have hrb : rfs L a b = rfs L a b := rfl
  generalize h6 : rfs L a b = R2 at *
  have E0 := Hid.mk' h0
  have E1 := Hid.mk' h1
  have E2 := Hid.mk' h2
  have E3 := Hid.mk' h3
  have E4 := Hid.mk' h4
  have E5 := Hid.mk' h5
  have E6 := Hid.mk' h6
  have EA := Hid.mk' hag
  clear h0 h1 h2 h3 h4 h5 h6 hag hrb
  go_enter Try.func6, Try.ntmps6
  go_wp2_with (first | (go_at_call 9; refine (awake_any w).mono ?_; rintro e wa1 ⟨rfl, k1⟩; (have Ha1 : Hid (All wa1 [] ∧ AllP w.heap.size wa1 [] ∧ Below w.heap.size w wa1) := ⟨All.nil _, AllP.nil _ _, k1⟩); clear k1)
                     | (go_at_call_of 23 v; (have Q := bytes_no (by omega) hg.out hS.out (hr.out.keep Ha1.out.2.2)); refine Q.mono ?_; clear Q; rintro e wa2 ⟨rfl, k1⟩; (have Ha2 : Hid (All wa2 [] ∧ AllP w.heap.size wa2 [] ∧ Below w.heap.size w wa2) := ⟨Ha1.out.1.keep k1, Ha1.out.2.1.keep k1, bT Ha1.out.2.2 k1⟩); clear k1)
                     | (go_at_call_of 13 v; (have Q := Pack_rdb (by omega) hg.out (hr.out.keep Ha2.out.2.2)); rw [E0.out] at Q; refine Q.mono ?_; clear Q; rintro e wa3 ⟨vp, rfl, h1, k1, _⟩; (have Ha3 : Hid (All wa3 [(vp, P)] ∧ AllP w.heap.size wa3 [] ∧ Below w.heap.size w wa3) := ⟨All.cons (own_rdb h1) (Ha2.out.1.keep k1), Ha2.out.2.1.keep k1, bT Ha2.out.2.2 k1⟩); clear h1 k1)
                     | (go_at_call 18; (have Q := Cut_rdb a (by omega) hg (hr.out.keep Ha3.out.2.2)); rw [E1.out, E2.out, E5.out] at Q; refine Q.mono ?_; clear Q; rintro e wa4 ⟨vx, vy, rfl, h1, h2, _, k1⟩; (obtain ⟨xa, xc, rfl⟩ := own_shape h1); (obtain ⟨ya, yc, rfl⟩ := own_shape h2); (have Ha4 : Hid (All wa4 [((.slice ya B.length yc), B), ((.slice xa A.length xc), A), (vp, P)] ∧ AllP w.heap.size wa4 [] ∧ Below w.heap.size w wa4) := ⟨All.cons (own_rdb h2) (All.cons (own_rdb h1) (Ha3.out.1.keep k1)), Ha3.out.2.1.keep k1, bT Ha3.out.2.2 k1⟩); clear h1 h2 k1)
                     | (go_at_call 19; (have Q := Delete_rdb a b (by omega) (by rw [E6.out]; exact hd.out) hg (hr.out.keep Ha4.out.2.2)); rw [E3.out, E6.out] at Q; refine Q.mono ?_; clear Q; rintro e wa5 ⟨vc, rfl, h1, k1⟩; (have Ha5 : Hid (All wa5 [(vc, C), ((.slice ya B.length yc), B), ((.slice xa A.length xc), A), (vp, P)] ∧ AllP w.heap.size wa5 [] ∧ Below w.heap.size w wa5) := ⟨All.cons (own_rdb h1) (Ha4.out.1.keep k1), Ha4.out.2.1.keep k1, bT Ha4.out.2.2 k1⟩); clear h1 k1)
                     | (go_at_call 20; (have Q := Slice_rdb a b (by omega) hg (hr.out.keep Ha5.out.2.2)); rw [E4.out, E6.out] at Q; refine Q.mono ?_; clear Q; rintro e wa6 ⟨vd, rfl, h1, k1⟩; (have Ha6 : Hid (All wa6 [(vd, D), (vc, C), ((.slice ya B.length yc), B), ((.slice xa A.length xc), A), (vp, P)] ∧ AllP w.heap.size wa6 [] ∧ Below w.heap.size w wa6) := ⟨All.cons (own_rdb h1) (Ha5.out.1.keep k1), Ha5.out.2.1.keep k1, bT Ha5.out.2.2 k1⟩); clear h1 k1)
                     | (go_at_call_of 24 vp; (have Q := packed_rdb (L := P) (by omega) o0.out (Ha6.out.1 (vp, P) (by simp))); refine Q.mono ?_; clear Q; rintro e wa7 ⟨rfl, k1⟩; (have Ha7 : Hid (All wa7 [(vd, D), (vc, C), ((.slice ya B.length yc), B), ((.slice xa A.length xc), A), (vp, P)] ∧ AllP w.heap.size wa7 [] ∧ Below w.heap.size w wa7) := ⟨Ha6.out.1.keep k1, Ha6.out.2.1.keep k1, bT Ha6.out.2.2 k1⟩); clear k1)
                     | (go_at_call_of 24 (Value.slice xa A.length xc); (have Q := packed_rdb (L := A) (by omega) o1.out (Ha7.out.1 ((.slice xa A.length xc), A) (by simp))); refine Q.mono ?_; clear Q; rintro e wa8 ⟨rfl, k1⟩; (have Ha8 : Hid (All wa8 [(vd, D), (vc, C), ((.slice ya B.length yc), B), ((.slice xa A.length xc), A), (vp, P)] ∧ AllP w.heap.size wa8 [] ∧ Below w.heap.size w wa8) := ⟨Ha7.out.1.keep k1, Ha7.out.2.1.keep k1, bT Ha7.out.2.2 k1⟩); clear k1)
                     | (go_at_call_of 24 (Value.slice ya B.length yc); (have Q := packed_rdb (L := B) (by omega) o2.out (Ha8.out.1 ((.slice ya B.length yc), B) (by simp))); refine Q.mono ?_; clear Q; rintro e wa9 ⟨rfl, k1⟩; (have Ha9 : Hid (All wa9 [(vd, D), (vc, C), ((.slice ya B.length yc), B), ((.slice xa A.length xc), A), (vp, P)] ∧ AllP w.heap.size wa9 [] ∧ Below w.heap.size w wa9) := ⟨Ha8.out.1.keep k1, Ha8.out.2.1.keep k1, bT Ha8.out.2.2 k1⟩); clear k1)
                     | (go_at_call_of 24 vc; (have Q := packed_rdb (L := C) (by omega) o3.out (Ha9.out.1 (vc, C) (by simp))); refine Q.mono ?_; clear Q; rintro e wa10 ⟨rfl, k1⟩; (have Ha10 : Hid (All wa10 [(vd, D), (vc, C), ((.slice ya B.length yc), B), ((.slice xa A.length xc), A), (vp, P)] ∧ AllP w.heap.size wa10 [] ∧ Below w.heap.size w wa10) := ⟨Ha9.out.1.keep k1, Ha9.out.2.1.keep k1, bT Ha9.out.2.2 k1⟩); clear k1)
                     | (go_at_call_of 24 vd; (have Q := packed_rdb (L := D) (by omega) o4.out (Ha10.out.1 (vd, D) (by simp))); refine Q.mono ?_; clear Q; rintro e wa11 ⟨rfl, k1⟩; (have Ha11 : Hid (All wa11 [(vd, D), (vc, C), ((.slice ya B.length yc), B), ((.slice xa A.length xc), A), (vp, P)] ∧ AllP w.heap.size wa11 [] ∧ Below w.heap.size w wa11) := ⟨Ha10.out.1.keep k1, Ha10.out.2.1.keep k1, bT Ha10.out.2.2 k1⟩); clear k1)
                     | (go_at_call_of 13 vp; (have Q := Pack_rdb (L := P) (by omega) (okL_rng o0.out.1) (Ha11.out.1 (vp, P) (by simp))); rw [EA.out] at Q; refine Q.mono ?_; clear Q; rintro e wa12 ⟨vq, rfl, h1, k1, _⟩; (have Ha12 : Hid (All wa12 [(vq, P), (vd, D), (vc, C), ((.slice ya B.length yc), B), ((.slice xa A.length xc), A), (vp, P)] ∧ AllP w.heap.size wa12 [] ∧ Below w.heap.size w wa12) := ⟨All.cons (own_rdb h1) (Ha11.out.1.keep k1), Ha11.out.2.1.keep k1, bT Ha11.out.2.2 k1⟩); clear h1 k1)
                     | (go_at_call 12; (have Q := same_rdb (L := P) (by omega) (Ha12.out.1 (vq, P) (by simp)) (Ha12.out.1 (vp, P) (by simp))); refine Q.mono ?_; clear Q; rintro e wa13 ⟨rfl, k1⟩; (have Ha13 : Hid (All wa13 [(vq, P), (vd, D), (vc, C), ((.slice ya B.length yc), B), ((.slice xa A.length xc), A), (vp, P)] ∧ AllP w.heap.size wa13 [] ∧ Below w.heap.size w wa13) := ⟨Ha12.out.1.keep k1, Ha12.out.2.1.keep k1, bT Ha12.out.2.2 k1⟩); clear k1))
  go_ret
  exact ⟨rfl, Ha13.out.2.2⟩

set_option maxRecDepth 100000 in
set_option maxHeartbeats 8000000 in
theorem bytes_big1 (v : Value) (L : List Sp) (a b : Int) (w : World) (hz : L.length ≤ 1048576) (hg : Hid (Rng L)) (hr : Hid (Rdb w v L)) (hS : Hid (¬ okS L)) (hq0 : ¬ rfs L a a = 0) :
    Calls Try.prog 6 #[v, .int .i64 a, .int .i64 b] w fun e w' => e = .returned (.bool true) ∧ Below w.heap.size w w' := by
  have l0 := packA_length L
  have l1 := cut1_length L a
  have l2 := cut2_length L a
  have l3 := delL_length L a b
  have l4 := slcL_length L a b
  have o0 := Hid.mk' (pack_ok L)
  have o1 := Hid.mk' (cut1_ok L a)
  have o2 := Hid.mk' (cut2_ok L a)
  have o3 := Hid.mk' (del_ok L a b)
  have o4 := Hid.mk' (slc_ok L a b)
  have hag := packA_again L
  have hd := Hid.mk' (delcut (L := L) a b hz)
  have e1 : cut1 L a = [] := by rw [cut1, if_neg hq0]
  have e2 : cut2 L a = [] := by rw [cut2, if_neg hq0]
  have z1 : (cut1 L a).length = 0 := by rw [e1]; rfl
  have z2 : (cut2 L a).length = 0 := by rw [e2]; rfl
  have Z1 := Hid.mk' z1
  have Z2 := Hid.mk' z2
  clear e1 e2 z1 z2
  generalize h0 : packA L = P at *
  generalize h1 : cut1 L a = A at *
  generalize h2 : cut2 L a = B at *
  generalize h3 : delL L a b = C at *
  generalize h4 : slcL L a b = D at *
  generalize h5 : rfs L a a = R1 at *
  have hrb : rfs L a b = rfs L a b := rfl
  generalize h6 : rfs L a b = R2 at *
  have E0 := Hid.mk' h0
  have E1 := Hid.mk' h1
  have E2 := Hid.mk' h2
  have E3 := Hid.mk' h3
  have E4 := Hid.mk' h4
  have E5 := Hid.mk' h5
  have E6 := Hid.mk' h6
  have EA := Hid.mk' hag
  clear h0 h1 h2 h3 h4 h5 h6 hag hrb
  go_enter Try.func6, Try.ntmps6
  go_wp2_with (first | (go_at_call 9; refine (awake_any w).mono ?_; rintro e wa1 ⟨rfl, k1⟩; (have Ha1 : Hid (All wa1 [] ∧ AllP w.heap.size wa1 [] ∧ Below w.heap.size w wa1) := ⟨All.nil _, AllP.nil _ _, k1⟩); clear k1)
                     | (go_at_call_of 23 v; (have Q := bytes_no (by omega) hg.out hS.out (hr.out.keep Ha1.out.2.2)); refine Q.mono ?_; clear Q; rintro e wa2 ⟨rfl, k1⟩; (have Ha2 : Hid (All wa2 [] ∧ AllP w.heap.size wa2 [] ∧ Below w.heap.size w wa2) := ⟨Ha1.out.1.keep k1, Ha1.out.2.1.keep k1, bT Ha1.out.2.2 k1⟩); clear k1)
                     | (go_at_call_of 13 v; (have Q := Pack_rdb (by omega) hg.out (hr.out.keep Ha2.out.2.2)); rw [E0.out] at Q; refine Q.mono ?_; clear Q; rintro e wa3 ⟨vp, rfl, h1, k1, _⟩; (have Ha3 : Hid (All wa3 [(vp, P)] ∧ AllP w.heap.size wa3 [] ∧ Below w.heap.size w wa3) := ⟨All.cons (own_rdb h1) (Ha2.out.1.keep k1), Ha2.out.2.1.keep k1, bT Ha2.out.2.2 k1⟩); clear h1 k1)
                     | (go_at_call 18; (have Q := Cut_rdb a (by omega) hg (hr.out.keep Ha3.out.2.2)); rw [E1.out, E2.out, E5.out] at Q; refine Q.mono ?_; clear Q; rintro e wa4 ⟨vx, vy, rfl, h1, h2, _, k1⟩; (obtain ⟨xa, xc, rfl⟩ := own_shape h1); (obtain ⟨ya, yc, rfl⟩ := own_shape h2); (have Ha4 : Hid (All wa4 [((.slice ya B.length yc), B), ((.slice xa A.length xc), A), (vp, P)] ∧ AllP w.heap.size wa4 [] ∧ Below w.heap.size w wa4) := ⟨All.cons (own_rdb h2) (All.cons (own_rdb h1) (Ha3.out.1.keep k1)), Ha3.out.2.1.keep k1, bT Ha3.out.2.2 k1⟩); clear h1 h2 k1)
                     | (go_at_call 19; (have Q := Delete_rdb a b (by omega) (by rw [E6.out]; exact hd.out) hg (hr.out.keep Ha4.out.2.2)); rw [E3.out, E6.out] at Q; refine Q.mono ?_; clear Q; rintro e wa5 ⟨vc, rfl, h1, k1⟩; (have Ha5 : Hid (All wa5 [(vc, C), ((.slice ya B.length yc), B), ((.slice xa A.length xc), A), (vp, P)] ∧ AllP w.heap.size wa5 [] ∧ Below w.heap.size w wa5) := ⟨All.cons (own_rdb h1) (Ha4.out.1.keep k1), Ha4.out.2.1.keep k1, bT Ha4.out.2.2 k1⟩); clear h1 k1)
                     | (go_at_call 20; (have Q := Slice_rdb a b (by omega) hg (hr.out.keep Ha5.out.2.2)); rw [E4.out, E6.out] at Q; refine Q.mono ?_; clear Q; rintro e wa6 ⟨vd, rfl, h1, k1⟩; (have Ha6 : Hid (All wa6 [(vd, D), (vc, C), ((.slice ya B.length yc), B), ((.slice xa A.length xc), A), (vp, P)] ∧ AllP w.heap.size wa6 [] ∧ Below w.heap.size w wa6) := ⟨All.cons (own_rdb h1) (Ha5.out.1.keep k1), Ha5.out.2.1.keep k1, bT Ha5.out.2.2 k1⟩); clear h1 k1)
                     | (go_at_call_of 24 vp; (have Q := packed_rdb (L := P) (by omega) o0.out (Ha6.out.1 (vp, P) (by simp))); refine Q.mono ?_; clear Q; rintro e wa7 ⟨rfl, k1⟩; (have Ha7 : Hid (All wa7 [(vd, D), (vc, C), ((.slice ya B.length yc), B), ((.slice xa A.length xc), A), (vp, P)] ∧ AllP w.heap.size wa7 [] ∧ Below w.heap.size w wa7) := ⟨Ha6.out.1.keep k1, Ha6.out.2.1.keep k1, bT Ha6.out.2.2 k1⟩); clear k1)
                     | (go_at_call_of 24 (Value.slice xa A.length xc); (have Q := packed_rdb (L := A) (by omega) o1.out (Ha7.out.1 ((.slice xa A.length xc), A) (by simp))); refine Q.mono ?_; clear Q; rintro e wa8 ⟨rfl, k1⟩; (have Ha8 : Hid (All wa8 [(vd, D), (vc, C), ((.slice ya B.length yc), B), ((.slice xa A.length xc), A), (vp, P)] ∧ AllP w.heap.size wa8 [] ∧ Below w.heap.size w wa8) := ⟨Ha7.out.1.keep k1, Ha7.out.2.1.keep k1, bT Ha7.out.2.2 k1⟩); clear k1)
                     | (go_at_call_of 24 (Value.slice ya B.length yc); (have Q := packed_rdb (L := B) (by omega) o2.out (Ha8.out.1 ((.slice ya B.length yc), B) (by simp))); refine Q.mono ?_; clear Q; rintro e wa9 ⟨rfl, k1⟩; (have Ha9 : Hid (All wa9 [(vd, D), (vc, C), ((.slice ya B.length yc), B), ((.slice xa A.length xc), A), (vp, P)] ∧ AllP w.heap.size wa9 [] ∧ Below w.heap.size w wa9) := ⟨Ha8.out.1.keep k1, Ha8.out.2.1.keep k1, bT Ha8.out.2.2 k1⟩); clear k1)
                     | (go_at_call_of 24 vc; (have Q := packed_rdb (L := C) (by omega) o3.out (Ha9.out.1 (vc, C) (by simp))); refine Q.mono ?_; clear Q; rintro e wa10 ⟨rfl, k1⟩; (have Ha10 : Hid (All wa10 [(vd, D), (vc, C), ((.slice ya B.length yc), B), ((.slice xa A.length xc), A), (vp, P)] ∧ AllP w.heap.size wa10 [] ∧ Below w.heap.size w wa10) := ⟨Ha9.out.1.keep k1, Ha9.out.2.1.keep k1, bT Ha9.out.2.2 k1⟩); clear k1)
                     | (go_at_call_of 24 vd; (have Q := packed_rdb (L := D) (by omega) o4.out (Ha10.out.1 (vd, D) (by simp))); refine Q.mono ?_; clear Q; rintro e wa11 ⟨rfl, k1⟩; (have Ha11 : Hid (All wa11 [(vd, D), (vc, C), ((.slice ya B.length yc), B), ((.slice xa A.length xc), A), (vp, P)] ∧ AllP w.heap.size wa11 [] ∧ Below w.heap.size w wa11) := ⟨Ha10.out.1.keep k1, Ha10.out.2.1.keep k1, bT Ha10.out.2.2 k1⟩); clear k1)
                     | (go_at_call_of 13 vp; (have Q := Pack_rdb (L := P) (by omega) (okL_rng o0.out.1) (Ha11.out.1 (vp, P) (by simp))); rw [EA.out] at Q; refine Q.mono ?_; clear Q; rintro e wa12 ⟨vq, rfl, h1, k1, _⟩; (have Ha12 : Hid (All wa12 [(vq, P), (vd, D), (vc, C), ((.slice ya B.length yc), B), ((.slice xa A.length xc), A), (vp, P)] ∧ AllP w.heap.size wa12 [] ∧ Below w.heap.size w wa12) := ⟨All.cons (own_rdb h1) (Ha11.out.1.keep k1), Ha11.out.2.1.keep k1, bT Ha11.out.2.2 k1⟩); clear h1 k1)
                     | (go_at_call 12; (have Q := same_rdb (L := P) (by omega) (Ha12.out.1 (vq, P) (by simp)) (Ha12.out.1 (vp, P) (by simp))); refine Q.mono ?_; clear Q; rintro e wa13 ⟨rfl, k1⟩; (have Ha13 : Hid (All wa13 [(vq, P), (vd, D), (vc, C), ((.slice ya B.length yc), B), ((.slice xa A.length xc), A), (vp, P)] ∧ AllP w.heap.size wa13 [] ∧ Below w.heap.size w wa13) := ⟨Ha12.out.1.keep k1, Ha12.out.2.1.keep k1, bT Ha12.out.2.2 k1⟩); clear k1))
  go_ret
  refine ⟨?_, Ha13.out.2.2⟩
  have := Z1.out
  have := Z2.out
  simp [*]

set_option maxRecDepth 100000 in
set_option maxHeartbeats 8000000 in
theorem bytes_out1 (v : Value) (L : List Sp) (a b : Int) (w : World) (hz : L.length ≤ 1048576) (hg : Hid (Rng L)) (hr : Hid (Rdb w v L)) (hS : Hid (okS L)) (hq0 : ¬ rfs L a a = 0) :
    Calls Try.prog 6 #[v, .int .i64 a, .int .i64 b] w fun e w' => e = .returned (.bool true) ∧ Below w.heap.size w w' := by
  generalize hM : bytW L = M at *
  have EM := Hid.mk' hM
  clear hM
  have l0 := packA_length L
  have l1 := cut1_length L a
  have l2 := cut2_length L a
  have l3 := delL_length L a b
  have l4 := slcL_length L a b
  have o0 := Hid.mk' (pack_ok L)
  have o1 := Hid.mk' (cut1_ok L a)
  have o2 := Hid.mk' (cut2_ok L a)
  have o3 := Hid.mk' (del_ok L a b)
  have o4 := Hid.mk' (slc_ok L a b)
  have hag := packA_again L
  have hd := Hid.mk' (delcut (L := L) a b hz)
  have e1 : cut1 L a = [] := by rw [cut1, if_neg hq0]
  have e2 : cut2 L a = [] := by rw [cut2, if_neg hq0]
  have z1 : (cut1 L a).length = 0 := by rw [e1]; rfl
  have z2 : (cut2 L a).length = 0 := by rw [e2]; rfl
  have Z1 := Hid.mk' z1
  have Z2 := Hid.mk' z2
  clear e1 e2 z1 z2
  generalize h0 : packA L = P at *
  generalize h1 : cut1 L a = A at *
  generalize h2 : cut2 L a = B at *
  generalize h3 : delL L a b = C at *
  generalize h4 : slcL L a b = D at *
  generalize h5 : rfs L a a = R1 at *
  have hrb : rfs L a b = rfs L a b := rfl
  generalize h6 : rfs L a b = R2 at *
  have E0 := Hid.mk' h0
  have E1 := Hid.mk' h1
  have E2 := Hid.mk' h2
  have E3 := Hid.mk' h3
  have E4 := Hid.mk' h4
  have E5 := Hid.mk' h5
  have E6 := Hid.mk' h6
  have EA := Hid.mk' hag
  clear h0 h1 h2 h3 h4 h5 h6 hag hrb
  go_enter Try.func6, Try.ntmps6
  go_wp2_with (first | (go_at_call 9; refine (awake_any w).mono ?_; rintro e wa1 ⟨rfl, k1⟩; (have Ha1 : Hid (All wa1 [] ∧ AllP w.heap.size wa1 [] ∧ Below w.heap.size w wa1) := ⟨All.nil _, AllP.nil _ _, k1⟩); clear k1)
                     | (go_at_call_of 23 v; (have Q := bytes_yes (by omega) hg.out hS.out (hr.out.keep Ha1.out.2.2)); rw [EM.out] at Q; refine Q.mono ?_; clear Q; rintro e wa2 ⟨ua, rfl, h1, g1, k1⟩; (have HN := Hid.mk' g1); (have Ha2 : Hid (All wa2 [] ∧ AllP w.heap.size wa2 [(ua, M)] ∧ Below w.heap.size w wa2) := ⟨Ha1.out.1.keep k1, AllP.cons (own_lower h1 Ha1.out.2.2.size) (Ha1.out.2.1.keep k1), bT Ha1.out.2.2 k1⟩); clear h1 k1 g1)
                     | (go_at_call_of 13 v; (have Q := Pack_rdb (by omega) hg.out (hr.out.keep Ha2.out.2.2)); rw [E0.out] at Q; refine Q.mono ?_; clear Q; rintro e wa3 ⟨vp, rfl, h1, k1, _⟩; (have Ha3 : Hid (All wa3 [(vp, P)] ∧ AllP w.heap.size wa3 [(ua, M)] ∧ Below w.heap.size w wa3) := ⟨All.cons (own_rdb h1) (Ha2.out.1.keep k1), Ha2.out.2.1.keep k1, bT Ha2.out.2.2 k1⟩); clear h1 k1)
                     | (go_at_call 18; (have Q := Cut_rdb a (by omega) hg (hr.out.keep Ha3.out.2.2)); rw [E1.out, E2.out, E5.out] at Q; refine Q.mono ?_; clear Q; rintro e wa4 ⟨vx, vy, rfl, h1, h2, _, k1⟩; (obtain ⟨xa, xc, rfl⟩ := own_shape h1); (obtain ⟨ya, yc, rfl⟩ := own_shape h2); (have Ha4 : Hid (All wa4 [((.slice ya B.length yc), B), ((.slice xa A.length xc), A), (vp, P)] ∧ AllP w.heap.size wa4 [(ua, M)] ∧ Below w.heap.size w wa4) := ⟨All.cons (own_rdb h2) (All.cons (own_rdb h1) (Ha3.out.1.keep k1)), Ha3.out.2.1.keep k1, bT Ha3.out.2.2 k1⟩); clear h1 h2 k1)
                     | (go_at_call 19; (have Q := Delete_rdb a b (by omega) (by rw [E6.out]; exact hd.out) hg (hr.out.keep Ha4.out.2.2)); rw [E3.out, E6.out] at Q; refine Q.mono ?_; clear Q; rintro e wa5 ⟨vc, rfl, h1, k1⟩; (have Ha5 : Hid (All wa5 [(vc, C), ((.slice ya B.length yc), B), ((.slice xa A.length xc), A), (vp, P)] ∧ AllP w.heap.size wa5 [(ua, M)] ∧ Below w.heap.size w wa5) := ⟨All.cons (own_rdb h1) (Ha4.out.1.keep k1), Ha4.out.2.1.keep k1, bT Ha4.out.2.2 k1⟩); clear h1 k1)
                     | (go_at_call 20; (have Q := Slice_rdb a b (by omega) hg (hr.out.keep Ha5.out.2.2)); rw [E4.out, E6.out] at Q; refine Q.mono ?_; clear Q; rintro e wa6 ⟨vd, rfl, h1, k1⟩; (have Ha6 : Hid (All wa6 [(vd, D), (vc, C), ((.slice ya B.length yc), B), ((.slice xa A.length xc), A), (vp, P)] ∧ AllP w.heap.size wa6 [(ua, M)] ∧ Below w.heap.size w wa6) := ⟨All.cons (own_rdb h1) (Ha5.out.1.keep k1), Ha5.out.2.1.keep k1, bT Ha5.out.2.2 k1⟩); clear h1 k1)
                     | (go_at_call_of 24 vp; (have Q := packed_rdb (L := P) (by omega) o0.out (Ha6.out.1 (vp, P) (by simp))); refine Q.mono ?_; clear Q; rintro e wa7 ⟨rfl, k1⟩; (have Ha7 : Hid (All wa7 [(vd, D), (vc, C), ((.slice ya B.length yc), B), ((.slice xa A.length xc), A), (vp, P)] ∧ AllP w.heap.size wa7 [(ua, M)] ∧ Below w.heap.size w wa7) := ⟨Ha6.out.1.keep k1, Ha6.out.2.1.keep k1, bT Ha6.out.2.2 k1⟩); clear k1)
                     | (go_at_call_of 24 (Value.slice xa A.length xc); (have Q := packed_rdb (L := A) (by omega) o1.out (Ha7.out.1 ((.slice xa A.length xc), A) (by simp))); refine Q.mono ?_; clear Q; rintro e wa8 ⟨rfl, k1⟩; (have Ha8 : Hid (All wa8 [(vd, D), (vc, C), ((.slice ya B.length yc), B), ((.slice xa A.length xc), A), (vp, P)] ∧ AllP w.heap.size wa8 [(ua, M)] ∧ Below w.heap.size w wa8) := ⟨Ha7.out.1.keep k1, Ha7.out.2.1.keep k1, bT Ha7.out.2.2 k1⟩); clear k1)
                     | (go_at_call_of 24 (Value.slice ya B.length yc); (have Q := packed_rdb (L := B) (by omega) o2.out (Ha8.out.1 ((.slice ya B.length yc), B) (by simp))); refine Q.mono ?_; clear Q; rintro e wa9 ⟨rfl, k1⟩; (have Ha9 : Hid (All wa9 [(vd, D), (vc, C), ((.slice ya B.length yc), B), ((.slice xa A.length xc), A), (vp, P)] ∧ AllP w.heap.size wa9 [(ua, M)] ∧ Below w.heap.size w wa9) := ⟨Ha8.out.1.keep k1, Ha8.out.2.1.keep k1, bT Ha8.out.2.2 k1⟩); clear k1)
                     | (go_at_call_of 24 vc; (have Q := packed_rdb (L := C) (by omega) o3.out (Ha9.out.1 (vc, C) (by simp))); refine Q.mono ?_; clear Q; rintro e wa10 ⟨rfl, k1⟩; (have Ha10 : Hid (All wa10 [(vd, D), (vc, C), ((.slice ya B.length yc), B), ((.slice xa A.length xc), A), (vp, P)] ∧ AllP w.heap.size wa10 [(ua, M)] ∧ Below w.heap.size w wa10) := ⟨Ha9.out.1.keep k1, Ha9.out.2.1.keep k1, bT Ha9.out.2.2 k1⟩); clear k1)
                     | (go_at_call_of 24 vd; (have Q := packed_rdb (L := D) (by omega) o4.out (Ha10.out.1 (vd, D) (by simp))); refine Q.mono ?_; clear Q; rintro e wa11 ⟨rfl, k1⟩; (have Ha11 : Hid (All wa11 [(vd, D), (vc, C), ((.slice ya B.length yc), B), ((.slice xa A.length xc), A), (vp, P)] ∧ AllP w.heap.size wa11 [(ua, M)] ∧ Below w.heap.size w wa11) := ⟨Ha10.out.1.keep k1, Ha10.out.2.1.keep k1, bT Ha10.out.2.2 k1⟩); clear k1)
                     | (go_at_call_of 13 vp; (have Q := Pack_rdb (L := P) (by omega) (okL_rng o0.out.1) (Ha11.out.1 (vp, P) (by simp))); rw [EA.out] at Q; refine Q.mono ?_; clear Q; rintro e wa12 ⟨vq, rfl, h1, k1, _⟩; (have Ha12 : Hid (All wa12 [(vq, P), (vd, D), (vc, C), ((.slice ya B.length yc), B), ((.slice xa A.length xc), A), (vp, P)] ∧ AllP w.heap.size wa12 [(ua, M)] ∧ Below w.heap.size w wa12) := ⟨All.cons (own_rdb h1) (Ha11.out.1.keep k1), Ha11.out.2.1.keep k1, bT Ha11.out.2.2 k1⟩); clear h1 k1)
                     | (go_at_call 12; (have Q := same_rdb (L := P) (by omega) (Ha12.out.1 (vq, P) (by simp)) (Ha12.out.1 (vp, P) (by simp))); refine Q.mono ?_; clear Q; rintro e wa13 ⟨rfl, k1⟩; (have Ha13 : Hid (All wa13 [(vq, P), (vd, D), (vc, C), ((.slice ya B.length yc), B), ((.slice xa A.length xc), A), (vp, P)] ∧ AllP w.heap.size wa13 [(ua, M)] ∧ Below w.heap.size w wa13) := ⟨Ha12.out.1.keep k1, Ha12.out.2.1.keep k1, bT Ha12.out.2.2 k1⟩); clear k1))
  go_ret
  refine ⟨?_, Ha13.out.2.2⟩
  have := Z1.out
  have := Z2.out
  simp [*]

set_option maxRecDepth 100000 in
set_option maxHeartbeats 8000000 in
theorem bytes_out2 (v : Value) (L : List Sp) (a b : Int) (w : World) (hz : L.length ≤ 1048576) (hg : Hid (Rng L)) (hr : Hid (Rdb w v L)) (hS : Hid (okS L)) (hq0 : rfs L a a = 0) (hq00 : ¬ rfs L a b = 0) :
    Calls Try.prog 6 #[v, .int .i64 a, .int .i64 b] w fun e w' => e = .returned (.bool true) ∧ Below w.heap.size w w' := by
  generalize hM : bytW L = M at *
  have EM := Hid.mk' hM
  clear hM
  have l0 := packA_length L
  have l1 := cut1_length L a
  have l2 := cut2_length L a
  have l3 := delL_length L a b
  have l4 := slcL_length L a b
  have o0 := Hid.mk' (pack_ok L)
  have o1 := Hid.mk' (cut1_ok L a)
  have o2 := Hid.mk' (cut2_ok L a)
  have o3 := Hid.mk' (del_ok L a b)
  have o4 := Hid.mk' (slc_ok L a b)
  have hag := packA_again L
  have hd := Hid.mk' (delcut (L := L) a b hz)
  generalize h0 : packA L = P at *
  generalize h1 : cut1 L a = A at *
  generalize h2 : cut2 L a = B at *
  generalize h3 : delL L a b = C at *
  generalize h4 : slcL L a b = D at *
  generalize h5 : rfs L a a = R1 at *
  have hrb : rfs L a b = rfs L a b := rfl
  generalize h6 : rfs L a b = R2 at *
  have E0 := Hid.mk' h0
  have E1 := Hid.mk' h1
  have E2 := Hid.mk' h2
  have E3 := Hid.mk' h3
  have E4 := Hid.mk' h4
  have E5 := Hid.mk' h5
  have E6 := Hid.mk' h6
  have EA := Hid.mk' hag
  clear h0 h1 h2 h3 h4 h5 h6 hag hrb
  go_enter Try.func6, Try.ntmps6
  go_wp2_with (first | (go_at_call 9; refine (awake_any w).mono ?_; rintro e wa1 ⟨rfl, k1⟩; (have Ha1 : Hid (All wa1 [] ∧ AllP w.heap.size wa1 [] ∧ Below w.heap.size w wa1) := ⟨All.nil _, AllP.nil _ _, k1⟩); clear k1)
                     | (go_at_call_of 23 v; (have Q := bytes_yes (by omega) hg.out hS.out (hr.out.keep Ha1.out.2.2)); rw [EM.out] at Q; refine Q.mono ?_; clear Q; rintro e wa2 ⟨ua, rfl, h1, g1, k1⟩; (have HN := Hid.mk' g1); (have Ha2 : Hid (All wa2 [] ∧ AllP w.heap.size wa2 [(ua, M)] ∧ Below w.heap.size w wa2) := ⟨Ha1.out.1.keep k1, AllP.cons (own_lower h1 Ha1.out.2.2.size) (Ha1.out.2.1.keep k1), bT Ha1.out.2.2 k1⟩); clear h1 k1 g1)
                     | (go_at_call_of 13 v; (have Q := Pack_rdb (by omega) hg.out (hr.out.keep Ha2.out.2.2)); rw [E0.out] at Q; refine Q.mono ?_; clear Q; rintro e wa3 ⟨vp, rfl, h1, k1, _⟩; (have Ha3 : Hid (All wa3 [(vp, P)] ∧ AllP w.heap.size wa3 [(ua, M)] ∧ Below w.heap.size w wa3) := ⟨All.cons (own_rdb h1) (Ha2.out.1.keep k1), Ha2.out.2.1.keep k1, bT Ha2.out.2.2 k1⟩); clear h1 k1)
                     | (go_at_call 18; (have Q := Cut_rdb a (by omega) hg (hr.out.keep Ha3.out.2.2)); rw [E1.out, E2.out, E5.out] at Q; refine Q.mono ?_; clear Q; rintro e wa4 ⟨vx, vy, rfl, h1, h2, _, k1⟩; (obtain ⟨xa, xc, rfl⟩ := own_shape h1); (obtain ⟨ya, yc, rfl⟩ := own_shape h2); (have Ha4 : Hid (All wa4 [((.slice ya B.length yc), B), ((.slice xa A.length xc), A), (vp, P)] ∧ AllP w.heap.size wa4 [(ua, M)] ∧ Below w.heap.size w wa4) := ⟨All.cons (own_rdb h2) (All.cons (own_rdb h1) (Ha3.out.1.keep k1)), Ha3.out.2.1.keep k1, bT Ha3.out.2.2 k1⟩); clear h1 h2 k1)
                     | (go_at_call 19; (have Q := Delete_rdb a b (by omega) (by rw [E6.out]; exact hd.out) hg (hr.out.keep Ha4.out.2.2)); rw [E3.out, E6.out] at Q; refine Q.mono ?_; clear Q; rintro e wa5 ⟨vc, rfl, h1, k1⟩; (have Ha5 : Hid (All wa5 [(vc, C), ((.slice ya B.length yc), B), ((.slice xa A.length xc), A), (vp, P)] ∧ AllP w.heap.size wa5 [(ua, M)] ∧ Below w.heap.size w wa5) := ⟨All.cons (own_rdb h1) (Ha4.out.1.keep k1), Ha4.out.2.1.keep k1, bT Ha4.out.2.2 k1⟩); clear h1 k1)
                     | (go_at_call 20; (have Q := Slice_rdb a b (by omega) hg (hr.out.keep Ha5.out.2.2)); rw [E4.out, E6.out] at Q; refine Q.mono ?_; clear Q; rintro e wa6 ⟨vd, rfl, h1, k1⟩; (have Ha6 : Hid (All wa6 [(vd, D), (vc, C), ((.slice ya B.length yc), B), ((.slice xa A.length xc), A), (vp, P)] ∧ AllP w.heap.size wa6 [(ua, M)] ∧ Below w.heap.size w wa6) := ⟨All.cons (own_rdb h1) (Ha5.out.1.keep k1), Ha5.out.2.1.keep k1, bT Ha5.out.2.2 k1⟩); clear h1 k1)
                     | (go_at_call_of 24 vp; (have Q := packed_rdb (L := P) (by omega) o0.out (Ha6.out.1 (vp, P) (by simp))); refine Q.mono ?_; clear Q; rintro e wa7 ⟨rfl, k1⟩; (have Ha7 : Hid (All wa7 [(vd, D), (vc, C), ((.slice ya B.length yc), B), ((.slice xa A.length xc), A), (vp, P)] ∧ AllP w.heap.size wa7 [(ua, M)] ∧ Below w.heap.size w wa7) := ⟨Ha6.out.1.keep k1, Ha6.out.2.1.keep k1, bT Ha6.out.2.2 k1⟩); clear k1)
                     | (go_at_call_of 24 (Value.slice xa A.length xc); (have Q := packed_rdb (L := A) (by omega) o1.out (Ha7.out.1 ((.slice xa A.length xc), A) (by simp))); refine Q.mono ?_; clear Q; rintro e wa8 ⟨rfl, k1⟩; (have Ha8 : Hid (All wa8 [(vd, D), (vc, C), ((.slice ya B.length yc), B), ((.slice xa A.length xc), A), (vp, P)] ∧ AllP w.heap.size wa8 [(ua, M)] ∧ Below w.heap.size w wa8) := ⟨Ha7.out.1.keep k1, Ha7.out.2.1.keep k1, bT Ha7.out.2.2 k1⟩); clear k1)
                     | (go_at_call_of 24 (Value.slice ya B.length yc); (have Q := packed_rdb (L := B) (by omega) o2.out (Ha8.out.1 ((.slice ya B.length yc), B) (by simp))); refine Q.mono ?_; clear Q; rintro e wa9 ⟨rfl, k1⟩; (have Ha9 : Hid (All wa9 [(vd, D), (vc, C), ((.slice ya B.length yc), B), ((.slice xa A.length xc), A), (vp, P)] ∧ AllP w.heap.size wa9 [(ua, M)] ∧ Below w.heap.size w wa9) := ⟨Ha8.out.1.keep k1, Ha8.out.2.1.keep k1, bT Ha8.out.2.2 k1⟩); clear k1)
                     | (go_at_call_of 24 vc; (have Q := packed_rdb (L := C) (by omega) o3.out (Ha9.out.1 (vc, C) (by simp))); refine Q.mono ?_; clear Q; rintro e wa10 ⟨rfl, k1⟩; (have Ha10 : Hid (All wa10 [(vd, D), (vc, C), ((.slice ya B.length yc), B), ((.slice xa A.length xc), A), (vp, P)] ∧ AllP w.heap.size wa10 [(ua, M)] ∧ Below w.heap.size w wa10) := ⟨Ha9.out.1.keep k1, Ha9.out.2.1.keep k1, bT Ha9.out.2.2 k1⟩); clear k1)
                     | (go_at_call_of 24 vd; (have Q := packed_rdb (L := D) (by omega) o4.out (Ha10.out.1 (vd, D) (by simp))); refine Q.mono ?_; clear Q; rintro e wa11 ⟨rfl, k1⟩; (have Ha11 : Hid (All wa11 [(vd, D), (vc, C), ((.slice ya B.length yc), B), ((.slice xa A.length xc), A), (vp, P)] ∧ AllP w.heap.size wa11 [(ua, M)] ∧ Below w.heap.size w wa11) := ⟨Ha10.out.1.keep k1, Ha10.out.2.1.keep k1, bT Ha10.out.2.2 k1⟩); clear k1)
                     | (go_at_call_of 13 vp; (have Q := Pack_rdb (L := P) (by omega) (okL_rng o0.out.1) (Ha11.out.1 (vp, P) (by simp))); rw [EA.out] at Q; refine Q.mono ?_; clear Q; rintro e wa12 ⟨vq, rfl, h1, k1, _⟩; (have Ha12 : Hid (All wa12 [(vq, P), (vd, D), (vc, C), ((.slice ya B.length yc), B), ((.slice xa A.length xc), A), (vp, P)] ∧ AllP w.heap.size wa12 [(ua, M)] ∧ Below w.heap.size w wa12) := ⟨All.cons (own_rdb h1) (Ha11.out.1.keep k1), Ha11.out.2.1.keep k1, bT Ha11.out.2.2 k1⟩); clear h1 k1)
                     | (go_at_call 12; (have Q := same_rdb (L := P) (by omega) (Ha12.out.1 (vq, P) (by simp)) (Ha12.out.1 (vp, P) (by simp))); refine Q.mono ?_; clear Q; rintro e wa13 ⟨rfl, k1⟩; (have Ha13 : Hid (All wa13 [(vq, P), (vd, D), (vc, C), ((.slice ya B.length yc), B), ((.slice xa A.length xc), A), (vp, P)] ∧ AllP w.heap.size wa13 [(ua, M)] ∧ Below w.heap.size w wa13) := ⟨Ha12.out.1.keep k1, Ha12.out.2.1.keep k1, bT Ha12.out.2.2 k1⟩); clear k1))
  go_ret
  exact ⟨rfl, Ha13.out.2.2⟩

end Go.Proofs.Ytjjgloioppjcaaa
