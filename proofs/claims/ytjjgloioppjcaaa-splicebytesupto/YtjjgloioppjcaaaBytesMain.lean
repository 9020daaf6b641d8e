/- The walk of quoinlaw03.SpliceBytes, where it comes to the bytes. -/
import Derived.Test.YtjjgloioppjcaaaBytesKit
namespace Go.Proofs.Ytjjgloioppjcaaa
open Go.RowKit

set_option maxRecDepth 100000 in
set_option maxHeartbeats 8000000 in
theorem bytes_main (v : Value) (L : List Sp) (a b : Int) (w : World) (hz : L.length ≤ 1048576) (hg : Hid (Rng L)) (hr : Hid (Rdb w v L)) (hS : Hid (okS L)) (hq0 : rfs L a a = 0) (hq00 : rfs L a b = 0) (hne : bytW L ≠ []) :
    Calls Try.prog 6 #[v, .int .i64 a, .int .i64 b] w fun e w' => e = .returned (.bool true) ∧ Below w.heap.size w w' := by
  obtain ⟨n, m, rfl, rfl, F⟩ := facts hz hS.out hq0 hq00
  rcases hM0 : bytW L with _ | ⟨q0, M0⟩
  · exact absurd hM0 hne
  generalize hM : bytW L = M at *
  have hMl : 0 < M.length := by rw [hM0]; simp
  have EM := Hid.mk' hM
  clear hM hM0 hne
  have bP := F.bP
  have bA := F.bA
  have bB := F.bB
  have bC := F.bC
  have bD := F.bD
  have hl5 := F.len
  have hnm := F.nm
  have hml := F.ml
  clear F
  have i1 : (0 : Int) ≤ (n : Int) := by omega
  have i2 : (n : Int) ≤ (m : Int) := by omega
  have i3 : (m : Int) ≤ (M.length : Int) := by omega
  have i4 : (0 : Int) ≤ (m : Int) := by omega
  have i5 : (n : Int) ≤ (M.length : Int) := by omega
  have LA := Hid.mk' (show (M.take n).length = n by rw [List.length_take]; omega)
  have EC := Hid.mk' (List.take_append_drop n M)
  have l0 := packA_length L
  have l1 := cut1_length L n
  have l2 := cut2_length L n
  have l3 := delL_length L n m
  have l4 := slcL_length L n m
  have o0 := Hid.mk' (pack_ok L)
  have o1 := Hid.mk' (cut1_ok L n)
  have o2 := Hid.mk' (cut2_ok L n)
  have o3 := Hid.mk' (del_ok L n m)
  have o4 := Hid.mk' (slc_ok L n m)
  have hag := packA_again L
  have hd := Hid.mk' (delcut (L := L) n m hz)
  generalize h0 : packA L = P at *
  generalize h1 : cut1 L n = A at *
  generalize h2 : cut2 L n = B at *
  generalize h3 : delL L n m = C at *
  generalize h4 : slcL L n m = D at *
  generalize h5 : rfs L (n : Int) n = R1 at *
  have hrb : rfs L (n : Int) m = rfs L (n : Int) m := rfl
  generalize h6 : rfs L (n : Int) m = R2 at *
  have BP := Hid.mk' bP
  have BA := Hid.mk' bA
  have BB := Hid.mk' bB
  have BC := Hid.mk' bC
  have BD := Hid.mk' bD
  clear bP bA bB bC bD
  have E0 := Hid.mk' h0
  have E1 := Hid.mk' h1
  have E2 := Hid.mk' h2
  have E3 := Hid.mk' h3
  have E4 := Hid.mk' h4
  have E5 := Hid.mk' h5
  have E6 := Hid.mk' h6
  have EA := Hid.mk' hag
  clear h0 h1 h2 h3 h4 h5 h6 hag hrb
  go_enter Try.func6, Try.ntmps6
  go_wp2_with (first | (go_at_call 9; refine (awake_any w).mono ?_; rintro e wa1 ⟨rfl, k1⟩; (have Ha1 : Hid (All wa1 [] ∧ AllP w.heap.size wa1 [] ∧ Below w.heap.size w wa1) := ⟨All.nil _, AllP.nil _ _, k1⟩); clear k1)
                     | (go_at_call_of 23 v; (have Q := bytes_yes (by omega) hg.out hS.out (hr.out.keep Ha1.out.2.2)); rw [EM.out] at Q; refine Q.mono ?_; clear Q; rintro e wa2 ⟨ua, rfl, h1, g1, k1⟩; (obtain ⟨g, cap, rfl, hc1, hc2⟩ := own_some h1 hMl); (have i6 : (M.length : Int) ≤ (cap : Int) := by omega); (have i7 : (n : Int) ≤ (cap : Int) := by omega); (have i8 : (m : Int) ≤ (cap : Int) := by omega); (have Ha2 : Hid (All wa2 [] ∧ AllP w.heap.size wa2 [((Value.slice (some ⟨g, 0, none⟩) M.length cap), M)] ∧ Below w.heap.size w wa2) := ⟨Ha1.out.1.keep k1, AllP.cons (own_lower h1 Ha1.out.2.2.size) (Ha1.out.2.1.keep k1), bT Ha1.out.2.2 k1⟩); clear h1 k1 g1 hc1)
                     | (go_at_call_of 13 v; (have Q := Pack_rdb (by omega) hg.out (hr.out.keep Ha2.out.2.2)); rw [E0.out] at Q; refine Q.mono ?_; clear Q; rintro e wa3 ⟨vp, rfl, h1, k1, -⟩; (have Ha3 : Hid (All wa3 [(vp, P)] ∧ AllP w.heap.size wa3 [((Value.slice (some ⟨g, 0, none⟩) M.length cap), M)] ∧ Below w.heap.size w wa3) := ⟨All.cons (own_rdb h1) (Ha2.out.1.keep k1), Ha2.out.2.1.keep k1, bT Ha2.out.2.2 k1⟩); clear h1 k1)
                     | (go_at_call 18; (have Q := Cut_rdb n (by omega) hg (hr.out.keep Ha3.out.2.2)); rw [E1.out, E2.out, E5.out] at Q; refine Q.mono ?_; clear Q; rintro e wa4 ⟨vx, vy, rfl, h1, h2, -, k1⟩; (obtain ⟨xa, xc, rfl⟩ := own_shape h1); (obtain ⟨ya, yc, rfl⟩ := own_shape h2); (have Ha4 : Hid (All wa4 [((.slice ya B.length yc), B), ((.slice xa A.length xc), A), (vp, P)] ∧ AllP w.heap.size wa4 [((Value.slice (some ⟨g, 0, none⟩) M.length cap), M)] ∧ Below w.heap.size w wa4) := ⟨All.cons (own_rdb h2) (All.cons (own_rdb h1) (Ha3.out.1.keep k1)), Ha3.out.2.1.keep k1, bT Ha3.out.2.2 k1⟩); clear h1 h2 k1)
                     | (go_at_call 19; (have Q := Delete_rdb n m (by omega) (by rw [E6.out]; exact hd.out) hg (hr.out.keep Ha4.out.2.2)); rw [E3.out, E6.out] at Q; refine Q.mono ?_; clear Q; rintro e wa5 ⟨vc, rfl, h1, k1⟩; (have Ha5 : Hid (All wa5 [(vc, C), ((.slice ya B.length yc), B), ((.slice xa A.length xc), A), (vp, P)] ∧ AllP w.heap.size wa5 [((Value.slice (some ⟨g, 0, none⟩) M.length cap), M)] ∧ Below w.heap.size w wa5) := ⟨All.cons (own_rdb h1) (Ha4.out.1.keep k1), Ha4.out.2.1.keep k1, bT Ha4.out.2.2 k1⟩); clear h1 k1)
                     | (go_at_call 20; (have Q := Slice_rdb n m (by omega) hg (hr.out.keep Ha5.out.2.2)); rw [E4.out, E6.out] at Q; refine Q.mono ?_; clear Q; rintro e wa6 ⟨vd, rfl, h1, k1⟩; (have Ha6 : Hid (All wa6 [(vd, D), (vc, C), ((.slice ya B.length yc), B), ((.slice xa A.length xc), A), (vp, P)] ∧ AllP w.heap.size wa6 [((Value.slice (some ⟨g, 0, none⟩) M.length cap), M)] ∧ Below w.heap.size w wa6) := ⟨All.cons (own_rdb h1) (Ha5.out.1.keep k1), Ha5.out.2.1.keep k1, bT Ha5.out.2.2 k1⟩); clear h1 k1)
                     | (go_at_call_of 24 vp; (have Q := packed_rdb (L := P) (by omega) o0.out (Ha6.out.1 (vp, P) (by simp))); refine Q.mono ?_; clear Q; rintro e wa7 ⟨rfl, k1⟩; (have Ha7 : Hid (All wa7 [(vd, D), (vc, C), ((.slice ya B.length yc), B), ((.slice xa A.length xc), A), (vp, P)] ∧ AllP w.heap.size wa7 [((Value.slice (some ⟨g, 0, none⟩) M.length cap), M)] ∧ Below w.heap.size w wa7) := ⟨Ha6.out.1.keep k1, Ha6.out.2.1.keep k1, bT Ha6.out.2.2 k1⟩); clear k1)
                     | (go_at_call_of 24 (Value.slice xa A.length xc); (have Q := packed_rdb (L := A) (by omega) o1.out (Ha7.out.1 ((.slice xa A.length xc), A) (by simp))); refine Q.mono ?_; clear Q; rintro e wa8 ⟨rfl, k1⟩; (have Ha8 : Hid (All wa8 [(vd, D), (vc, C), ((.slice ya B.length yc), B), ((.slice xa A.length xc), A), (vp, P)] ∧ AllP w.heap.size wa8 [((Value.slice (some ⟨g, 0, none⟩) M.length cap), M)] ∧ Below w.heap.size w wa8) := ⟨Ha7.out.1.keep k1, Ha7.out.2.1.keep k1, bT Ha7.out.2.2 k1⟩); clear k1)
                     | (go_at_call_of 24 (Value.slice ya B.length yc); (have Q := packed_rdb (L := B) (by omega) o2.out (Ha8.out.1 ((.slice ya B.length yc), B) (by simp))); refine Q.mono ?_; clear Q; rintro e wa9 ⟨rfl, k1⟩; (have Ha9 : Hid (All wa9 [(vd, D), (vc, C), ((.slice ya B.length yc), B), ((.slice xa A.length xc), A), (vp, P)] ∧ AllP w.heap.size wa9 [((Value.slice (some ⟨g, 0, none⟩) M.length cap), M)] ∧ Below w.heap.size w wa9) := ⟨Ha8.out.1.keep k1, Ha8.out.2.1.keep k1, bT Ha8.out.2.2 k1⟩); clear k1)
                     | (go_at_call_of 24 vc; (have Q := packed_rdb (L := C) (by omega) o3.out (Ha9.out.1 (vc, C) (by simp))); refine Q.mono ?_; clear Q; rintro e wa10 ⟨rfl, k1⟩; (have Ha10 : Hid (All wa10 [(vd, D), (vc, C), ((.slice ya B.length yc), B), ((.slice xa A.length xc), A), (vp, P)] ∧ AllP w.heap.size wa10 [((Value.slice (some ⟨g, 0, none⟩) M.length cap), M)] ∧ Below w.heap.size w wa10) := ⟨Ha9.out.1.keep k1, Ha9.out.2.1.keep k1, bT Ha9.out.2.2 k1⟩); clear k1)
                     | (go_at_call_of 24 vd; (have Q := packed_rdb (L := D) (by omega) o4.out (Ha10.out.1 (vd, D) (by simp))); refine Q.mono ?_; clear Q; rintro e wa11 ⟨rfl, k1⟩; (have Ha11 : Hid (All wa11 [(vd, D), (vc, C), ((.slice ya B.length yc), B), ((.slice xa A.length xc), A), (vp, P)] ∧ AllP w.heap.size wa11 [((Value.slice (some ⟨g, 0, none⟩) M.length cap), M)] ∧ Below w.heap.size w wa11) := ⟨Ha10.out.1.keep k1, Ha10.out.2.1.keep k1, bT Ha10.out.2.2 k1⟩); clear k1)
                     | (go_at_call_of 13 vp; (have Q := Pack_rdb (L := P) (by omega) (okL_rng o0.out.1) (Ha11.out.1 (vp, P) (by simp))); rw [EA.out] at Q; refine Q.mono ?_; clear Q; rintro e wa12 ⟨vq, rfl, h1, k1, -⟩; (have Ha12 : Hid (All wa12 [(vq, P), (vd, D), (vc, C), ((.slice ya B.length yc), B), ((.slice xa A.length xc), A), (vp, P)] ∧ AllP w.heap.size wa12 [((Value.slice (some ⟨g, 0, none⟩) M.length cap), M)] ∧ Below w.heap.size w wa12) := ⟨All.cons (own_rdb h1) (Ha11.out.1.keep k1), Ha11.out.2.1.keep k1, bT Ha11.out.2.2 k1⟩); clear h1 k1)
                     | (go_at_call 12; (have Q := same_rdb (L := P) (by omega) (Ha12.out.1 (vq, P) (by simp)) (Ha12.out.1 (vp, P) (by simp))); refine Q.mono ?_; clear Q; rintro e wa13 ⟨rfl, k1⟩; (have Ha13 : Hid (All wa13 [(vq, P), (vd, D), (vc, C), ((.slice ya B.length yc), B), ((.slice xa A.length xc), A), (vp, P)] ∧ AllP w.heap.size wa13 [((Value.slice (some ⟨g, 0, none⟩) M.length cap), M)] ∧ Below w.heap.size w wa13) := ⟨Ha12.out.1.keep k1, Ha12.out.2.1.keep k1, bT Ha12.out.2.2 k1⟩); clear k1)
                     | (go_at_call_of 23 vp; (have Q := bytes_ok (L := P) (M := M) (by omega) o0.out.1 BP.out hl5 (Ha13.out.1 (vp, P) (by simp))); refine Q.mono ?_; clear Q; rintro e wb1 ⟨up, rfl, h1, -, k1⟩; (have Hb1 : Hid (All wb1 [(vq, P), (vd, D), (vc, C), ((.slice ya B.length yc), B), ((.slice xa A.length xc), A), (vp, P)] ∧ Rdp wb1 up M ∧ wb1.ownsRow w.heap.size 55 2 (Value.slice (some ⟨g, 0, none⟩) M.length cap) M.length (pcells M) ∧ Below w.heap.size w wb1) := ⟨Ha13.out.1.keep k1, own_rdp h1, own_keep (Ha13.out.2.1 ((Value.slice (some ⟨g, 0, none⟩) M.length cap), M) (by simp)) k1, bT Ha13.out.2.2 k1⟩); clear h1 k1)
                     | (go_at_call_of 23 (Value.slice xa A.length xc); (have Q := bytes_ok (L := A) (M := M.take n) (by omega) o1.out.1 BA.out (by rw [LA.out]; omega) (Hb1.out.1 ((.slice xa A.length xc), A) (by simp))); refine Q.mono ?_; clear Q; rintro e wb2 ⟨uf, rfl, h1, -, k1⟩; (rw [LA.out] at h1); (obtain ⟨fa, fc, rfl⟩ := own_shape h1); (have AF := Hid.mk' (apt_old Hb1.out.2.2.1 h1)); (have Hb2 : Hid (All wb2 [(vq, P), (vd, D), (vc, C), ((.slice ya B.length yc), B), ((.slice xa A.length xc), A), (vp, P)] ∧ Rdp wb2 up M ∧ wb2.ownsRow w.heap.size 55 2 (Value.slice (some ⟨g, 0, none⟩) M.length cap) M.length (pcells M) ∧ wb2.ownsRow w.heap.size 55 2 (Value.slice fa n fc) n (pcells (M.take n)) ∧ Below w.heap.size w wb2) := ⟨Hb1.out.1.keep k1, Hb1.out.2.1.keep k1, own_keep Hb1.out.2.2.1 k1, own_lower h1 Hb1.out.2.2.2.size, bT Hb1.out.2.2.2 k1⟩); clear h1 k1)
                     | (go_at_call_of 23 (Value.slice ya B.length yc); (have Q := bytes_ok (L := B) (M := M.drop n) (by omega) o2.out.1 BB.out (by rw [List.length_drop]; omega) (Hb2.out.1 ((.slice ya B.length yc), B) (by simp))); refine Q.mono ?_; clear Q; rintro e wb3 ⟨us, rfl, h1, -, k1⟩; (have Hb3 : Hid (All wb3 [(vq, P), (vd, D), (vc, C), ((.slice ya B.length yc), B), ((.slice xa A.length xc), A), (vp, P)] ∧ Rdp wb3 up M ∧ wb3.ownsRow w.heap.size 55 2 (Value.slice (some ⟨g, 0, none⟩) M.length cap) M.length (pcells M) ∧ wb3.ownsRow w.heap.size 55 2 (Value.slice fa n fc) n (pcells (M.take n)) ∧ wb3.ownsRow w.heap.size 55 2 us (M.drop n).length (pcells (M.drop n)) ∧ Below w.heap.size w wb3) := ⟨Hb2.out.1.keep k1, Hb2.out.2.1.keep k1, own_keep Hb2.out.2.2.1 k1, own_keep Hb2.out.2.2.2.1 k1, own_lower h1 Hb2.out.2.2.2.2.size, bT Hb2.out.2.2.2.2 k1⟩); clear h1 k1)
                     | (go_at_call_of 23 vc; (have Q := bytes_ok (L := C) (M := M.take n ++ M.drop m) (by omega) o3.out.1 BC.out (by rw [List.length_append, List.length_take, List.length_drop]; omega) (Hb3.out.1 (vc, C) (by simp))); refine Q.mono ?_; clear Q; rintro e wb4 ⟨ur, rfl, h1, -, k1⟩; (have AR := Hid.mk' (apt_new Hb3.out.2.2.2.1 h1)); (have Hb4 : Hid (All wb4 [(vq, P), (vd, D), (vc, C), ((.slice ya B.length yc), B), ((.slice xa A.length xc), A), (vp, P)] ∧ Rdp wb4 up M ∧ wb4.ownsRow w.heap.size 55 2 (Value.slice (some ⟨g, 0, none⟩) M.length cap) M.length (pcells M) ∧ wb4.ownsRow w.heap.size 55 2 (Value.slice fa n fc) n (pcells (M.take n)) ∧ wb4.ownsRow w.heap.size 55 2 us (M.drop n).length (pcells (M.drop n)) ∧ wb4.ownsRow w.heap.size 55 2 ur (M.take n ++ M.drop m).length (pcells (M.take n ++ M.drop m)) ∧ Below w.heap.size w wb4) := ⟨Hb3.out.1.keep k1, Hb3.out.2.1.keep k1, own_keep Hb3.out.2.2.1 k1, own_keep Hb3.out.2.2.2.1 k1, own_keep Hb3.out.2.2.2.2.1 k1, own_lower h1 Hb3.out.2.2.2.2.2.size, bT Hb3.out.2.2.2.2.2 k1⟩); clear h1 k1)
                     | (go_at_call_of 23 vd; (have Q := bytes_ok (L := D) (M := (M.take m).drop n) (by omega) o4.out.1 BD.out (by rw [List.length_drop, List.length_take]; omega) (Hb4.out.1 (vd, D) (by simp))); refine Q.mono ?_; clear Q; rintro e wb5 ⟨um, rfl, h1, -, k1⟩; (have AM := Hid.mk' (apt_new Hb4.out.2.2.2.1 h1)); (have Hb5 : Hid (Rdp wb5 up M ∧ wb5.ownsRow w.heap.size 55 2 (Value.slice (some ⟨g, 0, none⟩) M.length cap) M.length (pcells M) ∧ wb5.ownsRow w.heap.size 55 2 (Value.slice fa n fc) n (pcells (M.take n)) ∧ wb5.ownsRow w.heap.size 55 2 us (M.drop n).length (pcells (M.drop n)) ∧ wb5.ownsRow w.heap.size 55 2 ur (M.take n ++ M.drop m).length (pcells (M.take n ++ M.drop m)) ∧ wb5.ownsRow w.heap.size 55 2 um ((M.take m).drop n).length (pcells ((M.take m).drop n)) ∧ Below w.heap.size w wb5) := ⟨Hb4.out.2.1.keep k1, own_keep Hb4.out.2.2.1 k1, own_keep Hb4.out.2.2.2.1 k1, own_keep Hb4.out.2.2.2.2.1 k1, own_keep Hb4.out.2.2.2.2.2.1 k1, own_lower h1 Hb4.out.2.2.2.2.2.2.size, bT Hb4.out.2.2.2.2.2.2 k1⟩); clear h1 k1)
                     | (go_at_call_of 25 up; (have Q := sameP_rdp (M := M) (by omega) Hb5.out.1 (own_rdp Hb5.out.2.1)); refine Q.mono ?_; clear Q; rintro e wb6 ⟨rfl, k1⟩; (have Hb6 : Hid (wb6.ownsRow w.heap.size 55 2 (Value.slice (some ⟨g, 0, none⟩) M.length cap) M.length (pcells M) ∧ wb6.ownsRow w.heap.size 55 2 (Value.slice fa n fc) n (pcells (M.take n)) ∧ wb6.ownsRow w.heap.size 55 2 us (M.drop n).length (pcells (M.drop n)) ∧ wb6.ownsRow w.heap.size 55 2 ur (M.take n ++ M.drop m).length (pcells (M.take n ++ M.drop m)) ∧ wb6.ownsRow w.heap.size 55 2 um ((M.take m).drop n).length (pcells ((M.take m).drop n)) ∧ Below w.heap.size w wb6) := ⟨own_keep Hb5.out.2.1 k1, own_keep Hb5.out.2.2.1 k1, own_keep Hb5.out.2.2.2.1 k1, own_keep Hb5.out.2.2.2.2.1 k1, own_keep Hb5.out.2.2.2.2.2.1 k1, bT Hb5.out.2.2.2.2.2.2 k1⟩); clear k1))
  clear Ha1 Ha2 Ha3 Ha4 Ha5 Ha6 Ha7 Ha8 Ha9 Ha10 Ha11 Ha12 Ha13 Hb1 Hb2 Hb3 Hb4 Hb5 E0 E1 E2 E3 E4 E5 E6 EA EM BP BA BB BC BD o0 o1 o2 o3 o4 hg hr hS hd l0 l1 l2 l3 l4
  have OA := Hid.mk' Hb6.out.1
  have OF : Hid (wb6.ownsRow w.heap.size 55 2 (Value.slice fa n fc) (M.take n).length (pcells (M.take n))) := by unfold Hid; rw [LA.out]; exact Hb6.out.2.1
  have OS := Hid.mk' Hb6.out.2.2.1
  have OR := Hid.mk' Hb6.out.2.2.2.1
  have OM := Hid.mk' Hb6.out.2.2.2.2.1
  have HB := Hid.mk' Hb6.out.2.2.2.2.2
  clear Hb6
  obtain ⟨A1, hA1⟩ := if_some (cap = n) ⟨g, 0, none⟩ ⟨g, n * 2, none⟩
  obtain ⟨A2, hA2⟩ := if_some (cap = m) ⟨g, 0, none⟩ ⟨g, m * 2, none⟩
  have hlS : Hid ((M.take n).length + (M.drop n).length ≤ 100000) := by unfold Hid; rw [List.length_take, List.length_drop]; omega
  go_region_held3 (fun _ => True) (trivial)
    (first | ((refine step_append_pairs (by rfl) (.tmp 157) (.tmp 158) (by rfl) w.heap.size (.slice fa n fc) (M.take n) (by rfl) (own_drew OF.out) us (M.drop n) (by rfl) (own_src (own_drew OS.out)) hlS.out HB.out.size ?_); (intro v1 w1 hown1 hgrow1); (rw [EC.out] at hown1); (have J1 : Hid (w1.ownsRow w.heap.size 55 2 v1 M.length (pcells M) ∧ w1.ownsRow w.heap.size 55 2 (Value.slice (some ⟨g, 0, none⟩) M.length cap) M.length (pcells M) ∧ w1.ownsRow w.heap.size 55 2 ur (M.take n ++ M.drop m).length (pcells (M.take n ++ M.drop m)) ∧ w1.ownsRow w.heap.size 55 2 um ((M.take m).drop n).length (pcells ((M.take m).drop n)) ∧ Below w.heap.size w w1) := ⟨hown1, (own_drew OA.out).kept hgrow1 AF.out, (own_drew OR.out).kept hgrow1 AR.out, (own_drew OM.out).kept hgrow1 AM.out, HB.out.drew.grown hgrow1 HB.out.size (fun k hk => (OF.out.lt k hk).1)⟩); clear hown1 hgrow1)
           | (go_at_call_of 25 v1; (have Q := sameP_rdp (M := M) (by omega) (own_rdp J1.out.1) (own_rdp J1.out.2.1)); refine Q.mono ?_; clear Q; rintro e w2 ⟨rfl, k1⟩; (have J2 : Hid (w2.ownsRow w.heap.size 55 2 (Value.slice (some ⟨g, 0, none⟩) M.length cap) M.length (pcells M) ∧ w2.ownsRow w.heap.size 55 2 ur (M.take n ++ M.drop m).length (pcells (M.take n ++ M.drop m)) ∧ w2.ownsRow w.heap.size 55 2 um ((M.take m).drop n).length (pcells ((M.take m).drop n)) ∧ Below w.heap.size w w2) := ⟨own_keep J1.out.2.1 k1, own_keep J1.out.2.2.1 k1, own_keep J1.out.2.2.2.1 k1, bT J1.out.2.2.2.2 k1⟩); clear k1)
           | (go_at_call_of 25 um; (have Q := sameP_rdp (M := (M.take m).drop n) (by rw [List.length_drop, List.length_take]; omega) (own_rdp J2.out.2.2.1) (slice_rdpA hA1 J2.out.1 hnm hml (by omega))); refine Q.mono ?_; clear Q; rintro e w3 ⟨rfl, k1⟩; (have J3 : Hid (w3.ownsRow w.heap.size 55 2 (Value.slice (some ⟨g, 0, none⟩) M.length cap) M.length (pcells M) ∧ w3.ownsRow w.heap.size 55 2 ur (M.take n ++ M.drop m).length (pcells (M.take n ++ M.drop m)) ∧ Below w.heap.size w w3) := ⟨own_keep J2.out.1 k1, own_keep J2.out.2.1 k1, bT J2.out.2.2.2 k1⟩); clear k1)
           | ((refine step_append_pairs (by rfl) (.tmp 172) (.tmp 175) (by rfl) w3.heap.size (.slice (some ⟨w3.heap.size, 0, none⟩) 0 0) [] (by rfl) (World.ownsRow_made w3 #[] 0 (Nat.le_refl _) (by decide) rfl) (.slice (some ⟨g, 0, none⟩) n cap) (M.take n) (by rfl) (head_src (J3.out.1.alloc _) (by omega)) (by simp; omega) (by simp) ?_); (intro v4 w4 hown4 hgrow4); (rw [List.nil_append] at hown4); (have J4 : Hid (w4.ownsRow w.heap.size 55 2 v4 (M.take n).length (pcells (M.take n)) ∧ w4.ownsRow w.heap.size 55 2 (Value.slice (some ⟨g, 0, none⟩) M.length cap) M.length (pcells M) ∧ w4.ownsRow w.heap.size 55 2 ur (M.take n ++ M.drop m).length (pcells (M.take n ++ M.drop m)) ∧ Below w.heap.size w w4) := ⟨own_lower hown4 J3.out.2.2.size, (J3.out.1.alloc _).kept hgrow4 (apt_fresh J3.out.1 _ _ _), (J3.out.2.1.alloc _).kept hgrow4 (apt_fresh J3.out.2.1 _ _ _), (bAlloc J3.out.2.2 _).grown hgrow4 (by have := J3.out.2.2.size; simp; omega) (fun k hk => by have := J3.out.2.2.size; simp [Value.ownBlock] at hk; omega)⟩); (have A4 := Hid.mk' (apt_old J3.out.2.1 hown4)); clear hown4 hgrow4)
           | ((refine step_append_pairs (by rfl) (.tmp 176) (.tmp 179) (by rfl) w.heap.size v4 (M.take n) (by rfl) J4.out.1 (.slice (some A2) (M.length - m) (cap - m)) (M.drop m) (by rfl) (slice_srcA hA2 J4.out.2.1 hml (by omega)) (by rw [List.length_take, List.length_drop]; omega) J4.out.2.2.2.size ?_); (intro v5 w5 hown5 hgrow5); (have J5 : Hid (Rdp w5 v5 (M.take n ++ M.drop m) ∧ (Apt ur v4 → Rdp w5 ur (M.take n ++ M.drop m)) ∧ Below w.heap.size w w5) := ⟨own_rdp hown5, fun a => own_rdp (J4.out.2.2.1.kept hgrow5 a), J4.out.2.2.2.grown hgrow5 J4.out.2.2.2.size (fun k hk => (J4.out.1.lt k hk).1)⟩); clear hown5 hgrow5)
           | (go_at_call_of 25 ur; (have Q := sameP_rdp (M := M.take n ++ M.drop m) (by rw [List.length_append, List.length_take, List.length_drop]; omega) (J5.out.2.1 A4.out) J5.out.1); refine Q.mono ?_; clear Q; rintro e w6 ⟨rfl, k1⟩; (have J6 := Hid.mk' (bT J5.out.2.2 k1)); clear k1))
  go_wp2
  go_ret
  exact ⟨rfl, J6.out⟩

end Go.Proofs.Ytjjgloioppjcaaa
