/- The walk of quoinlaw03.SpliceBytes, whole. -/
import Derived.Test.YtjjgloioppjcaaaBytesMain
namespace Go.Proofs.Ytjjgloioppjcaaa
open Go.RowKit

theorem rdp_nil (w : World) : Rdp w (.slice none 0 0) [] := ⟨_, _, _, rfl, rfl, Nat.le_refl _, .inl rfl⟩
theorem src_nil (w : World) : Src w (.slice none 0 0) [] := .inl ⟨rfl, rfl⟩

set_option maxRecDepth 100000 in
set_option maxHeartbeats 8000000 in
theorem bytes_nil (v : Value) (L : List Sp) (w : World) (hz : L.length ≤ 1048576) (hg : Hid (Rng L)) (hr : Hid (Rdb w v L)) (hS : Hid (okS L)) (hq0 : rfs L 0 0 = 0) (hM : bytW L = []) :
    Calls Try.prog 6 #[v, .int .i64 0, .int .i64 0] w fun e w' => e = .returned (.bool true) ∧ Below w.heap.size w w' := by
  obtain ⟨n, m, hn, hm, F⟩ := facts hz hS.out hq0 hq0
  obtain rfl : n = 0 := by omega
  obtain rfl : m = 0 := by omega
  have bP : byt (packA L) = [] := by have := F.bP; rw [hM] at this; exact this
  have bA : byt (cut1 L 0) = [] := by have := F.bA; rw [hM] at this; simpa using this
  have bB : byt (cut2 L 0) = [] := by have := F.bB; rw [hM] at this; simpa using this
  have bC : byt (delL L 0 0) = [] := by have := F.bC; rw [hM] at this; simpa using this
  have bD : byt (slcL L 0 0) = [] := by have := F.bD; rw [hM] at this; simpa using this
  clear F hn hm
  have EM := Hid.mk' hM
  clear hM
  have l0 := packA_length L
  have l1 := cut1_length L 0
  have l2 := cut2_length L 0
  have l3 := delL_length L 0 0
  have l4 := slcL_length L 0 0
  have o0 := Hid.mk' (pack_ok L)
  have o1 := Hid.mk' (cut1_ok L 0)
  have o2 := Hid.mk' (cut2_ok L 0)
  have o3 := Hid.mk' (del_ok L 0 0)
  have o4 := Hid.mk' (slc_ok L 0 0)
  have hag := packA_again L
  have hd := Hid.mk' (delcut (L := L) 0 0 hz)
  generalize h0 : packA L = P at *
  generalize h1 : cut1 L 0 = A at *
  generalize h2 : cut2 L 0 = B at *
  generalize h3 : delL L 0 0 = C at *
  generalize h4 : slcL L 0 0 = D at *
  have BP := Hid.mk' bP
  have BA := Hid.mk' bA
  have BB := Hid.mk' bB
  have BC := Hid.mk' bC
  have BD := Hid.mk' bD
  clear bP bA bB bC bD
  have E0 := Hid.mk' h0
  have E1 := Hid.mk' h1
  have E2 := Hid.mk' h2
  have E3 := Hid.mk' h3
  have E4 := Hid.mk' h4
  have E5 := Hid.mk' hq0
  have E6 := Hid.mk' hq0
  have EA := Hid.mk' hag
  clear h0 h1 h2 h3 h4 hq0 hag
  go_enter Try.func6, Try.ntmps6
  go_wp2_with (first | (go_at_call 9; refine (awake_any w).mono ?_; rintro e wa1 ⟨rfl, k1⟩; (have Ha1 : Hid (All wa1 [] ∧ AllP w.heap.size wa1 [] ∧ Below w.heap.size w wa1) := ⟨All.nil _, AllP.nil _ _, k1⟩); clear k1)
                     | (go_at_call_of 23 v; (have Q := bytes_yes (by omega) hg.out hS.out (hr.out.keep Ha1.out.2.2)); rw [EM.out] at Q; refine Q.mono ?_; clear Q; rintro e wa2 ⟨ua, rfl, h1, g1, k1⟩; (obtain rfl := g1 rfl); clear g1; (have Ha2 : Hid (All wa2 [] ∧ AllP w.heap.size wa2 [((Value.slice none 0 0), [])] ∧ Below w.heap.size w wa2) := ⟨Ha1.out.1.keep k1, AllP.cons (own_lower h1 Ha1.out.2.2.size) (Ha1.out.2.1.keep k1), bT Ha1.out.2.2 k1⟩); clear h1 k1)
                     | (go_at_call_of 13 v; (have Q := Pack_rdb (by omega) hg.out (hr.out.keep Ha2.out.2.2)); rw [E0.out] at Q; refine Q.mono ?_; clear Q; rintro e wa3 ⟨vp, rfl, h1, k1, -⟩; (have Ha3 : Hid (All wa3 [(vp, P)] ∧ AllP w.heap.size wa3 [((Value.slice none 0 0), [])] ∧ Below w.heap.size w wa3) := ⟨All.cons (own_rdb h1) (Ha2.out.1.keep k1), Ha2.out.2.1.keep k1, bT Ha2.out.2.2 k1⟩); clear h1 k1)
                     | (go_at_call 18; (have Q := Cut_rdb 0 (by omega) hg (hr.out.keep Ha3.out.2.2)); rw [E1.out, E2.out, E5.out] at Q; refine Q.mono ?_; clear Q; rintro e wa4 ⟨vx, vy, rfl, h1, h2, -, k1⟩; (obtain ⟨xa, xc, rfl⟩ := own_shape h1); (obtain ⟨ya, yc, rfl⟩ := own_shape h2); (have Ha4 : Hid (All wa4 [((.slice ya B.length yc), B), ((.slice xa A.length xc), A), (vp, P)] ∧ AllP w.heap.size wa4 [((Value.slice none 0 0), [])] ∧ Below w.heap.size w wa4) := ⟨All.cons (own_rdb h2) (All.cons (own_rdb h1) (Ha3.out.1.keep k1)), Ha3.out.2.1.keep k1, bT Ha3.out.2.2 k1⟩); clear h1 h2 k1)
                     | (go_at_call 19; (have Q := Delete_rdb 0 0 (by omega) hd.out hg (hr.out.keep Ha4.out.2.2)); rw [E3.out, E6.out] at Q; refine Q.mono ?_; clear Q; rintro e wa5 ⟨vc, rfl, h1, k1⟩; (have Ha5 : Hid (All wa5 [(vc, C), ((.slice ya B.length yc), B), ((.slice xa A.length xc), A), (vp, P)] ∧ AllP w.heap.size wa5 [((Value.slice none 0 0), [])] ∧ Below w.heap.size w wa5) := ⟨All.cons (own_rdb h1) (Ha4.out.1.keep k1), Ha4.out.2.1.keep k1, bT Ha4.out.2.2 k1⟩); clear h1 k1)
                     | (go_at_call 20; (have Q := Slice_rdb 0 0 (by omega) hg (hr.out.keep Ha5.out.2.2)); rw [E4.out, E6.out] at Q; refine Q.mono ?_; clear Q; rintro e wa6 ⟨vd, rfl, h1, k1⟩; (have Ha6 : Hid (All wa6 [(vd, D), (vc, C), ((.slice ya B.length yc), B), ((.slice xa A.length xc), A), (vp, P)] ∧ AllP w.heap.size wa6 [((Value.slice none 0 0), [])] ∧ Below w.heap.size w wa6) := ⟨All.cons (own_rdb h1) (Ha5.out.1.keep k1), Ha5.out.2.1.keep k1, bT Ha5.out.2.2 k1⟩); clear h1 k1)
                     | (go_at_call_of 24 vp; (have Q := packed_rdb (L := P) (by omega) o0.out (Ha6.out.1 (vp, P) (by simp))); refine Q.mono ?_; clear Q; rintro e wa7 ⟨rfl, k1⟩; (have Ha7 : Hid (All wa7 [(vd, D), (vc, C), ((.slice ya B.length yc), B), ((.slice xa A.length xc), A), (vp, P)] ∧ AllP w.heap.size wa7 [((Value.slice none 0 0), [])] ∧ Below w.heap.size w wa7) := ⟨Ha6.out.1.keep k1, Ha6.out.2.1.keep k1, bT Ha6.out.2.2 k1⟩); clear k1)
                     | (go_at_call_of 24 (Value.slice xa A.length xc); (have Q := packed_rdb (L := A) (by omega) o1.out (Ha7.out.1 ((.slice xa A.length xc), A) (by simp))); refine Q.mono ?_; clear Q; rintro e wa8 ⟨rfl, k1⟩; (have Ha8 : Hid (All wa8 [(vd, D), (vc, C), ((.slice ya B.length yc), B), ((.slice xa A.length xc), A), (vp, P)] ∧ AllP w.heap.size wa8 [((Value.slice none 0 0), [])] ∧ Below w.heap.size w wa8) := ⟨Ha7.out.1.keep k1, Ha7.out.2.1.keep k1, bT Ha7.out.2.2 k1⟩); clear k1)
                     | (go_at_call_of 24 (Value.slice ya B.length yc); (have Q := packed_rdb (L := B) (by omega) o2.out (Ha8.out.1 ((.slice ya B.length yc), B) (by simp))); refine Q.mono ?_; clear Q; rintro e wa9 ⟨rfl, k1⟩; (have Ha9 : Hid (All wa9 [(vd, D), (vc, C), ((.slice ya B.length yc), B), ((.slice xa A.length xc), A), (vp, P)] ∧ AllP w.heap.size wa9 [((Value.slice none 0 0), [])] ∧ Below w.heap.size w wa9) := ⟨Ha8.out.1.keep k1, Ha8.out.2.1.keep k1, bT Ha8.out.2.2 k1⟩); clear k1)
                     | (go_at_call_of 24 vc; (have Q := packed_rdb (L := C) (by omega) o3.out (Ha9.out.1 (vc, C) (by simp))); refine Q.mono ?_; clear Q; rintro e wa10 ⟨rfl, k1⟩; (have Ha10 : Hid (All wa10 [(vd, D), (vc, C), ((.slice ya B.length yc), B), ((.slice xa A.length xc), A), (vp, P)] ∧ AllP w.heap.size wa10 [((Value.slice none 0 0), [])] ∧ Below w.heap.size w wa10) := ⟨Ha9.out.1.keep k1, Ha9.out.2.1.keep k1, bT Ha9.out.2.2 k1⟩); clear k1)
                     | (go_at_call_of 24 vd; (have Q := packed_rdb (L := D) (by omega) o4.out (Ha10.out.1 (vd, D) (by simp))); refine Q.mono ?_; clear Q; rintro e wa11 ⟨rfl, k1⟩; (have Ha11 : Hid (All wa11 [(vd, D), (vc, C), ((.slice ya B.length yc), B), ((.slice xa A.length xc), A), (vp, P)] ∧ AllP w.heap.size wa11 [((Value.slice none 0 0), [])] ∧ Below w.heap.size w wa11) := ⟨Ha10.out.1.keep k1, Ha10.out.2.1.keep k1, bT Ha10.out.2.2 k1⟩); clear k1)
                     | (go_at_call_of 13 vp; (have Q := Pack_rdb (L := P) (by omega) (okL_rng o0.out.1) (Ha11.out.1 (vp, P) (by simp))); rw [EA.out] at Q; refine Q.mono ?_; clear Q; rintro e wa12 ⟨vq, rfl, h1, k1, -⟩; (have Ha12 : Hid (All wa12 [(vq, P), (vd, D), (vc, C), ((.slice ya B.length yc), B), ((.slice xa A.length xc), A), (vp, P)] ∧ AllP w.heap.size wa12 [((Value.slice none 0 0), [])] ∧ Below w.heap.size w wa12) := ⟨All.cons (own_rdb h1) (Ha11.out.1.keep k1), Ha11.out.2.1.keep k1, bT Ha11.out.2.2 k1⟩); clear h1 k1)
                     | (go_at_call 12; (have Q := same_rdb (L := P) (by omega) (Ha12.out.1 (vq, P) (by simp)) (Ha12.out.1 (vp, P) (by simp))); refine Q.mono ?_; clear Q; rintro e wa13 ⟨rfl, k1⟩; (have Ha13 : Hid (All wa13 [(vq, P), (vd, D), (vc, C), ((.slice ya B.length yc), B), ((.slice xa A.length xc), A), (vp, P)] ∧ AllP w.heap.size wa13 [((Value.slice none 0 0), [])] ∧ Below w.heap.size w wa13) := ⟨Ha12.out.1.keep k1, Ha12.out.2.1.keep k1, bT Ha12.out.2.2 k1⟩); clear k1)
                     | (go_at_call_of 23 vp; (have Q := bytes_ok (L := P) (M := []) (by omega) o0.out.1 BP.out (by decide) (Ha13.out.1 (vp, P) (by simp))); refine Q.mono ?_; clear Q; rintro e wb1 ⟨u1, rfl, h1, g1, k1⟩; (obtain rfl := g1 rfl); clear g1; (have Hb1 : Hid (All wb1 [(vq, P), (vd, D), (vc, C), ((.slice ya B.length yc), B), ((.slice xa A.length xc), A), (vp, P)] ∧ Below w.heap.size w wb1) := ⟨Ha13.out.1.keep k1, bT Ha13.out.2.2 k1⟩); clear h1 k1)
                     | (go_at_call_of 23 (Value.slice xa A.length xc); (have Q := bytes_ok (L := A) (M := []) (by omega) o1.out.1 BA.out (by decide) (Hb1.out.1 ((Value.slice xa A.length xc), A) (by simp))); refine Q.mono ?_; clear Q; rintro e wb2 ⟨u2, rfl, h1, g1, k1⟩; (obtain rfl := g1 rfl); clear g1; (have Hb2 : Hid (All wb2 [(vq, P), (vd, D), (vc, C), ((.slice ya B.length yc), B), ((.slice xa A.length xc), A), (vp, P)] ∧ Below w.heap.size w wb2) := ⟨Hb1.out.1.keep k1, bT Hb1.out.2 k1⟩); clear h1 k1)
                     | (go_at_call_of 23 (Value.slice ya B.length yc); (have Q := bytes_ok (L := B) (M := []) (by omega) o2.out.1 BB.out (by decide) (Hb2.out.1 ((Value.slice ya B.length yc), B) (by simp))); refine Q.mono ?_; clear Q; rintro e wb3 ⟨u3, rfl, h1, g1, k1⟩; (obtain rfl := g1 rfl); clear g1; (have Hb3 : Hid (All wb3 [(vq, P), (vd, D), (vc, C), ((.slice ya B.length yc), B), ((.slice xa A.length xc), A), (vp, P)] ∧ Below w.heap.size w wb3) := ⟨Hb2.out.1.keep k1, bT Hb2.out.2 k1⟩); clear h1 k1)
                     | (go_at_call_of 23 vc; (have Q := bytes_ok (L := C) (M := []) (by omega) o3.out.1 BC.out (by decide) (Hb3.out.1 (vc, C) (by simp))); refine Q.mono ?_; clear Q; rintro e wb4 ⟨u4, rfl, h1, g1, k1⟩; (obtain rfl := g1 rfl); clear g1; (have Hb4 : Hid (All wb4 [(vq, P), (vd, D), (vc, C), ((.slice ya B.length yc), B), ((.slice xa A.length xc), A), (vp, P)] ∧ Below w.heap.size w wb4) := ⟨Hb3.out.1.keep k1, bT Hb3.out.2 k1⟩); clear h1 k1)
                     | (go_at_call_of 23 vd; (have Q := bytes_ok (L := D) (M := []) (by omega) o4.out.1 BD.out (by decide) (Hb4.out.1 (vd, D) (by simp))); refine Q.mono ?_; clear Q; rintro e wb5 ⟨u5, rfl, h1, g1, k1⟩; (obtain rfl := g1 rfl); clear g1; (have Hb5 : Hid (All wb5 [(vq, P), (vd, D), (vc, C), ((.slice ya B.length yc), B), ((.slice xa A.length xc), A), (vp, P)] ∧ Below w.heap.size w wb5) := ⟨Hb4.out.1.keep k1, bT Hb4.out.2 k1⟩); clear h1 k1)
                     | (go_at_call_of 25 (Value.slice none 0 0); (have Q := sameP_rdp (w := wb5) (M := []) (by decide) (rdp_nil _) (rdp_nil _)); refine Q.mono ?_; clear Q; rintro e wb6 ⟨rfl, k1⟩; (have Hb6 := Hid.mk' (bT Hb5.out.2 k1)); clear k1))
  clear Ha1 Ha2 Ha3 Ha4 Ha5 Ha6 Ha7 Ha8 Ha9 Ha10 Ha11 Ha12 Ha13 Hb1 Hb2 Hb3 Hb4 Hb5 E0 E1 E2 E3 E4 E5 E6 EA EM BP BA BB BC BD o0 o1 o2 o3 o4 hg hr hS hd l0 l1 l2 l3 l4
  go_region_held3 (fun _ => True) (trivial)
    (first | ((refine step_append_pairs (by rfl) (.tmp 157) (.tmp 158) (by rfl) w.heap.size (.slice none 0 0) [] (by rfl) (World.ownsRow_nil _ _ _ _) (.slice none 0 0) [] (by rfl) (src_nil _) (by decide) Hb6.out.size ?_); (intro v1 w1 hown1 hgrow1); (have J1 : Hid (Rdp w1 v1 [] ∧ Below w.heap.size w w1) := ⟨own_rdp hown1, Hb6.out.drew.grown hgrow1 Hb6.out.size (fun k hk => by simp [Value.ownBlock] at hk)⟩); clear hown1 hgrow1)
           | ((refine step_append_pairs (by rfl) (.tmp 172) (.tmp 175) (by rfl) w3.heap.size (.slice (some ⟨w3.heap.size, 0, none⟩) 0 0) [] (by rfl) (World.ownsRow_made w3 #[] 0 (Nat.le_refl _) (by decide) rfl) (.slice none 0 0) [] (by rfl) (src_nil _) (by decide) (by simp) ?_); (intro v4 w4 hown4 hgrow4); (have J4 : Hid (w4.ownsRow w.heap.size 55 2 v4 0 (pcells []) ∧ Below w.heap.size w w4) := ⟨own_lower hown4 J3.out.size, (bAlloc J3.out _).grown hgrow4 (by have := J3.out.size; simp; omega) (fun k hk => by have := J3.out.size; simp [Value.ownBlock] at hk; omega)⟩); clear hown4 hgrow4)
           | ((refine step_append_pairs (by rfl) (.tmp 176) (.tmp 179) (by rfl) w.heap.size v4 [] (by rfl) J4.out.1 (.slice none 0 0) [] (by rfl) (src_nil _) (by decide) J4.out.2.size ?_); (intro v5 w5 hown5 hgrow5); (have J5 : Hid (Rdp w5 v5 [] ∧ Below w.heap.size w w5) := ⟨own_rdp hown5, J4.out.2.grown hgrow5 J4.out.2.size (fun k hk => (J4.out.1.lt k hk).1)⟩); clear hown5 hgrow5)
           | (go_at_call_of 25 v1; (have Q := sameP_rdp (M := []) (by decide) J1.out.1 (rdp_nil _)); refine Q.mono ?_; clear Q; rintro e w2 ⟨rfl, k1⟩; (have J2 := Hid.mk' (bT J1.out.2 k1)); clear k1)
           | (go_at_call_of 25 v5; (have Q := sameP_rdp (M := []) (by decide) (rdp_nil _) J5.out.1); refine Q.mono ?_; clear Q; rintro e w6 ⟨rfl, k1⟩; (have J6 := Hid.mk' (bT J5.out.2 k1)); clear k1)
           | (go_at_call 25; (have Q := sameP_rdp (w := w2) (M := []) (by decide) (rdp_nil _) (rdp_nil _)); refine Q.mono ?_; clear Q; rintro e w3 ⟨rfl, k1⟩; (have J3 := Hid.mk' (bT J2.out k1)); clear k1))
  go_wp2
  go_ret
  exact ⟨rfl, J6.out⟩

theorem bytes_walk (v : Value) (L : List Sp) (a b : Int) (w : World) (hz : L.length ≤ 1048576) (hg : Rng L) (hr : Rdb w v L) :
    Calls Try.prog 6 #[v, .int .i64 a, .int .i64 b] w fun e w' => e = .returned (.bool true) ∧ Below w.heap.size w w' := by
  by_cases hS : okS L
  · by_cases h0 : rfs L a a = 0
    · by_cases h1 : rfs L a b = 0
      · by_cases hM : bytW L = []
        · obtain ⟨n, m, rfl, rfl, F⟩ := facts hz hS h0 h1
          have h2 := F.ml
          have h3 := F.nm
          rw [hM] at h2
          obtain rfl : m = 0 := by simpa using h2
          obtain rfl : n = 0 := by omega
          exact bytes_nil v L w hz hg hr hS h0 hM
        · exact bytes_main v L a b w hz hg hr hS h0 h1 hM
      · exact bytes_out2 v L a b w hz hg hr hS h0 h1
    · exact bytes_out1 v L a b w hz hg hr hS h0
  · by_cases h0 : rfs L a a = 0
    · exact bytes_big0 v L a b w hz hg hr hS h0
    · exact bytes_big1 v L a b w hz hg hr hS h0

end Go.Proofs.Ytjjgloioppjcaaa
