/- The walk of quoinlaw03.SpliceBack. -/
import Derived.Test.YtjjgloioppjcaaaSpell
import Derived.Test.YtjjgloioppjcaaaPacked
namespace Go.Proofs.Ytjjgloioppjcaaa
open Go.RowKit

set_option maxRecDepth 100000 in
set_option maxHeartbeats 4000000 in
theorem back_no (v : Value) (L : List Sp) (a s o l : Int) (w : World) (hl : l ≤ 9223372036854775807) (hz : L.length ≤ 1048576) (hg : Hid (Rng L)) (hr : Hid (Rdb w v L)) (h0 : ¬ insE L a ⟨s, o, l⟩ = 0) :
    Calls Try.prog 7 #[v, .int .i64 a, .agg #[.int .i64 s, .int .i64 o, .int .i64 l]] w fun e w' => e = .returned (.bool true) ∧ Below w.heap.size w w' := by
  have h1 : insL L a ⟨s, o, l⟩ = [] := by rw [insL, if_neg h0]
  generalize h2 : insE L a ⟨s, o, l⟩ = R at *
  have E1 := Hid.mk' h1
  have E2 := Hid.mk' h2
  clear h1 h2
  go_enter Try.func7, Try.ntmps7
  go_wp2_with (first | (go_at_call 9; refine (awake_any _).mono ?_; rintro e w9 ⟨rfl, hb9⟩; (have H9 : Hid (Below (w.alloc (.cells #[.int .i64 s, .int .i64 o, .int .i64 l] 39)).heap.size (w.alloc (.cells #[.int .i64 s, .int .i64 o, .int .i64 l] 39)) w9) := hb9); (obtain ⟨c0, c1, c2⟩ := three hb9); clear hb9)
                     | (go_at_call 22; (have Q := Insert_rdb a s o l hl hz hg (hr.out.keep (bA H9.out))); rw [E1.out, E2.out] at Q; refine Q.mono ?_; clear Q; rintro e w7 ⟨vb, rfl, h7, k7⟩; (obtain ⟨a7, c7, rfl⟩ := own_shape h7); (have H7 : Hid (Below w.heap.size w w7) := (bA (bT H9.out k7))); clear h7 k7))
  go_ret
  exact ⟨rfl, H7.out⟩

set_option maxRecDepth 100000 in
set_option maxHeartbeats 4000000 in
theorem back_yes (v : Value) (L : List Sp) (a s o l : Int) (w : World) (hl : l ≤ 9223372036854775807) (hz : L.length ≤ 1048576) (hg : Hid (Rng L)) (hr : Hid (Rdb w v L)) (h0 : insE L a ⟨s, o, l⟩ = 0) :
    Calls Try.prog 7 #[v, .int .i64 a, .agg #[.int .i64 s, .int .i64 o, .int .i64 l]] w fun e w' => e = .returned (.bool true) ∧ Below w.heap.size w w' := by
  obtain ⟨p1, p2, p3, p4, e1, e2, e3, e4, p5, p6⟩ := ins_back hz h0
  have ok := Hid.mk' (ins_ok L a ⟨s, o, l⟩)
  have ll := insL_length L a ⟨s, o, l⟩
  have lp := packA_length [(⟨s, o, l⟩ : Sp)]
  have lq := packA_length L
  dsimp only at e1 e2 e3 e4 p3 p4
  generalize g1 : insL L a ⟨s, o, l⟩ = I at *
  generalize g2 : packA [(⟨s, o, l⟩ : Sp)] = P at *
  generalize g3 : packA L = Q at *
  generalize g4 : sizeW L = S at *
  have G1 := Hid.mk' g1
  have G2 := Hid.mk' g2
  have G3 := Hid.mk' g3
  have G4 := Hid.mk' g4
  have E0 := Hid.mk' h0
  have E1 := Hid.mk' e1
  have E2 := Hid.mk' e2
  have E3 := Hid.mk' e3
  have E4 := Hid.mk' e4
  simp only [List.length_cons, List.length_nil] at lp
  clear g1 g2 g3 g4 h0 e1 e2 e3 e4
  have hI : I.length ≤ 2097153 := by omega
  have hcut := Hid.mk' (show rfs I a (a + l) = 0 → ((betW 0 a I).length + (betW (a + l) (sizeW I) I).length) * 24 ≤ 140737488355328 from fun _ => by
    have := betW_length 0 a I
    have := betW_length (a + l) (sizeW I) I
    omega)
  go_enter Try.func7, Try.ntmps7
  go_wp2_with (first | (go_at_call 9; refine (awake_any _).mono ?_; rintro e w9 ⟨rfl, hb9⟩; (have H9 : Hid (Below (w.alloc (.cells #[.int .i64 s, .int .i64 o, .int .i64 l] 39)).heap.size (w.alloc (.cells #[.int .i64 s, .int .i64 o, .int .i64 l] 39)) w9) := hb9); (obtain ⟨c0, c1, c2⟩ := three hb9); clear hb9)
                     | (go_at_call 22; (have Q := Insert_rdb a s o l hl hz hg (hr.out.keep (bA H9.out))); rw [G1.out, E0.out] at Q; refine Q.mono ?_; clear Q; rintro e w8 ⟨vi, rfl, h8, k8⟩; (have H8 : Hid (Rdb w8 vi I ∧ Below (w.alloc (.cells #[.int .i64 s, .int .i64 o, .int .i64 l] 39)).heap.size (w.alloc (.cells #[.int .i64 s, .int .i64 o, .int .i64 l] 39)) w8) := ⟨own_rdb h8, bT H9.out k8⟩); (obtain ⟨d0, d1, d2⟩ := three H8.out.2); clear h8 k8)
                     | (go_at_call 20; (have Q := Slice_rdb a (a + l) (by omega) (okL_rng ok.out.1) H8.out.1); rw [E1.out, E2.out] at Q; refine Q.mono ?_; clear Q; rintro e w7 ⟨vm, rfl, h7, k7⟩; (have H7 : Hid (Rdb w7 vm P ∧ Rdb w7 vi I ∧ Below (w.alloc (.cells #[.int .i64 s, .int .i64 o, .int .i64 l] 39)).heap.size (w.alloc (.cells #[.int .i64 s, .int .i64 o, .int .i64 l] 39)) w7) := ⟨own_rdb h7, H8.out.1.keep k7, bT H8.out.2 k7⟩); (obtain ⟨f0, f1, f2⟩ := three H7.out.2.2); clear h7 k7)
                     | (go_at_call 19; (have Q := Delete_rdb a (a + l) (by omega) hcut.out (okL_rng ok.out.1) H7.out.2.1); rw [E1.out, E3.out] at Q; refine Q.mono ?_; clear Q; rintro e w6 ⟨vd, rfl, h6, k6⟩; (have H6 : Hid (Rdb w6 vd Q ∧ Rdb w6 vm P ∧ Rdb w6 vi I ∧ Below (w.alloc (.cells #[.int .i64 s, .int .i64 o, .int .i64 l] 39)).heap.size (w.alloc (.cells #[.int .i64 s, .int .i64 o, .int .i64 l] 39)) w6) := ⟨own_rdb h6, H7.out.1.keep k6, H7.out.2.1.keep k6, bT H7.out.2.2 k6⟩); (obtain ⟨t0, t1, t2⟩ := three H6.out.2.2.2); clear h6 k6))
  clear c0 c1 c2 d0 d1 d2 f0 f1 f2
  have hw : IntKind.i64.wrap (S + l) = S + l := wrap_in (by omega) (by omega)
  go_region_held3 (fun w' => w'.cell? ⟨w.heap.size, 0, none⟩ = some (.int .i64 s) ∧ w'.cell? ⟨w.heap.size, 1, none⟩ = some (.int .i64 o) ∧ w'.cell? ⟨w.heap.size, 2, none⟩ = some (.int .i64 l)) (first | assumption | simp [*, go_sem])
    (first | (go_at_call 24; (have Q9 := packed_rdb (w := w6.drew) (by omega) ok.out (H6.out.2.2.1.keep (Below.refl _ _).drew)); refine Q9.mono ?_; clear Q9; rintro e w5 ⟨rfl, k5⟩; (have H5 : Hid (Rdb w5 vd Q ∧ Rdb w5 vm P ∧ Rdb w5 vi I ∧ Below (w.alloc (.cells #[.int .i64 s, .int .i64 o, .int .i64 l] 39)).heap.size (w.alloc (.cells #[.int .i64 s, .int .i64 o, .int .i64 l] 39)) w5) := ⟨H6.out.1.keep (bD k5), H6.out.2.1.keep (bD k5), H6.out.2.2.1.keep (bD k5), bT H6.out.2.2.2 (bD k5)⟩); have k9 := three H5.out.2.2.2)
           | (go_at_call_of 14 vi; (have Q9 := Size_rdb (w := w5) (by omega) (okL_rng ok.out.1) H5.out.2.2.1); rw [E4.out] at Q9; refine Q9.mono ?_; clear Q9; rintro e w4 ⟨rfl, k4⟩; (have H4 : Hid (Rdb w4 vd Q ∧ Rdb w4 vm P ∧ Below (w.alloc (.cells #[.int .i64 s, .int .i64 o, .int .i64 l] 39)).heap.size (w.alloc (.cells #[.int .i64 s, .int .i64 o, .int .i64 l] 39)) w4) := ⟨H5.out.1.keep k4, H5.out.2.1.keep k4, bT H5.out.2.2.2 k4⟩); have k9 := three H4.out.2.2)
           | (go_at_call_of 14 v; (have Q9 := Size_rdb (w := w4) (by omega) hg.out (hr.out.keep (bA H4.out.2.2))); rw [G4.out] at Q9; refine Q9.mono ?_; clear Q9; rintro e w3 ⟨rfl, k3⟩; (have H3 : Hid (Rdb w3 vd Q ∧ Rdb w3 vm P ∧ Below (w.alloc (.cells #[.int .i64 s, .int .i64 o, .int .i64 l] 39)).heap.size (w.alloc (.cells #[.int .i64 s, .int .i64 o, .int .i64 l] 39)) w3) := ⟨H4.out.1.keep k3, H4.out.2.1.keep k3, bT H4.out.2.2 k3⟩); have k9 := three H3.out.2.2))
  obtain ⟨d0, d1, d2⟩ := three H3.out.2.2
  go_wp2_with (first | (go_at_call_of 13 (Value.slice (some ⟨w3.heap.size, 0, none⟩) 1 1); (have Q9 := Pack_rdb (L := [⟨s, o, l⟩]) (by simp) (by intro p hp; simp at hp; subst hp; exact hl) (lit_rdb w3 s o l)); rw [G2.out] at Q9; refine Q9.mono ?_; clear Q9; rintro e w2 ⟨v2, rfl, h2, k2, _⟩; (have H2 : Hid (Rdb w2 v2 P ∧ Rdb w2 vd Q ∧ Rdb w2 vm P ∧ Below w.heap.size w w2) := ⟨own_rdb h2, H3.out.1.keep (bA k2), H3.out.2.1.keep (bA k2), bT (bA H3.out.2.2) (bA k2)⟩); clear h2 k2)
                     | (go_at_call_of 12 vm; (have Q9 := same_rdb (L := P) (by omega) H2.out.2.2.1 H2.out.1); refine Q9.mono ?_; clear Q9; rintro e w1 ⟨rfl, k1⟩; (have H1 : Hid (Rdb w1 vd Q ∧ Below w.heap.size w w1) := ⟨H2.out.2.1.keep k1, bT H2.out.2.2.2 k1⟩); clear k1)
                     | (go_at_call 13; (have Q9 := Pack_rdb (by omega) hg.out (hr.out.keep H1.out.2)); rw [G3.out] at Q9; refine Q9.mono ?_; clear Q9; rintro e y1 ⟨v1, rfl, h1, k1, _⟩; (have H11 : Hid (Rdb y1 v1 Q ∧ Rdb y1 vd Q ∧ Below w.heap.size w y1) := ⟨own_rdb h1, H1.out.1.keep k1, bT H1.out.2 k1⟩); clear h1 k1)
                     | (go_at_call 12; (have Q9 := same_rdb (L := Q) (by omega) H11.out.2.1 H11.out.1); refine Q9.mono ?_; clear Q9; rintro e y2 ⟨rfl, k1⟩; (have H12 : Hid (Below w.heap.size w y2) := bT H11.out.2.2 k1); clear k1))
  go_ret
  exact ⟨rfl, H12.out⟩

theorem back_walk (v : Value) (L : List Sp) (a s o l : Int) (w : World) (hl : l ≤ 9223372036854775807) (hz : L.length ≤ 1048576) (hg : Rng L) (hr : Rdb w v L) :
    Calls Try.prog 7 #[v, .int .i64 a, .agg #[.int .i64 s, .int .i64 o, .int .i64 l]] w fun e w' => e = .returned (.bool true) ∧ Below w.heap.size w w' := by
  by_cases h0 : insE L a ⟨s, o, l⟩ = 0
  · exact back_yes v L a s o l w hl hz hg hr h0
  · exact back_no v L a s o l w hl hz hg hr h0
end Go.Proofs.Ytjjgloioppjcaaa
