/- A sheet's piece and cutPiece. -/
import Derived.Test.YtpifjghhlcjedaaTxt
namespace Go.Proofs.Ytpifjghhlcjedaa
open Go.RowKit

/-- A sheet's block, and its buffer. -/
structure ShB (W : World) (base sb : Nat) (pb : Option Addr) (x y : Value) (O A : List UInt8) : Prop where
  here : W.heap[sb]? = some (.cells #[.pointer pb, x, y] 113 (0, 0))
  buf : Ab.Bf W base pb O A
theorem ShB.keep {W W' : World} {base sb : Nat} {pb : Option Addr} {x y : Value} {O A : List UInt8} (h : ShB W base sb pb x y O A) (hb : Below W.heap.size W W') : ShB W' base sb pb x y O A :=
  ⟨(hb.block sb (sh_lt h.here)).trans h.here, h.buf.keep hb⟩

theorem three_cells {W : World} {b : Nat} {x y z : Value} {t : TypeId} (h : W.heap[b]? = some (.cells #[x, y, z] t (0, 0))) : W.cell? ⟨b, 0, none⟩ = some x ∧ W.cell? ⟨b, 1, none⟩ = some y ∧ W.cell? ⟨b, 2, none⟩ = some z := by
  refine ⟨?_, ?_, ?_⟩ <;> simp [World.cell?, h]

theorem bset {n : Nat} {w W : World} (h : Below n w W) {b : Nat} (hb : n ≤ b) (i : Nat) (v : Value) : Below n w (W.setCell ⟨b, i, none⟩ v) := h.setCell (p := ⟨b, i, none⟩) hb v

set_option maxHeartbeats 1000000 in
theorem piece_yes (sb : Nat) (pb : Option Addr) (x y : Value) (O A : List UInt8) (base : Nat) (s : Int) (o l : Nat) (w : World) (hs : Ab.sndB s o l = true) (hh : o + l ≤ (Ab.which s O A).length) (h : Hid (ShB w base sb pb x y O A)) :
    Calls Try.prog 70 #[.pointer (some ⟨sb, 0, none⟩), .agg #[.int .i64 s, .int .i64 o, .int .i64 l]] w fun e w' => e = .returned (.agg #[.int .i64 s, .int .i64 o, .int .i64 l, .int .i64 (Ab.nl (Ab.cutL s o l O A) : Nat)]) ∧ Below w.heap.size w w' := by
  obtain ⟨k0, _, _, _, _, _⟩ := sh_cells ((bAA w (.cells #[.int .i64 s, .int .i64 o, .int .i64 l] 30) (.cells #[.int .i64 0, .int .i64 0, .int .i64 0, .int .i64 0] 32)).block sb (sh_lt h.out.here) |>.trans h.out.here)
  have g0 := (Below.heap_alloc (w.alloc (.cells #[.int .i64 s, .int .i64 o, .int .i64 l] 30)) (.cells #[.int .i64 0, .int .i64 0, .int .i64 0, .int .i64 0] 32) w.heap.size (by simp)).trans (World.alloc_heap_new w _)
  obtain ⟨k1, k2, k3⟩ := three_cells g0
  have g1 := alloc2_here w (.cells #[.int .i64 s, .int .i64 o, .int .i64 l] 30) (.cells #[.int .i64 0, .int .i64 0, .int .i64 0, .int .i64 0] 32)
  have G0 := hid g0
  have G1 := hid g1
  clear g0 g1
  go_enter Try.func70, Try.ntmps70
  go_wp2
  go_region_held3 (fun w' => w'.cell? ⟨sb, 0, none⟩ = some (.pointer pb) ∧ w'.cell? ⟨w.heap.size, 0, none⟩ = some (.int .i64 s) ∧ w'.cell? ⟨w.heap.size, 1, none⟩ = some (.int .i64 o) ∧ w'.cell? ⟨w.heap.size, 2, none⟩ = some (.int .i64 l)) (first | assumption | simp [*, go_sem])
    (first | (go_at_call 98; refine (Ab.lines_yes pb s o l O A base _ hs hh (h.out.buf.keep (bAA w _ _).drew)).mono ?_; rintro e w9 ⟨rfl, hb9⟩; have hbb := bD hb9; obtain ⟨m1, m2, m3⟩ := three_cells ((hbb.block _ (by simp; omega)).trans G0.out); have hN := (hbb.block _ (by simp)).trans G1.out; obtain ⟨n1, n2, n3, n4⟩ := four_cells hN; have n5 := free_all hN; obtain ⟨q0, _, _, _, _, _⟩ := sh_cells (((bAA w _ _).trans (hbb.mono (bAA w _ _).size)).block sb (sh_lt h.out.here) |>.trans h.out.here)))
  clear k0 k1 k2 k3
  go_wp2
  refine bodyPost_ret (v := .agg #[.int .i64 s, .int .i64 o, .int .i64 l, .int .i64 (Ab.nl (Ab.cutL s o l O A) : Nat)]) (by simp [results, Try.results70, go_sem, n1, n2, n3, n4]) rfl ⟨rfl, ?_⟩
  exact (((((bAA w _ _).trans (hbb.mono (bAA w _ _).size)).setCell (p := ⟨w.heap.size + 1, 0, none⟩) (by simp) _).setCell (p := ⟨w.heap.size + 1, 1, none⟩) (by simp) _).setCell (p := ⟨w.heap.size + 1, 2, none⟩) (by simp) _).setCell (p := ⟨w.heap.size + 1, 3, none⟩) (by simp) _

set_option maxHeartbeats 1000000 in
theorem cutPiece_yes (sb : Nat) (pb : Option Addr) (x y : Value) (O A : List UInt8) (base : Nat) (s : Int) (o l i : Nat) (k : Int) (w : World) (hs : Ab.sndB s o l = true) (hi : i ≤ l) (hh : o + l ≤ (Ab.which s O A).length) (h : Hid (ShB w base sb pb x y O A))
    (hk : 0 ≤ k ∧ k ≤ l) (hl : l ≤ 2147483647) :
    Calls Try.prog 86 #[.pointer (some ⟨sb, 0, none⟩), .agg #[.int .i64 s, .int .i64 o, .int .i64 l, .int .i64 k], .int .i64 i] w fun e w' =>
      e = .returned (.tuple #[.agg #[.int .i64 s, .int .i64 o, .int .i64 i, .int .i64 (Ab.nl (Ab.cutL s o i O A) : Nat)], .agg #[.int .i64 s, .int .i64 ((o : Int) + i), .int .i64 ((l : Int) - i), .int .i64 (k - (Ab.nl (Ab.cutL s o i O A) : Nat))]]) ∧ Below w.heap.size w w' := by
  have hb0 := bAAA w (.cells #[.int .i64 s, .int .i64 o, .int .i64 l, .int .i64 k] 32) (.cells #[.int .i64 0, .int .i64 0, .int .i64 0, .int .i64 0] 32) (.cells #[.int .i64 0, .int .i64 0, .int .i64 0, .int .i64 0] 32)
  obtain ⟨W0, hW0⟩ : ∃ W0, ((w.alloc (.cells #[.int .i64 s, .int .i64 o, .int .i64 l, .int .i64 k] 32)).alloc (.cells #[.int .i64 0, .int .i64 0, .int .i64 0, .int .i64 0] 32)).alloc (.cells #[.int .i64 0, .int .i64 0, .int .i64 0, .int .i64 0] 32) = W0 := ⟨_, rfl⟩
  have g0 : W0.heap[w.heap.size]? = some (.cells #[.int .i64 s, .int .i64 o, .int .i64 l, .int .i64 k] 32 (0, 0)) := by
    rw [← hW0]; exact ((Below.heap_alloc _ _ _ (by simp; omega)).trans (Below.heap_alloc _ _ _ (by simp))).trans (World.alloc_heap_new w _)
  have g1 : W0.heap[w.heap.size + 1]? = some (.cells #[.int .i64 0, .int .i64 0, .int .i64 0, .int .i64 0] 32 (0, 0)) := by
    rw [← hW0]; exact (Below.heap_alloc _ _ _ (by simp)).trans (alloc2_here w _ _)
  have g2 : W0.heap[w.heap.size + 1 + 1]? = some (.cells #[.int .i64 0, .int .i64 0, .int .i64 0, .int .i64 0] 32 (0, 0)) := by
    rw [← hW0]; exact alloc3_here w _ _ _
  rw [hW0] at hb0
  have H0 := hid hb0
  have G0 := hid g0
  have G1 := hid g1
  have G2 := hid g2
  clear hb0 g0 g1 g2
  obtain ⟨a0, a1, a2, a3⟩ := four_cells G0.out
  go_enter Try.func86, Try.ntmps86
  have hone : Ab.sndB s o i = true := by
    obtain ⟨q1, q2, q3, q4⟩ := snd_out hs
    exact snd_true ⟨q1, q2, by omega, by omega⟩
  go_wp2_with (first | (go_at_call 99; refine (Ab.cut_yes s o l i _ hs (by omega) (by omega)).mono ?_; rintro e w9 ⟨rfl, hb9⟩; have p0 := hid ((hb9.block _ (sh_lt G0.out)).trans G0.out); have p1 := hid ((hb9.block _ (sh_lt G1.out)).trans G1.out); have p2 := hid ((hb9.block _ (sh_lt G2.out)).trans G2.out); have hb10 := hid (H0.out.trans (hb9.mono H0.out.size)); clear a0 a1 a2 a3 hW0 hb9)
                     | (go_at_call 70; refine (piece_yes sb pb x y O A base s o i _ hone (by omega) (h.out.keep (bAlloc (bAlloc hb10.out _) _))).mono ?_; rintro e w8 ⟨rfl, hb8⟩; have r0 := (hb8.block _ (by have := sh_lt p0.out; simp; omega)).trans (((bAA w9 _ _).block _ (sh_lt p0.out)).trans p0.out); have r1 := (hb8.block _ (by have := sh_lt p1.out; simp; omega)).trans (((bAA w9 _ _).block _ (sh_lt p1.out)).trans p1.out); have r2 := (hb8.block _ (by have := sh_lt p2.out; simp; omega)).trans (((bAA w9 _ _).block _ (sh_lt p2.out)).trans p2.out); have r3 := (hb8.block _ (by simp)).trans (alloc2_here w9 _ _); have hb11 := hid ((bAlloc (bAlloc hb10.out _) _).trans (hb8.mono (bAlloc (bAlloc hb10.out _) _).size)); clear hb8; obtain ⟨c0, c1, c2, c3⟩ := four_cells r0; obtain ⟨d0, d1, d2, d3⟩ := four_cells r1; have d4 := free_all r1; obtain ⟨e0, e1, e2, e3⟩ := four_cells r2; have e4 := free_all r2; obtain ⟨f0, f1, f2⟩ := three_cells r3; have R0 := hid r0; have R1 := hid r1; have R2 := hid r2; have R3 := hid r3; have Q1 := hid p1; clear r0 r1 r2 r3))
  obtain ⟨s1, s2, s3⟩ := set_four R1.out (.int .i64 s) (.int .i64 o) (.int .i64 i) (.int .i64 (Ab.nl (Ab.cutL s o i O A) : Nat))
  have t0 := (s2 w.heap.size (by omega)).trans R0.out
  have t2 := (s2 (w.heap.size + 1 + 1) (by omega)).trans R2.out
  have t3 := (s2 (w9.heap.size + 1) (by have := sh_lt p1.out; omega)).trans R3.out
  have hb12 := hid (((((hb11.out.setCell (p := ⟨w.heap.size + 1, 0, none⟩) (by simp) (.int .i64 s)).setCell (p := ⟨w.heap.size + 1, 1, none⟩) (by simp) (.int .i64 o)).setCell (p := ⟨w.heap.size + 1, 2, none⟩) (by simp) (.int .i64 i)).setCell (p := ⟨w.heap.size + 1, 3, none⟩) (by simp) (.int .i64 (Ab.nl (Ab.cutL s o i O A) : Nat))))
  clear c0 c1 c2 c3 d0 d1 d2 d3 d4 e0 e1 e2 e3 e4 f0 f1 f2 s2 s3
  generalize ((((w8.setCell ⟨w.heap.size + 1, 0, none⟩ (.int .i64 s)).setCell ⟨w.heap.size + 1, 1, none⟩ (.int .i64 o)).setCell ⟨w.heap.size + 1, 2, none⟩ (.int .i64 i)).setCell ⟨w.heap.size + 1, 3, none⟩ (.int .i64 (Ab.nl (Ab.cutL s o i O A) : Nat))) = w7 at *
  obtain ⟨c0, c1, c2, c3⟩ := four_cells t0
  obtain ⟨d0, d1, d2, d3⟩ := four_cells s1
  have d4 := free_all s1
  obtain ⟨e0, e1, e2, e3⟩ := four_cells t2
  have e4 := free_all t2
  obtain ⟨f0, f1, f2⟩ := three_cells t3
  have S1 := hid s1
  have T2 := hid t2
  have hne1 : w9.heap.size ≠ w.heap.size := by have := sh_lt p1.out; omega
  have hne2 : w.heap.size ≠ w9.heap.size := hne1.symm
  have hne3 : w9.heap.size + 1 ≠ w.heap.size + 1 := by omega
  have hne4 : w.heap.size + 1 ≠ w9.heap.size + 1 := by omega
  clear s1 t0 t2 t3
  have hnl : (Ab.nl (Ab.cutL s o i O A) : Int) ≤ i := by
    have a := Ab.nl_le (Ab.cutL s o i O A)
    have b : (Ab.cutL s o i O A).length = i := Ab.cutL_length (by omega)
    omega
  go_region
  go_wp2
  refine bodyPost_ret (v := .tuple #[.agg #[.int .i64 s, .int .i64 o, .int .i64 i, .int .i64 (Ab.nl (Ab.cutL s o i O A) : Nat)], .agg #[.int .i64 s, .int .i64 ((o : Int) + i), .int .i64 ((l : Int) - i), .int .i64 (k - (Ab.nl (Ab.cutL s o i O A) : Nat))]]) (by simp [results, Try.results86, go_sem, d0, d1, d2, d3, e0, e1, e2, e3]) rfl ⟨rfl, ?_⟩
  refine Below.drew ?_
  have u1 : w.heap.size ≤ w.heap.size + 1 := by omega
  have u2 : w.heap.size ≤ w.heap.size + 1 + 1 := by omega
  exact bset (bset (bset (bset (bset (bset (bset (bset hb12.out u1 _ _) u1 _ _) u1 _ _) u1 _ _) u2 _ _) u2 _ _) u2 _ _) u2 _ _

end Go.Proofs.Ytpifjghhlcjedaa
