/- A sheet's read: the bytes from one place to another, in new memory. -/
import Derived.Test.YtmhpeppbhjpkiaaGreatPm17
namespace Go.Proofs.YtmhpeppbhjpkiaaGreat
open Go.RowKit Go.Shelf
attribute [local go_sem] Oper.semAt_some

theorem three_new (w : World) (x y z : Obj) : Below w.heap.size w (((w.alloc x).alloc y).alloc z) ∧ (((w.alloc x).alloc y).alloc z).heap[w.heap.size]? = some x ∧ (((w.alloc x).alloc y).alloc z).heap[w.heap.size + 1]? = some y ∧ (((w.alloc x).alloc y).alloc z).heap[w.heap.size + 1 + 1]? = some z ∧ (((w.alloc x).alloc y).alloc z).heap.size = w.heap.size + 3 :=
  ⟨bAAA w _ _ _, ((Below.heap_alloc _ _ _ (by simp; omega)).trans (Below.heap_alloc _ _ _ (by simp))).trans (World.alloc_heap_new w _), (Below.heap_alloc _ _ _ (by simp)).trans (alloc2_here w _ _), alloc3_here w _ _ _, by simp⟩

/-- read's three parameters, boxed, and the sheet. -/
structure R3 (w W : World) (sb : Nat) (v0 : Value) (a : Option Addr) (e x y : Int) : Prop where
  below : Below w.heap.size w W
  b0 : W.heap[w.heap.size]? = some (.cells #[.pointer (some ⟨sb, 0, none⟩)] 26 (0, 0))
  b1 : W.heap[w.heap.size + 1]? = some (.cells #[.int .i64 x] 3 (0, 0))
  b2 : W.heap[w.heap.size + 1 + 1]? = some (.cells #[.int .i64 y] 3 (0, 0))
  sh : W.heap[sb]? = some (.cells #[v0, .pointer a, .int .i64 e] 55 (0, 0))
theorem R3.call {w W W' : World} {sb : Nat} {v0 : Value} {a : Option Addr} {e x y : Int} (h : R3 w W sb v0 a e x y) (hb : Below W.heap.size W W') : R3 w W' sb v0 a e x y :=
  ⟨h.below.trans (hb.mono h.below.size), (hb.block _ (sh_lt h.b0)).trans h.b0, (hb.block _ (sh_lt h.b1)).trans h.b1, (hb.block _ (sh_lt h.b2)).trans h.b2, (hb.block _ (sh_lt h.sh)).trans h.sh⟩
theorem R3.alloc {w W : World} {sb : Nat} {v0 : Value} {a : Option Addr} {e x y : Int} (h : R3 w W sb v0 a e x y) (o : Obj) : R3 w (W.alloc o) sb v0 a e x y := h.call (bAlloc (Below.refl _ _) o)
theorem R3.drew {w W : World} {sb : Nat} {v0 : Value} {a : Option Addr} {e x y : Int} (h : R3 w W sb v0 a e x y) : R3 w W.drew sb v0 a e x y := h.call (Below.refl _ _).drew
theorem R3.s {w W : World} {sb : Nat} {v0 : Value} {a : Option Addr} {e x y : Int} (h : R3 w W sb v0 a e x y) :
    W.cell? ⟨w.heap.size, 0, none⟩ = some (.pointer (some ⟨sb, 0, none⟩)) ∧ W.cell? ⟨w.heap.size + 1, 0, none⟩ = some (.int .i64 x) ∧ W.cell? ⟨sb, 1, none⟩ = some (.pointer a) := ⟨(box_cell h.b0).1, (box_cell h.b1).1, (sh_cells h.sh).2.1⟩
theorem R3.set {w W : World} {sb : Nat} {v0 : Value} {a : Option Addr} {e x y : Int} (h : R3 w W sb v0 a e x y) {g : Nat} {u : Value} (hg : w.heap.size + 2 < g) (v : Value) (hu : W.heap[g]? = some (.cells #[u] 3 (0, 0))) : R3 w (W.setCell ⟨g, 0, none⟩ v) sb v0 a e x y := by
  have ne : ∀ k, k ≠ g → (W.setCell ⟨g, 0, none⟩ v).heap[k]? = W.heap[k]? := fun k hk => Below.heap_setCell _ _ _ _ hk
  have hsb : sb ≠ g := fun e => by have a := h.sh; rw [e, hu] at a; cases a
  exact ⟨bset h.below (by omega) _ _, (ne _ (by omega)).trans h.b0, (ne _ (by omega)).trans h.b1, (ne _ (by omega)).trans h.b2, (ne _ hsb).trans h.sh⟩

theorem RdI.start {w w7 : World} {sb g8 gT n : Nat} {v0 : Value} {a : Option Addr} {e x y ins : Int} (Q7 : R3 w w7 sb v0 a e x y) (B7 : w7.heap[g8]? = some (.cells #[.int .i64 ins] 3 (0, 0))) (hr : w7.ownsRow w.heap.size 5 1 (.slice (some ⟨gT, 0, none⟩) 0 n) 0 []) (z8 : w.heap.size + 2 < g8) :
    RdI w (w7.heap.size + 1) g8 w7.heap.size gT (.pointer (some ⟨sb, 0, none⟩)) x y n 0 ins [] (w7.alloc (.cells #[.slice (some ⟨gT, 0, none⟩) 0 n] 22)) := by
  have z7 := sh_lt B7
  have hT : gT < w7.heap.size := by
    rcases hr.2 with ⟨h, _⟩ | ⟨g, _, _, h, _, h5, _⟩
    · cases h
    · cases h
      exact sh_lt h5
  exact ⟨bAlloc Q7.below _, (Q7.alloc _).b0, (Q7.alloc _).b1, (Q7.alloc _).b2, (Below.heap_alloc _ _ _ z7).trans B7, World.alloc_heap_new _ _, Ab.own_keep hr (bAlloc (Below.refl _ _) _), rfl, z8, by omega, by omega, by omega, Q7.below.size, own_ge hr rfl⟩

set_option maxRecDepth 100000 in
set_option maxHeartbeats 8000000 in
theorem read_some (sb bb : Nat) (vo va : Value) (O A : List UInt8) (t : Tr) (a : Option Addr) (e : Int) (base : Nat) (x y : Nat) (w : World) (hSh : Hid (Sh w base sb bb vo va O A t a e)) (hw : Hid t.whole) (hg : Hid (Gds O A t.list)) (hz : (txt O A t.list).length ≤ 1048576) (hxy : x < y) (hy : y ≤ (txt O A t.list).length) :
    Calls Tryz.prog 44 #[.pointer (some ⟨sb, 0, none⟩), .int .i64 (x : Int), .int .i64 (y : Int)] w fun e' w' => ∃ ao c, e' = .returned (.slice ao (y - x) c) ∧ w'.ownsRow w.heap.size 5 1 (.slice ao (y - x) c) (y - x) (Ab.bv (((txt O A t.list).drop x).take (y - x))) ∧ Below w.heap.size w w' := by
  have hne : ((x : Int) == (y : Int)) = false := by simp; omega
  have hlen := txt_len hg.out
  rw [← byt_list] at hlen
  have hfine : t.fine := (Tr.fine_list t).2 (hg.out.fine hz)
  have hfd := hid (fun W (hW : Below w.heap.size w W) => Find52_yes t a x W (by omega) (by omega) hfine (hSh.out.tree.keep hW))
  obtain ⟨n1, n2, n3, n4, n5⟩ := three_new w (.cells #[.pointer (some ⟨sb, 0, none⟩)] 26) (.cells #[.int .i64 x] 3) (.cells #[.int .i64 y] 3)
  obtain ⟨W0, hW0⟩ : ∃ W0, ((w.alloc (.cells #[.pointer (some ⟨sb, 0, none⟩)] 26)).alloc (.cells #[.int .i64 x] 3)).alloc (.cells #[.int .i64 y] 3) = W0 := ⟨_, rfl⟩
  rw [hW0] at n1 n2 n3 n4 n5
  have hs0 := (n1.block sb (sh_lt hSh.out.here)).trans hSh.out.here
  have Q0 : R3 w W0 sb (.pointer (some ⟨bb, 0, none⟩)) a e x y := ⟨n1, n2, n3, n4, hs0⟩
  have N5 : w.heap.size + 2 < W0.heap.size := by rw [n5]; omega
  obtain ⟨c0, _⟩ := box_cell n2
  obtain ⟨c1, _⟩ := box_cell n3
  obtain ⟨c2, _⟩ := box_cell n4
  obtain ⟨d0, d1, d2, _, _, _⟩ := sh_cells hs0
  have HQ := hid Q0
  clear n1 n2 n3 n4 n5 hs0 Q0
  refine (callsIn_wide (n := 9)).1 ?_
  refine callsIn_of_wp_marks Tryz.func44 rfl trivial ?_ rfl
  simp only [Tryz.ntmps44, List.size_toArray, List.length_cons, List.length_nil, Nat.reduceAdd, Nat.reduceSub, Array.replicate_succ, Array.replicate_zero, List.push_toArray, List.append_toArray, List.nil_append, List.cons_append]
  refine wpIn_wide.2 ?_
  go_wp2
  clear hW0
  go_region_held3 (fun w' => w'.cell? ⟨w.heap.size, 0, none⟩ = some (.pointer (some ⟨sb, 0, none⟩)) ∧ w'.cell? ⟨w.heap.size + 1, 0, none⟩ = some (.int .i64 (x : Int)) ∧ w'.cell? ⟨sb, 1, none⟩ = some (.pointer a)) (first | exact HQ.out.drew.s | exact (HQ.out.drew.alloc _).s | exact Q9.out.s | exact (Q9.out.alloc _).s | exact (Q9.out.set (by omega) _ G8.out).s | exact ((Q9.out.alloc _).set (by omega) _ (World.alloc_heap_new _ _)).s)
    (first | (go_at_call 59; refine (hfd.out _ HQ.out.drew.below).mono ?_; rintro e9 w9 ⟨j, i0, rfl, hit, hb9⟩; have Q9 := hid (HQ.out.drew.call hb9); have z9 : w.heap.size + 2 < w9.heap.size := Nat.lt_of_lt_of_le N5 hb9.size; have HIT := hid hit; clear hb9 hit)
           | (go_at_call 59; refine (hfd.out _ (HQ.out.drew.alloc _).below).mono ?_; rintro e9 w9 ⟨j, i0, rfl, hit, hb9⟩; have Q9 := hid ((HQ.out.drew.alloc _).call hb9); have G8 : Hid (w9.heap[W0.heap.size]? = some (.cells #[.int .i64 0] 3 (0, 0))) := hid ((hb9.block _ (by simp)).trans (World.alloc_heap_new W0.drew (.cells #[.int .i64 0] 3))); obtain ⟨m0, m1⟩ := box_cell G8.out; have HIT := hid hit; clear hb9 hit))
  have Q8 := hid (Q9.out.alloc (.cells #[.int .i64 i0] 3))
  have B8 := hid (World.alloc_heap_new w9 (.cells #[.int .i64 i0] 3))
  generalize w9.alloc (.cells #[.int .i64 i0] 3) = w8 at *
  obtain ⟨g8, hg8⟩ : ∃ g8, w9.heap.size = g8 := ⟨_, rfl⟩
  rw [hg8] at B8 z9 ⊢
  have z8 := z9
  clear hg8 z9 Q9
  rotate_left 1
  have Q8 := hid (Q9.out.set (by omega) (.int .i64 i0) G8.out)
  have B8 := hid (box_set G8.out (.int .i64 i0))
  generalize w9.setCell ⟨W0.heap.size, 0, none⟩ (.int .i64 i0) = w8 at *
  have z8 := N5
  obtain ⟨g8, hg8⟩ : ∃ g8, W0.heap.size = g8 := ⟨_, rfl⟩
  rw [hg8] at B8 z8 ⊢
  clear hg8 Q9 G8 m0 m1
  rotate_left 1
  all_goals
    clear c0 c1 c2 d0 d1 d2 hfd
    obtain ⟨i0, rfl⟩ : ∃ i : Nat, i0 = i := by obtain ⟨pp, _, q, _⟩ := HIT.out; exact ⟨i0.toNat, by omega⟩
    obtain ⟨pp, hpp, _, hi0, hx0⟩ := HIT.out
    have hjlt := (List.getElem?_eq_some_iff.1 hpp).1
    have hj : j ≤ t.size := by rw [← t.size_list]; omega
    have hsp := hid (fun W (hW : At W t a) => Split_yes t a j W hj (hid hfine) hw hW)
    obtain ⟨it, ht0, ht1, ht2, ht3⟩ := info_parts Ab.info5
    obtain ⟨⟨c0, c1, d1⟩, c2⟩ := And.intro Q8.out.s (box_cell Q8.out.b2).1
    have B8l := sh_lt B8.out
    have X0 := hid hx0
    have HPP := hid hpp
    clear hx0 hpp
    go_wp2_with (first
      | (at_make; refine wpList_make_own _ rfl (.const (.int .i64 0)) (.tmp 36) 22 rfl w.heap.size 5 it (.int .u8 0) 1 Tryz.underlying22 ht0 ht1 ht2 .i64 .i64 ((y : Int) - x) (y - x) rfl rfl (by omega) (by rw [ht3]; omega) (by unfold maxLen; omega) Q8.out.below.size ?_; intro w7 hrow7 hgrow7; have hb7 : Below w8.heap.size w8 w7 := ⟨hgrow7.os, hgrow7.tape, hgrow7.output, hgrow7.size, fun k hk => hgrow7.block k hk (by simp)⟩; have Q7 := hid (Q8.out.call hb7); have B7 := hid ((hb7.block _ B8l).trans B8.out); have z7 := sh_lt B7.out; have D6 := hid (RdI.start Q7.out B7.out hrow7 z8); have S6 := hid (Q7.out.alloc (.cells #[.slice (some ⟨w8.heap.size, 0, none⟩) 0 (y - x)] 22)); clear c0 c1 d1 c2 hgrow7 hrow7 hb7; obtain ⟨⟨c0, c1, d1⟩, c2⟩ := And.intro S6.out.s (box_cell S6.out.b2).1)
      | (go_at_call 77; refine (hsp.out _ (hSh.out.tree.keep S6.out.below)).mono ?_; rintro e5 w5 ⟨x5, y5, rfl, hx5, hy5, hb5⟩; have D5 := hid (D6.out.call hb5); have Y5 := hid hy5; have z5 : w7.heap.size + 1 ≤ w5.heap.size := (by have := hb5.size; simpa using this); clear c0 c1 d1 c2 hb5 hx5 hy5)
      | (go_at_call 46; refine (all_any y5 _).mono ?_; rintro e3 w2 ⟨rfl, hw2⟩; have D2 := hid ((D5.out.call (bAA w5 (.cells #[.pointer x5] 53) (.cells #[.pointer y5] 53))).call (bAlloc (Below.refl _ _) (.cells #[.pointer y5] 53))); have Y2 := hid (Y5.out.keep (bAA w5 (.cells #[.pointer x5] 53) (.cells #[.pointer y5] 53))); have A2 := hid (World.alloc_heap_new ((w5.alloc (.cells #[.pointer x5] 53)).alloc (.cells #[.pointer y5] 53)) (.cells #[.pointer y5] 53)); have L2 := hid (bAlloc (Below.refl ((w5.alloc (.cells #[.pointer x5] 53)).alloc (.cells #[.pointer y5] 53)).heap.size ((w5.alloc (.cells #[.pointer x5] 53)).alloc (.cells #[.pointer y5] 53))) (.cells #[.pointer y5] 53)); rw [← hw2] at D2 A2 L2; clear hw2))
    have hTl := (Tr.splitT_list t j).2
    have z2 : w7.heap.size + 1 ≤ w2.heap.size := Nat.le_trans z5 (by have := L2.out.size; simp at this; omega)
    have hGl : Gds O A (t.list.drop j) := hg.out.drop j
    have htsz : (Tr.splitT t j).2.size ≤ 1048576 := by
      rw [← (Tr.splitT t j).2.size_list, hTl, List.length_drop]
      have := len_le_txt hg.out
      omega
    have hfull : i0 + (y - x) ≤ (txt O A (t.list.drop j)).length ∧ ((txt O A (t.list.drop j)).drop i0).take (y - x) = ((txt O A t.list).drop x).take (y - x) := by
      have e1 : txt O A t.list = txt O A (t.list.take j) ++ txt O A (t.list.drop j) := by rw [← txt_append, List.take_append_drop]
      have e2 := txt_len (hg.out.take j)
      have e3 : x = (txt O A (t.list.take j)).length + i0 := by have := X0.out; omega
      refine ⟨?_, ?_⟩
      · rw [e1, List.length_append] at hy
        omega
      · rw [e1, e3, ← List.drop_drop, List.drop_left]
    have HF := hid hfull
    clear hfull
    have E3 : ((w5.alloc (.cells #[.pointer x5] 53)).alloc (.cells #[.pointer y5] 53)).heap.size = w5.heap.size + 1 + 1 := by simp
    rw [E3] at A2
    generalize (w5.alloc (.cells #[.pointer x5] 53)).alloc (.cells #[.pointer y5] 53) = w3 at *
    refine (wpIn_wide (n := 9)).1 ?_
    generalize ha₀ : Act.mk _ _ = a₀
    refine wpIn_ring (F := Fence.wide) rfl rfl (by rw [← ha₀]; rfl) trivial (enters_of Tryz.func80 (by kernel_rfl) rfl)
      (all_seq (fun k => k < w3.heap.size ∧ k ≠ g8 ∧ k ≠ w7.heap.size ∧ k ≠ w8.heap.size) w3 (Tr.splitT t j).2 y5 (w5.heap.size + 1 + 1) w2 Y2.out ?hN (fun k hk _ => L2.out.block k hk) L2.out.size A2.out htsz) (Below.refl _ _) (fun k hk => Nat.lt_of_lt_of_le hk.1 L2.out.size) (fun _ _ => rfl)
      (fun pre W => RdI w w2.heap.size g8 w7.heap.size w8.heap.size (.pointer (some ⟨sb, 0, none⟩)) x y (y - x) (got O A i0 pre).length (skip i0 pre) (got O A i0 pre) W ∧ (got O A i0 pre).length < y - x)
      (fun c pre W => c = .exit 0 ∧ RdI w w2.heap.size g8 w7.heap.size w8.heap.size (.pointer (some ⟨sb, 0, none⟩)) x y (y - x) (y - x) 0 (((txt O A t.list).drop x).take (y - x)) W)
      (fun s A B h hk => ⟨h.1.stab hk, h.2⟩) (fun c s A B h hk => ⟨h.1, h.2.stab hk⟩) ?h0
      (fun pre p a' W => ∃ Bx, W.heap[Bx]? = some (.cells #[.int .i64 p.s, .int .i64 p.o, .int .i64 p.l, .int .i64 p.n] 59 (0, 0)) ∧ w2.heap.size + 4 ≤ Bx ∧ a' = { tmps := ((a₀.tmps.setIfInBounds 50 (.int .i64 (pre.length : Int))).setIfInBounds 51 p.v).setIfInBounds 15 (.pointer (some ⟨Bx, 0, none⟩)), defers := [] })
      ?hAx ?assign ?body ?done ?stop
    case hN =>
      intro b cs hb
      have d := D2.out
      refine ⟨sh_lt hb, fun e => ?_, fun e => ?_, fun e => ?_⟩
      · have h := d.b8; rw [← e, L2.out.block b (sh_lt hb), hb] at h; cases h
      · have h := d.b10; rw [← e, L2.out.block b (sh_lt hb), hb] at h; cases h
      · exact Ab.own_ne d.row ((L2.out.block b (sh_lt hb)).trans hb) (by decide) (by rw [e]; rfl)
    case h0 =>
      have e : got O A i0 [] = [] := by simp [got, txt_nil]
      rw [e]
      exact ⟨by simpa [skip] using D2.out.wide z2, by simp; omega⟩
    case hAx =>
      rintro pre p a' ⟨⟩ A B ⟨Bx, h1, h2, h3⟩ hk
      exact ⟨Bx, (hk.block _ (sh_lt h1) (by omega)).trans h1, h2, h3⟩
    case assign =>
      rintro l pre ⟨s, o, len, nn⟩ W K hi hbig hpre hK
      subst ha₀
      simp only [Pc.v] at hK ⊢
      have HK := hid hK
      clear hK
      gi_wp2
      refine HK.out _ _ ?as1 ?as2 ⟨W.heap.size, ?as3, ?as4, ?as5⟩
      case as1 => exact Rnd.alloc _ _ _ _ _
      case as2 => exact ⟨hi.1.call (bAlloc (Below.refl _ _) _), hi.2⟩
      case as3 => exact World.alloc_heap_new _ _
      case as4 => omega
      case as5 => simp only [List.setIfInBounds_toArray, List.set_cons_zero, List.set_cons_succ]
    case body =>
      rintro l pre ⟨s, o0, len0, nn⟩ a' W rfl ⟨r, hr⟩ ⟨hI, hshort⟩ hbig ⟨Bx, hx, hBx, rfl⟩ hpre
      subst ha₀
      rw [hTl] at hpre
      have hxg : Gd O A ⟨s, o0, len0, nn⟩ := hGl _ (by obtain ⟨r, hr⟩ := hpre; rw [← hr]; simp)
      obtain ⟨o, len, e1, e2, _, _, _⟩ := Ab.hd_parts hxg.hold
      simp only at e1 e2
      subst e1 e2
      obtain ⟨sk, m, p1, p2, p3, p4, p5, p6, p7, p8, p9, p10, p11, p12, p13, p14⟩ := round_pure (n := y - x) hGl hpre (by rw [List.getElem?_drop]; exact HPP.out) hi0 hshort
      rw [p1] at hI
      have P13 := hid p13
      have P14 := hid p14
      have P1 := hid p1
      have P3 := hid p3
      have P10 := hid p10
      clear p1 p3 p10 p13 p14 hxg
      simp only [Pc.v, List.setIfInBounds_toArray, List.set_cons_zero, List.set_cons_succ]
      obtain ⟨e0, e1, e2, e3⟩ := four_cells hx
      obtain ⟨⟨c0, c1, c2⟩, ⟨c3, f3⟩, ⟨c4, f4⟩⟩ := hI.cells
      have HI := hid hI
      have HX := hid hx
      have ll8 := hI.l8
      clear hI hx hr
      gi_wp2
      refine ⟨trivial, ?_⟩
      refine (CallsIn.inRound _ (callsIn_wide.2 (Ab.cut_yes s o len sk W p7 (by omega) (by omega)))).mono ?_
      rintro e9 w9 ⟨rfl, hb9⟩
      have I9 := hid (HI.out.call hb9)
      have I8 := hid (I9.out.call (bAA w9 (.cells #[.int .i64 s, .int .i64 o, .int .i64 sk] 57) (.cells #[.int .i64 s, .int .i64 ((o : Int) + sk), .int .i64 ((len : Int) - sk)] 57)))
      have u9 := Nat.lt_of_lt_of_le (Nat.lt_of_lt_of_le I9.out.u8 (by omega : w2.heap.size ≤ W.heap.size)) hb9.size
      have hsz9 := hb9.size
      clear c0 c1 c2 c3 f3 c4 f4 e0 e1 e2 e3
      obtain ⟨⟨c0, c1, c2⟩, ⟨c3, f3⟩, ⟨c4, f4⟩⟩ := I8.out.cells
      have J8 := hid ((I9.out.zero 0).call (bAA (w9.setCell ⟨g8, 0, none⟩ (.int .i64 0)) (.cells #[.int .i64 s, .int .i64 o, .int .i64 sk] 57) (.cells #[.int .i64 s, .int .i64 ((o : Int) + sk), .int .i64 ((len : Int) - sk)] 57)))
      obtain ⟨⟨k0, k1, k2⟩, ⟨k3, k4⟩, ⟨k5, k6⟩⟩ := J8.out.cells
      have v1 : ¬ (g8 = w9.heap.size + 1) := by omega
      have v2 : ¬ (w9.heap.size + 1 = g8) := by omega
      have v3 : ¬ (w.heap.size + 1 = g8) := by omega
      have v4 : ¬ (g8 = w.heap.size + 1) := by omega
      have v5 : ¬ (w.heap.size + 1 + 1 = g8) := by omega
      have v6 : ¬ (g8 = w.heap.size + 1 + 1) := by omega
      have v7 : ¬ (w.heap.size = g8) := by omega
      have v8 : ¬ (g8 = w.heap.size) := by omega
      have v9 : ¬ (w7.heap.size = g8) := fun e => by have h := I9.out.b10; rw [e, I9.out.b8] at h; cases h
      have v10 : ¬ (g8 = w7.heap.size) := fun e => v9 e.symm
      have hrd := hid (fun W (hW : Ab.Bf W base (some ⟨bb, 0, none⟩) O A) => Ab.read_yes (some ⟨bb, 0, none⟩) s (o + sk) m O A base W p11 p12 (by omega) hW)
      simp only [Int.natCast_add] at hrd
      have hM1 : (len : Int) - sk ≤ (y : Int) - x - ((got O A i0 pre).length : Int) → (len : Int) - sk = (m : Int) := fun h => by have := P3.out; omega
      have hM2 : ¬ ((len : Int) - sk ≤ (y : Int) - x - ((got O A i0 pre).length : Int)) → (y : Int) - x - ((got O A i0 pre).length : Int) = (m : Int) := fun h => by have := P3.out; omega
      have HM1 := hid hM1
      have HM2 := hid hM2
      clear hM1 hM2
      gi_wp2
      all_goals (first | rw [HM2.out h] | rw [HM1.out h])
      all_goals
        have hs0 : (w9.setCell ⟨g8, 0, none⟩ (.int .i64 0)).heap.size = w9.heap.size := by show (w9.heap.modify _ _).size = _; rw [Array.size_modify]
        have IV := hid ((I9.out.zero 0).call (bAA (w9.setCell ⟨g8, 0, none⟩ (.int .i64 0)) (.cells #[.int .i64 s, .int .i64 o, .int .i64 sk] 57) (.cells #[.int .i64 s, .int .i64 ((o : Int) + sk), .int .i64 (m : Int)] 57)))
        have BV := alloc2_here (w9.setCell ⟨g8, 0, none⟩ (.int .i64 0)) (.cells #[.int .i64 s, .int .i64 o, .int .i64 sk] 57) (.cells #[.int .i64 s, .int .i64 ((o : Int) + sk), .int .i64 (m : Int)] 57)
        rw [hs0] at BV
        have RV : Rnd (fun k => k < w3.heap.size ∧ k ≠ g8 ∧ k ≠ w7.heap.size ∧ k ≠ w8.heap.size) w2.heap.size (w2.heap.size + 2 + 2) W (((w9.setCell ⟨g8, 0, none⟩ (.int .i64 0)).alloc (.cells #[.int .i64 s, .int .i64 o, .int .i64 sk] 57)).alloc (.cells #[.int .i64 s, .int .i64 ((o : Int) + sk), .int .i64 (m : Int)] 57)) :=
          (((Rnd.of_below hb9 (fun k hk => by have := L2.out.size; omega) hbig).trans (Rnd.setCell _ _ _ (fun hk => hk.2.1 rfl) (.inl I9.out.u8))).trans (Rnd.alloc _ _ _ _ _)).trans (Rnd.alloc _ _ _ _ _)
        have HV := hid BV
        clear k0 k1 k2 k3 k4 k5 k6 c0 c1 c2 c3 f3 c4 f4 BV hs0
        generalize ((w9.setCell ⟨g8, 0, none⟩ (.int .i64 0)).alloc (.cells #[.int .i64 s, .int .i64 o, .int .i64 sk] 57)).alloc (.cells #[.int .i64 s, .int .i64 ((o : Int) + sk), .int .i64 (m : Int)] 57) = V at *
        obtain ⟨⟨c0, c1, c2⟩, ⟨c3, f3⟩, ⟨c4, f4⟩⟩ := IV.out.cells
        obtain ⟨b0, b1, b2⟩ := three_cells HV.out
        have hshV := (IV.out.below.block sb (sh_lt hSh.out.here)).trans hSh.out.here
        obtain ⟨q0, q1, q2, _, _, _⟩ := sh_cells hshV
        clear hshV
        gi_region_with (refine ⟨trivial, ?_⟩; gi_at_call 79; refine (CallsIn.inRound _ (callsIn_wide.2 (hrd.out _ ((hSh.out.shb.keep IV.out.below).buf.drew)))).mono ?_; rintro e5 W5 ⟨ao, cc, rfl, hrow5, hb5⟩; obtain ⟨g5, rfl, hcell5⟩ := own_some hrow5 p4; have HC5 := hid hcell5; have HB5 := hid (bD hb5); clear hcell5 hb5 hrow5)
        all_goals
          have I5 := hid (IV.out.call HB5.out)
          have u5 : w2.heap.size + 2 + 2 ≤ V.heap.size := Nat.le_trans hbig RV.size
          have R5 := RV.trans (Rnd.of_below (N := fun k => k < w3.heap.size ∧ k ≠ g8 ∧ k ≠ w7.heap.size ∧ k ≠ w8.heap.size) (lo := w2.heap.size) (hi := w2.heap.size + 2 + 2) HB5.out (fun k hk => by have := L2.out.size; omega) u5)
          have HR5 := hid R5
          clear R5 c0 c1 c2 c3 f3 c4 f4 b0 b1 b2 q0 q1 q2
          obtain ⟨⟨c0, c1, c2⟩, ⟨c3, f3⟩, ⟨c4, f4⟩⟩ := I5.out.cells
          have w71 : ¬ (w7.heap.size = w.heap.size + 1) := fun e => by have h := I5.out.b10; rw [e, I5.out.b1] at h; cases h
          have w72 : ¬ (w7.heap.size = w.heap.size + 1 + 1) := fun e => by have h := I5.out.b10; rw [e, I5.out.b2] at h; cases h
          have w73 : ¬ (w.heap.size + 1 = w7.heap.size) := fun e => w71 e.symm
          have w74 : ¬ (w.heap.size + 1 + 1 = w7.heap.size) := fun e => w72 e.symm
          have hbv : (Ab.bv (Ab.cutL s (↑o + ↑sk) (↑m) O A)).length = m * 1 := by have := P10.out; simp only [Int.natCast_add] at this; rw [Ab.bv_length, this]; omega
          gi_wp2_with (gi_at_builtin; refine wpListIn_append_fits _ rfl _ _ 22 rfl w.heap.size 5 it 1 Tryz.underlying22 ht0 ht2 w8.heap.size (got O A i0 pre).length (y - x) (Ab.bv (got O A i0 pre)) rfl I5.out.row ⟨g5, 0, none⟩ m cc (Ab.bv (Ab.cutL s (↑o + ↑sk) (↑m) O A)) rfl hbv HC5.out (Ab.bv_one _) p6 ?_; intro W4 hrow4 hgrow4; have hne4 : ∀ (q : Nat) (cs : Array Value) (t : Nat), W5.heap[q]? = some (Obj.cells cs t (0, 0)) → t ≠ 5 → W4.heap[q]? = some (Obj.cells cs t (0, 0)) := (fun q cs t hq ht => (hgrow4.block q (sh_lt hq) (fun e => Ab.own_ne I5.out.row hq ht e)).trans hq); have H4 := hid hrow4; have G4 := hid hgrow4; obtain ⟨d1, _⟩ := box_cell (hne4 _ _ _ I5.out.b1 (by decide)); obtain ⟨d2, _⟩ := box_cell (hne4 _ _ _ I5.out.b2 (by decide)); obtain ⟨d4, d5⟩ := box_cell (hne4 _ _ _ I5.out.b10 (by decide)); clear hrow4 hgrow4 c0 c1 c2 c3 f3 c4 f4)
        all_goals
          rename_i hq
          have hC : (Ab.cutL s (↑o + ↑sk) (↑m) O A).length = m := by have := P10.out; simpa only [Int.natCast_add] using this
          obtain ⟨F1, F2⟩ := I5.out.more H4.out G4.out hC
          have F3 := HR5.out.trans (F2 (fun k => k < w3.heap.size ∧ k ≠ g8 ∧ k ≠ w7.heap.size ∧ k ≠ w8.heap.size) (w2.heap.size + 2 + 2) (fun k hk => ⟨hk.2.2.1, hk.2.2.2⟩))
          have p13 := P13.out
          have p14 := P14.out
          simp only [Int.natCast_add] at p13 p14
          first
            | (have hq' := eq_of_beq hq
               have e : (got O A i0 pre).length + m = y - x := by omega
               exact ⟨F3, rfl, F1.cast e ((p14 e).trans HF.out.2)⟩)
            | (have hq' := ne_of_beq_false hq
               have e : (got O A i0 pre).length + m < y - x := by omega
               obtain ⟨e2, e3⟩ := p13 e
               have e4 : (got O A i0 (pre ++ [⟨s, (o : Int), (len : Int), nn⟩])).length = (got O A i0 pre).length + m := by rw [e2, List.length_append, hC]
               refine ⟨F3, ?_, by rw [e4]; exact e⟩
               rw [e4, e3, e2]
               exact F1)
    case done =>
      rintro W ⟨hI, hshort⟩ hD
      exfalso
      rw [hTl] at hshort
      have h1 := HF.out.1
      unfold got at hshort
      rw [List.length_drop] at hshort
      omega
    case stop =>
      rintro c pre W _ ⟨rfl, hI⟩ hD
      subst ha₀
      obtain ⟨⟨c0, c1, c2⟩, ⟨c3, f3⟩, ⟨c4, f4⟩⟩ := hI.cells
      have HI := hid hI
      clear hI
      refine wpIn_wide.2 ?_
      go_wp2
      refine ⟨by simp, .inl ⟨_, _, rfl, run_takeDeferred hD, ?_⟩⟩
      refine ⟨_, results_tmp rfl _ _ _, ?_⟩
      have hu := HI.out.uT
      have hw2b := HI.out.below.size
      refine ⟨some ⟨w8.heap.size, 0, none⟩, y - x, rfl, ?_, ?_⟩
      · exact own_same HI.out.row fun k e _ => World.putObj_heap_other (by cases e; show w8.heap.size ≠ w2.heap.size; omega)
      · exact HI.out.below.trans ⟨rfl, rfl, rfl, by simp, fun k hk => World.putObj_heap_other (by have := D2.out.below.size; omega)⟩

end Go.Proofs.YtmhpeppbhjpkiaaGreat

