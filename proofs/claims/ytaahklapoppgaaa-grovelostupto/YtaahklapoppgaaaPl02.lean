/- GroveLost, walked. -/
import Derived.Test.YtaahklapoppgaaaPl01
import Derived.Test.YtaahklapoppgaaaPo05
import Derived.Test.YtaahklapoppgaaaPm31
namespace Go.Proofs.Ytaahklapoppgaaa
open Go.RowKit

set_option maxRecDepth 8000
/-- an answer: a history and an error -/
structure La where
  ao : Option Addr
  n : Nat
  k : Nat
  now : Int
  H : List Nr
  z : Int
structure LaOk (W : World) (D : List Nd) (m : List Int) (x : La) : Prop where
  g : Grz W x.ao x.H
  l : x.H.length = x.n
  bad : x.z ≠ 0 → x.n = 0 ∧ x.now = 0
  sta : x.z = 0 → Sta D (x.H.map Nr.d)
  fine : x.z = 0 → Fin m → AllFin D → Right (x.H.map Nr.d) x.now
theorem LaOk.keep {W W' : World} {D : List Nd} {m : List Int} {x : La} (h : LaOk W D m x) (hb : Below W.heap.size W W') : LaOk W' D m x := ⟨h.g.keep hb, h.l, h.bad, h.sta, h.fine⟩
theorem la_add {z now1 : Int} {D D1 : List Nd} {m : List Int} {w w' : World} {e : Ending} (h : AdQ z (adD z D1) (adN z now1) w e w') (hz : z = 0 → Sta D D1 ∧ Right D1 now1) :
    ∃ ao n k now H, e = .returned (.tuple #[.agg #[.slice ao n k, .int .i64 now], .int .i64 z]) ∧ LaOk w' D m ⟨ao, n, k, now, H, z⟩ ∧ Below w.heap.size w w' := by
  obtain ⟨ao, n, k, H, rfl, h1, h2, h3, h4, h5, h6⟩ := h
  refine ⟨ao, n, k, _, H, rfl, ⟨h1, h2, fun h0 => ?_, fun h0 => ?_, fun h0 _ _ => ?_⟩, h6⟩
  · have e1 : adD z D1 = [] := if_neg h0
    have e2 : adN z now1 = 0 := if_neg h0
    rw [e1] at h4
    have := congrArg List.length h4
    rw [List.length_map] at this
    exact ⟨by dsimp only; rw [← h2]; exact this, e2⟩
  · have e1 : adD z D1 = D1 := if_pos h0
    rw [e1] at h4
    dsimp only; rw [h4]; exact (hz h0).1
  · have e1 : adD z D1 = D1 := if_pos h0
    have e2 : adN z now1 = now1 := if_pos h0
    rw [e1] at h4
    dsimp only; rw [h4, e2]; exact (hz h0).2
theorem la_cr {z now : Int} {D : List Nd} {m : List Int} {s : Wk} {w w' : World} {e : Ending} (h : CrQ z (crW z s) w e w') (hq : Lq D now m z s) :
    ∃ ao n k nw H va vn vc cu mm, e = .returned (.tuple #[.agg #[.slice ao n k, .int .i64 nw], .agg (cxa (.slice va vn vc) cu mm), .int .i64 z]) ∧ mm.length = 27 ∧ LaOk w' D m ⟨ao, n, k, nw, H, z⟩ ∧ Below w.heap.size w w' := by
  obtain ⟨ao, n, k, H, va, vn, vc, F, rfl, h1, h2, h3, h4, h5, h6, h7, h8, h9, -, h11⟩ := h
  refine ⟨ao, n, k, _, H, va, vn, vc, _, _, rfl, h9.len, ⟨h1, h2, fun h0 => ?_, fun h0 => ?_, fun h0 hf ha => ?_⟩, h11⟩
  · have e1 : crW z s = ⟨[], 0, [], 0, zm⟩ := if_neg h0
    rw [e1] at h4
    have := congrArg List.length h4
    rw [List.length_map] at this
    refine ⟨by dsimp only; rw [← h2]; exact this, ?_⟩
    dsimp only; rw [e1]
  · have e1 : crW z s = s := if_pos h0
    rw [e1] at h4
    dsimp only; rw [h4]; exact hq.st h0
  · have e1 : crW z s = s := if_pos h0
    rw [e1] at h4
    dsimp only; rw [h4, e1]; exact hq.f h0 hf ha
/-- the answers in rows -/
structure Lrow (W : World) (P Q : Nat) (L : List La) : Prop where
  c0 : ∀ (i : Nat) (x : La), L[i]? = some x → W.cell? ⟨P, i * 2, none⟩ = some (.slice x.ao x.n x.k)
  c1 : ∀ (i : Nat) (x : La), L[i]? = some x → W.cell? ⟨P, i * 2 + 1, none⟩ = some (.int .i64 x.now)
  f : ∀ (i : Nat) (x : La), L[i]? = some x → W.cell? ⟨Q, i, none⟩ = some (.bool (x.z == 0))
theorem Lrow.keep {W W' : World} {P Q : Nat} {L : List La} (h : Lrow W P Q L) (hb : Below W.heap.size W W') : Lrow W' P Q L := ⟨fun i x hx => cell_keep (h.c0 i x hx) hb, fun i x hx => cell_keep (h.c1 i x hx) hb, fun i x hx => cell_keep (h.f i x hx) hb⟩
theorem Lrow.of {W : World} {P Q : Nat} {a b c d : La} (h1 : Blk W P 24 #[.slice a.ao a.n a.k, .int .i64 a.now, .slice b.ao b.n b.k, .int .i64 b.now, .slice c.ao c.n c.k, .int .i64 c.now, .slice d.ao d.n d.k, .int .i64 d.now]) (h2 : Blk W Q 4 #[.bool (a.z == 0), .bool (b.z == 0), .bool (c.z == 0), .bool (d.z == 0)]) : Lrow W P Q [a, b, c, d] := by
  refine ⟨fun i x hx => ?_, fun i x hx => ?_, fun i x hx => ?_⟩ <;>
  · have hi := (List.getElem?_eq_some_iff.1 hx).1
    simp at hi
    match i, hi, hx with
    | 0, _, hx => simp at hx; subst hx; first | exact h1.cell rfl | exact h2.cell rfl
    | 1, _, hx => simp at hx; subst hx; first | exact h1.cell rfl | exact h2.cell rfl
    | 2, _, hx => simp at hx; subst hx; first | exact h1.cell rfl | exact h2.cell rfl
    | 3, _, hx => simp at hx; subst hx; first | exact h1.cell rfl | exact h2.cell rfl
set_option maxHeartbeats 32000000 in
set_option linter.unusedSimpArgs false in
theorem groveLost_walk' (Z : List Int) (hZ : Z.length = 27) (HZ50 : Hid (∀ w, (zeroValue 50).run Try.prog w = .ok (.agg (cxa (.slice none 0 0) 0 Z)) w)) (Z6 : Nr) (hZ6 : Z6.cs.length = 58) (HZ63 : Hid (∀ w, (zeroValue 63).run Try.prog w = .ok (.agg (nd Z6)) w)) (ao : Option Addr) (n c : Nat) (now tt : Int) (G : List Nr) (ea : Option Addr) (en ec : Nat) (E : List Er) (cur : Int) (was made : List Int) (m : List Int) (w : World) (HG : Hid (Grz w ao G)) (hn : G.length = n) (hc : n ≤ c) (HR : Hid (Nz w ⟨now, 0, ea, en, ec, E, cur, was, made⟩)) (hm : Mw m) (hbig : ∀ d ∈ G.map Nr.d, nsum d.ed + osum d.ed + d.ed.length ≤ 1048576) (hn9 : n ≤ 1048576) :
    Calls Try.prog 7 #[.agg #[.slice ao n c, .int .i64 now], .agg (ada (.slice ea en ec) cur was made), .int .i64 tt, .agg (mk m)] w fun e w' => e = .returned (.bool true) ∧ Below w.heap.size w w' := by
  have hml := hm.len
  have hwl : was.length = 27 := HR.out.ww.len
  have hdl : made.length = 27 := HR.out.wm.len
  have HQ : EdG 1048576 (G.map Nr.d) := fun i hi => by
    have := hbig (at' (G.map Nr.d) i) (List.mem_of_getElem? (at'_some hi))
    omega
  have HE9 : Hid (∀ d ∈ G.map Nr.d, d.ed.length ≤ 1048576) := fun d hd => by have := hbig d hd; omega
  have D20 : Hid (∀ W, Below w.heap.size w W → Calls Try.prog 20 #[.agg #[.slice ao n c, .int .i64 now], .slice ea en ec, .int .i64 cur, .agg (mk was), .agg (mk made)] W fun e w' => ∃ ao' n' k' nw H, e = .returned (.tuple #[.agg #[.slice ao' n' k', .int .i64 nw], .int .i64 (addE (G.map Nr.d) now ⟨now, 0, E.map Er.d, cur, was, made⟩)]) ∧ LaOk w' (G.map Nr.d) m ⟨ao', n', k', nw, H, addE (G.map Nr.d) now ⟨now, 0, E.map Er.d, cur, was, made⟩⟩ ∧ Below W.heap.size W w') := fun W hW => (add_walk zr rfl z63 ao n c now G ea en ec E cur was made W (HG.out.keep hW) hn hc (HR.out.keep hW)).mono fun e w' h => la_add (AdQ.of h (@addE_len (G.map Nr.d) now _)) (fun h0 => by
    obtain ⟨h1, h2, h3⟩ := addE_zero h0
    refine ⟨sta_add, ?_⟩
    have := right_add h1 h2 rfl rfl h3
    rwa [List.length_map, hn] at this)
  have D24 : Hid (∀ W, Below w.heap.size w W → Calls Try.prog 24 #[.agg #[.slice ao n c, .int .i64 now], .agg (mk m)] W fun e w' => ∃ ao' n' k' nw H va vn vc cu mm, e = .returned (.tuple #[.agg #[.slice ao' n' k', .int .i64 nw], .agg (cxa (.slice va vn vc) cu mm), .int .i64 (undE (G.map Nr.d) now m)]) ∧ mm.length = 27 ∧ LaOk w' (G.map Nr.d) m ⟨ao', n', k', nw, H, undE (G.map Nr.d) now m⟩ ∧ Below W.heap.size W w') := fun W hW => (undo_q ao n c now G m W (HG.out.keep hW) hn hc hm).mono fun e w' h => la_cr h (lq_undo HQ)
  have D25 : Hid (∀ W, Below w.heap.size w W → Calls Try.prog 25 #[.agg #[.slice ao n c, .int .i64 now], .agg (mk m)] W fun e w' => ∃ ao' n' k' nw H va vn vc cu mm, e = .returned (.tuple #[.agg #[.slice ao' n' k', .int .i64 nw], .agg (cxa (.slice va vn vc) cu mm), .int .i64 (redE (G.map Nr.d) now m)]) ∧ mm.length = 27 ∧ LaOk w' (G.map Nr.d) m ⟨ao', n', k', nw, H, redE (G.map Nr.d) now m⟩ ∧ Below W.heap.size W w') := fun W hW => (redo_q ao n c now G m W (HG.out.keep hW) hn hc hm).mono fun e w' h => la_cr h (lq_redo HQ)
  have D26 : Hid (∀ W, Below w.heap.size w W → Calls Try.prog 26 #[.agg #[.slice ao n c, .int .i64 now], .int .i64 tt, .agg (mk m)] W fun e w' => ∃ ao' n' k' nw H va vn vc cu mm, e = .returned (.tuple #[.agg #[.slice ao' n' k', .int .i64 nw], .agg (cxa (.slice va vn vc) cu mm), .int .i64 (goE (G.map Nr.d) now tt m)]) ∧ mm.length = 27 ∧ LaOk w' (G.map Nr.d) m ⟨ao', n', k', nw, H, goE (G.map Nr.d) now tt m⟩ ∧ Below W.heap.size W w') := fun W hW => (go_q ao n c now tt G m W (HG.out.keep hW) hn hc hm HE9).mono fun e w' h => la_cr h (lq_go HQ)
  have zA : addE (G.map Nr.d) now ⟨now, 0, E.map Er.d, cur, was, made⟩ = 0 → Right (G.map Nr.d) now := fun h => (addE_zero h).1
  have zB : undE (G.map Nr.d) now m = 0 → Right (G.map Nr.d) now := fun h => (undE_zero h).1
  have zC : redE (G.map Nr.d) now m = 0 → Right (G.map Nr.d) now := fun h => (redE_zero h).1
  have zD : goE (G.map Nr.d) now tt m = 0 → Right (G.map Nr.d) now := fun h => (goE_zero h).1
  generalize addE (G.map Nr.d) now ⟨now, 0, E.map Er.d, cur, was, made⟩ = z0 at *
  generalize undE (G.map Nr.d) now m = z1 at *
  generalize redE (G.map Nr.d) now m = z2 at *
  generalize goE (G.map Nr.d) now tt m = z3 at *
  have HZA := Hid.mk' zA
  have HZB := Hid.mk' zB
  have HZC := Hid.mk' zC
  have HZD := Hid.mk' zD
  have C17 : Hid (∀ W, Below w.heap.size w W → Calls Try.prog 17 #[.agg #[.slice ao n c, .int .i64 now]] W fun e w' => e = .returned (.int .i64 (ti (Right (G.map Nr.d) now) 0 180)) ∧ Below W.heap.size W w') := fun W hW => check_any ao n c now G W (HG.out.keep hW) hn hc
  have C32 : Hid (∀ W, Below w.heap.size w W → Calls Try.prog 32 #[.agg #[.slice ao n c, .int .i64 now]] W fun e w' => e = .returned (.bool (tb (AllFin (G.map Nr.d)))) ∧ Below W.heap.size W w') := fun W hW => allfine_any ao n c now G W (HG.out.keep hW) hn hn9
  have HN := Hid.mk' hn
  have HN9 := Hid.mk' hn9
  have HLD : Hid ((G.map Nr.d).length = n) := by unfold Hid; rw [List.length_map, hn]
  clear hbig HQ HE9 hn hc hm hn9 zA zB zC zD
  obtain ⟨W1, hW1⟩ : ∃ x, ((w.alloc (.cells #[.slice ao n c, .int .i64 now] 24)).alloc (.cells (ada (.slice ea en ec) cur was made) 43)).alloc (.cells (mk m) 41) = x := ⟨_, rfl⟩
  obtain ⟨b, hb⟩ : ∃ b, w.heap.size = b := ⟨_, rfl⟩
  have L1 : Hid (Below w.heap.size w W1) := by unfold Hid; rw [← hW1]; exact bAlloc (bAlloc (bAlloc (Below.refl _ _) _) _) _
  have K1 : Hid (Blk W1 b 24 #[.slice ao n c, .int .i64 now]) := by unfold Hid; rw [← hW1, ← hb]; exact (Blk.new w 24 _).keep (bAlloc (bAlloc (Below.refl _ _) _) _)
  have A1 : Hid (Ax W1 (b + 1) (.slice ea en ec) cur was made) := by
    refine Ax.of ?_ hwl
    rw [← hW1, ← hb]
    have := (Blk.new (w.alloc (.cells #[.slice ao n c, .int .i64 now] 24)) 43 (ada (.slice ea en ec) cur was made)).keep (bAlloc (Below.refl _ _) (.cells (mk m) 41))
    rwa [World.size_alloc] at this
  have M1 : Hid (Blk W1 (b + 1 + 1) 41 (mk m)) := by
    unfold Hid
    rw [← hW1, ← hb]
    have := Blk.new ((w.alloc (.cells #[.slice ao n c, .int .i64 now] 24)).alloc (.cells (ada (.slice ea en ec) cur was made) 43)) 41 (mk m)
    rwa [World.size_alloc, World.size_alloc] at this
  have hne : ada (.slice ea en ec) cur was made ≠ #[] := fun h => by have := congrArg Array.size h; simp [ada, ad] at this
  go_enter Try.func7, Try.ntmps7
  go_wp2_with fail
  clear hW1 hb
  refine (awake_any _).mono ?_
  rintro e w2 ⟨rfl, hb2⟩
  have L2 := Hid.mk' (bT L1.out hb2)
  have K2 := Hid.mk' (K1.out.keep hb2)
  have A2 := Hid.mk' (A1.out.keep hb2)
  have M2 := Hid.mk' (M1.out.keep hb2)
  clear hb2 L1 K1 A1 M1
  dsimp only
  have a2 : w2.cell? ⟨b, 0, none⟩ = some (.slice ao n c) := K2.out.cell rfl
  have b2 : w2.cell? ⟨b, 1, none⟩ = some (.int .i64 now) := K2.out.cell rfl
  have c2 := A2.out.c0
  have d2 := A2.out.c1
  go_wp2_with (first | refine wl_ld41 (B := b + 1) (o := 2) (.tmp 35) rfl rfl rfl hwl A2.out.m1 ?_ | refine wl_ld41 (B := b + 1) (o := 29) (.tmp 37) rfl rfl rfl hdl A2.out.m2 ?_ | fail)
  refine (D20.out w2 L2.out).mono ?_
  rintro e w3 ⟨p0, n0, k0, nw0, H0, rfl, la0, hb3⟩
  have L3 := Hid.mk' (bT L2.out hb3)
  have K3 := Hid.mk' (K2.out.keep hb3)
  have M3 := Hid.mk' (M2.out.keep hb3)
  have X3 := Hid.mk' la0
  clear hb3 L2 K2 A2 M2 a2 b2 c2 d2 la0 D20 hne
  dsimp only
  obtain ⟨W4, hW4⟩ : ∃ x, w3.alloc (.cells #[.slice none 0 0, .int .i64 0] 24) = x := ⟨_, rfl⟩
  obtain ⟨q0, hq⟩ : ∃ x, w3.heap.size = x := ⟨_, rfl⟩
  obtain ⟨f0, f1, f4, f5⟩ := box24_facts hW4 hq
  go_upto_region 4 with fail
  obtain ⟨x4, y4⟩ := Bx.put (n := n0) (k := k0) (now := nw0) hW4 hq X3.out.g
  have Q4 := Hid.mk' x4.b
  have L4 := Hid.mk' (bT L3.out y4)
  have K4 := Hid.mk' (K3.out.keep y4)
  have M4 := Hid.mk' (M3.out.keep y4)
  have X4 := Hid.mk' (X3.out.keep y4)
  clear x4 y4 f0 f1 f4 f5 hW4 hq X3 L3 K3 M3
  generalize (W4.setCell ⟨q0, 0, none⟩ (.slice p0 n0 k0)).setCell ⟨q0, 1, none⟩ (.int .i64 nw0) = w4 at *
  have Q0 := Q4
  have X0 := X4
  clear Q4 X4
  have a1 : w4.cell? ⟨b, 0, none⟩ = some (.slice ao n c) := K4.out.cell rfl
  have b1 : w4.cell? ⟨b, 1, none⟩ = some (.int .i64 now) := K4.out.cell rfl
  go_wp2_with (first | refine wl_ld41 (B := b + 1 + 1) (o := 0) (.tmp 7) rfl rfl rfl hml (range_blk M4.out) ?_ | fail)
  refine (D24.out w4 L4.out).mono ?_
  rintro e w5 ⟨p1, n1, k1, nw1, H1, va1, vn1, vc1, cu1, mm1, rfl, hl1, la1, hb⟩
  have L5 := Hid.mk' (bT L4.out hb)
  have K5 := Hid.mk' (K4.out.keep hb)
  have M5 := Hid.mk' (M4.out.keep hb)
  have Y1 := Hid.mk' la1
  have QQ0 := Hid.mk' (Q0.out.keep hb)
  have XX0 := Hid.mk' (X0.out.keep hb)
  clear Q0 X0
  clear hb L4 K4 M4 a1 b1 la1 D24
  dsimp only
  obtain ⟨X1, hX1⟩ : ∃ x, w5.alloc (.cells #[.slice none 0 0, .int .i64 0] 24) = x := ⟨_, rfl⟩
  obtain ⟨q1, hq1⟩ : ∃ x, w5.heap.size = x := ⟨_, rfl⟩
  obtain ⟨X2, hX2⟩ : ∃ x, X1.alloc (.cells (cxa (.slice none 0 0) 0 Z) 50) = x := ⟨_, rfl⟩
  obtain ⟨r1, hr1⟩ : ∃ x, X1.heap.size = x := ⟨_, rfl⟩
  obtain ⟨y1, y2, y3, y4, y5, y6, y7, y8⟩ := two_boxes (ao := p1) (va := va1) (n := n1) (k := k1) (vn := vn1) (vc := vc1) (now := nw1) (cu := cu1) (m := mm1) hZ hl1 hX1 hX2 hq1 hr1
  have T50 := Hid.mk' y4
  have Y5 := Hid.mk' y5
  have Y7 : Hid (q1 ≠ r1) := y7
  have Y8 := Hid.mk' y8
  have hz50 := HZ50.out
  clear y4 y5 y6 y7 y8
  go_upto_region 5 with (first | refine wl_st50 (B := r1) (o := 0) (.tmp 12) (.tmp 47) rfl rfl rfl rfl hl1 T50.out ?_ | fail)
  clear y1 y2 y3 hX1 hX2 hq1 hr1 hz50 T50 Y7
  generalize ((X2.setCell ⟨q1, 0, none⟩ (.slice p1 n1 k1)).setCell ⟨q1, 1, none⟩ (.int .i64 nw1)).setCells r1 0 (cx (.slice va1 vn1 vc1) cu1 mm1) = w6 at *
  have L6 := Hid.mk' (bT L5.out Y8.out)
  have K6 := Hid.mk' (K5.out.keep Y8.out)
  have M6 := Hid.mk' (M5.out.keep Y8.out)
  have X1 := Hid.mk' (Y1.out.keep Y8.out)
  have Q1 := Hid.mk' Y5.out
  have Q0 := Hid.mk' (QQ0.out.keep Y8.out)
  have X0 := Hid.mk' (XX0.out.keep Y8.out)
  clear QQ0 XX0
  clear Y5 Y8 Y1 L5 K5 M5
  have a2 : w6.cell? ⟨b, 0, none⟩ = some (.slice ao n c) := K6.out.cell rfl
  have b2 : w6.cell? ⟨b, 1, none⟩ = some (.int .i64 now) := K6.out.cell rfl
  go_wp2_with (first | refine wl_ld41 (B := b + 1 + 1) (o := 0) (.tmp 7) rfl rfl rfl hml (range_blk M6.out) ?_ | fail)
  refine (D25.out w6 L6.out).mono ?_
  rintro e w7 ⟨p2, n2, k2, nw2, H2, va2, vn2, vc2, cu2, mm2, rfl, hl2, la2, hb⟩
  have L7 := Hid.mk' (bT L6.out hb)
  have K7 := Hid.mk' (K6.out.keep hb)
  have M7 := Hid.mk' (M6.out.keep hb)
  have Y2 := Hid.mk' la2
  have QQ0 := Hid.mk' (Q0.out.keep hb)
  have XX0 := Hid.mk' (X0.out.keep hb)
  clear Q0 X0
  have QQ1 := Hid.mk' (Q1.out.keep hb)
  have XX1 := Hid.mk' (X1.out.keep hb)
  clear Q1 X1
  clear hb L6 K6 M6 a2 b2 la2 D25
  dsimp only
  obtain ⟨X1, hX1⟩ : ∃ x, w7.alloc (.cells #[.slice none 0 0, .int .i64 0] 24) = x := ⟨_, rfl⟩
  obtain ⟨q2, hq2⟩ : ∃ x, w7.heap.size = x := ⟨_, rfl⟩
  obtain ⟨X2, hX2⟩ : ∃ x, X1.alloc (.cells (cxa (.slice none 0 0) 0 Z) 50) = x := ⟨_, rfl⟩
  obtain ⟨r2, hr2⟩ : ∃ x, X1.heap.size = x := ⟨_, rfl⟩
  obtain ⟨y1, y2, y3, y4, y5, y6, y7, y8⟩ := two_boxes (ao := p2) (va := va2) (n := n2) (k := k2) (vn := vn2) (vc := vc2) (now := nw2) (cu := cu2) (m := mm2) hZ hl2 hX1 hX2 hq2 hr2
  have T50 := Hid.mk' y4
  have Y5 := Hid.mk' y5
  have Y7 : Hid (q2 ≠ r2) := y7
  have Y8 := Hid.mk' y8
  have hz50 := HZ50.out
  clear y4 y5 y6 y7 y8
  go_upto_region 6 with (first | refine wl_st50 (B := r2) (o := 0) (.tmp 15) (.tmp 54) rfl rfl rfl rfl hl2 T50.out ?_ | fail)
  clear y1 y2 y3 hX1 hX2 hq2 hr2 hz50 T50 Y7
  generalize ((X2.setCell ⟨q2, 0, none⟩ (.slice p2 n2 k2)).setCell ⟨q2, 1, none⟩ (.int .i64 nw2)).setCells r2 0 (cx (.slice va2 vn2 vc2) cu2 mm2) = w8 at *
  have L8 := Hid.mk' (bT L7.out Y8.out)
  have K8 := Hid.mk' (K7.out.keep Y8.out)
  have M8 := Hid.mk' (M7.out.keep Y8.out)
  have X2 := Hid.mk' (Y2.out.keep Y8.out)
  have Q2 := Hid.mk' Y5.out
  have Q0 := Hid.mk' (QQ0.out.keep Y8.out)
  have X0 := Hid.mk' (XX0.out.keep Y8.out)
  clear QQ0 XX0
  have Q1 := Hid.mk' (QQ1.out.keep Y8.out)
  have X1 := Hid.mk' (XX1.out.keep Y8.out)
  clear QQ1 XX1
  clear Y5 Y8 Y2 L7 K7 M7
  have a3 : w8.cell? ⟨b, 0, none⟩ = some (.slice ao n c) := K8.out.cell rfl
  have b3 : w8.cell? ⟨b, 1, none⟩ = some (.int .i64 now) := K8.out.cell rfl
  go_wp2_with (first | refine wl_ld41 (B := b + 1 + 1) (o := 0) (.tmp 7) rfl rfl rfl hml (range_blk M8.out) ?_ | fail)
  refine (D26.out w8 L8.out).mono ?_
  rintro e w9 ⟨p3, n3, k3, nw3, H3, va3, vn3, vc3, cu3, mm3, rfl, hl3, la3, hb⟩
  have L9 := Hid.mk' (bT L8.out hb)
  have K9 := Hid.mk' (K8.out.keep hb)
  have M9 := Hid.mk' (M8.out.keep hb)
  have Y3 := Hid.mk' la3
  have QQ0 := Hid.mk' (Q0.out.keep hb)
  have XX0 := Hid.mk' (X0.out.keep hb)
  clear Q0 X0
  have QQ1 := Hid.mk' (Q1.out.keep hb)
  have XX1 := Hid.mk' (X1.out.keep hb)
  clear Q1 X1
  have QQ2 := Hid.mk' (Q2.out.keep hb)
  have XX2 := Hid.mk' (X2.out.keep hb)
  clear Q2 X2
  clear hb L8 K8 M8 a3 b3 la3 D26
  dsimp only
  obtain ⟨X1, hX1⟩ : ∃ x, w9.alloc (.cells #[.slice none 0 0, .int .i64 0] 24) = x := ⟨_, rfl⟩
  obtain ⟨q3, hq3⟩ : ∃ x, w9.heap.size = x := ⟨_, rfl⟩
  obtain ⟨X2, hX2⟩ : ∃ x, X1.alloc (.cells (cxa (.slice none 0 0) 0 Z) 50) = x := ⟨_, rfl⟩
  obtain ⟨r3, hr3⟩ : ∃ x, X1.heap.size = x := ⟨_, rfl⟩
  obtain ⟨y1, y2, y3, y4, y5, y6, y7, y8⟩ := two_boxes (ao := p3) (va := va3) (n := n3) (k := k3) (vn := vn3) (vc := vc3) (now := nw3) (cu := cu3) (m := mm3) hZ hl3 hX1 hX2 hq3 hr3
  have T50 := Hid.mk' y4
  have Y5 := Hid.mk' y5
  have Y7 : Hid (q3 ≠ r3) := y7
  have Y8 := Hid.mk' y8
  have hz50 := HZ50.out
  clear y4 y5 y6 y7 y8
  go_upto_region 7 with (first | refine wl_st50 (B := r3) (o := 0) (.tmp 18) (.tmp 62) rfl rfl rfl rfl hl3 T50.out ?_ | fail)
  clear y1 y2 y3 hX1 hX2 hq3 hr3 hz50 T50 Y7
  generalize ((X2.setCell ⟨q3, 0, none⟩ (.slice p3 n3 k3)).setCell ⟨q3, 1, none⟩ (.int .i64 nw3)).setCells r3 0 (cx (.slice va3 vn3 vc3) cu3 mm3) = w10 at *
  have L10 := Hid.mk' (bT L9.out Y8.out)
  have K10 := Hid.mk' (K9.out.keep Y8.out)
  have M10 := Hid.mk' (M9.out.keep Y8.out)
  have X3 := Hid.mk' (Y3.out.keep Y8.out)
  have Q3 := Hid.mk' Y5.out
  have Q0 := Hid.mk' (QQ0.out.keep Y8.out)
  have X0 := Hid.mk' (XX0.out.keep Y8.out)
  clear QQ0 XX0
  have Q1 := Hid.mk' (QQ1.out.keep Y8.out)
  have X1 := Hid.mk' (XX1.out.keep Y8.out)
  clear QQ1 XX1
  have Q2 := Hid.mk' (QQ2.out.keep Y8.out)
  have X2 := Hid.mk' (XX2.out.keep Y8.out)
  clear QQ2 XX2
  clear Y5 Y8 Y3 L9 K9 M9
  have a3 : w10.cell? ⟨b, 0, none⟩ = some (.slice ao n c) := K10.out.cell rfl
  have b3 : w10.cell? ⟨b, 1, none⟩ = some (.int .i64 now) := K10.out.cell rfl
  go_wp2_with fail
  refine (C17.out w10 L10.out).mono ?_
  rintro e w11 ⟨rfl, hb⟩
  have L11 := Hid.mk' (bT L10.out hb)
  have K11 := Hid.mk' (K10.out.keep hb)
  have M11 := Hid.mk' (M10.out.keep hb)
  have U0 := Hid.mk' (Q0.out.keep hb)
  have U1 := Hid.mk' (Q1.out.keep hb)
  have U2 := Hid.mk' (Q2.out.keep hb)
  have U3 := Hid.mk' (Q3.out.keep hb)
  have V0 := Hid.mk' (X0.out.keep hb)
  have V1 := Hid.mk' (X1.out.keep hb)
  have V2 := Hid.mk' (X2.out.keep hb)
  have V3 := Hid.mk' (X3.out.keep hb)
  clear hb L10 K10 M10 a3 b3 Q0 Q1 Q2 Q3 X0 X1 X2 X3 C17
  dsimp only
  have g0 : w11.cell? ⟨q0, 0, none⟩ = some (.slice p0 n0 k0) := U0.out.cell rfl
  have g1 : w11.cell? ⟨q1, 0, none⟩ = some (.slice p1 n1 k1) := U1.out.cell rfl
  have g2 : w11.cell? ⟨q2, 0, none⟩ = some (.slice p2 n2 k2) := U2.out.cell rfl
  have g3 : w11.cell? ⟨q3, 0, none⟩ = some (.slice p3 n3 k3) := U3.out.cell rfl
  have o0 : w11.cell? ⟨q0, 1, none⟩ = some (.int .i64 nw0) := U0.out.cell rfl
  have o1 : w11.cell? ⟨q1, 1, none⟩ = some (.int .i64 nw1) := U1.out.cell rfl
  have o2 : w11.cell? ⟨q2, 1, none⟩ = some (.int .i64 nw2) := U2.out.cell rfl
  have o3 : w11.cell? ⟨q3, 1, none⟩ = some (.int .i64 nw3) := U3.out.cell rfl
  have HT : Hid (ti (Right (G.map Nr.d) now) 0 180 = 0 ∨ (ti (Right (G.map Nr.d) now) 0 180 = 180 ∧ (z0 == 0) = false ∧ (z1 == 0) = false ∧ (z2 == 0) = false ∧ (z3 == 0) = false)) := by
    by_cases hr : Right (G.map Nr.d) now
    · exact .inl (ti_t hr)
    · have nz : ∀ {z : Int}, Hid (z = 0 → Right (G.map Nr.d) now) → (z == 0) = false := fun h => by simp; exact fun e => hr (h.out e)
      exact .inr ⟨ti_f hr, nz HZA, nz HZB, nz HZC, nz HZD⟩
  obtain ⟨W12, hW12⟩ : ∃ x, w11.alloc (.cells #[.slice p0 n0 k0, .int .i64 nw0, .slice p1 n1 k1, .int .i64 nw1, .slice p2 n2 k2, .int .i64 nw2, .slice p3 n3 k3, .int .i64 nw3] 24) = x := ⟨_, rfl⟩
  obtain ⟨P, hP⟩ : ∃ x, w11.heap.size = x := ⟨_, rfl⟩
  obtain ⟨w13, hW13⟩ : ∃ x, W12.alloc (.cells #[.bool (z0 == 0), .bool (z1 == 0), .bool (z2 == 0), .bool (z3 == 0)] 4) = x := ⟨_, rfl⟩
  obtain ⟨Q, hQ⟩ : ∃ x, W12.heap.size = x := ⟨_, rfl⟩
  have b12 : Hid (Below w11.heap.size w11 w13) := by unfold Hid; rw [← hW13, ← hW12]; exact bAlloc (bAlloc (Below.refl _ _) _) _
  have LR : Hid (Lrow w13 P Q [⟨p0, n0, k0, nw0, H0, z0⟩, ⟨p1, n1, k1, nw1, H1, z1⟩, ⟨p2, n2, k2, nw2, H2, z2⟩, ⟨p3, n3, k3, nw3, H3, z3⟩]) := by
    refine Lrow.of ?_ ?_
    · rw [← hW13, ← hP, ← hW12]; exact (Blk.new w11 24 _).keep (bAlloc (Below.refl _ _) _)
    · rw [← hW13, ← hQ]; exact Blk.new W12 4 _
  have LO : Hid (∀ x ∈ ([⟨p0, n0, k0, nw0, H0, z0⟩, ⟨p1, n1, k1, nw1, H1, z1⟩, ⟨p2, n2, k2, nw2, H2, z2⟩, ⟨p3, n3, k3, nw3, H3, z3⟩] : List La), LaOk w13 (G.map Nr.d) m x) := fun x hx => by
    simp only [List.mem_cons, List.not_mem_nil, or_false] at hx
    rcases hx with rfl | rfl | rfl | rfl
    · exact V0.out.keep b12.out
    · exact V1.out.keep b12.out
    · exact V2.out.keep b12.out
    · exact V3.out.keep b12.out
  have L13 := Hid.mk' (bT L11.out b12.out)
  have K13 := Hid.mk' (K11.out.keep b12.out)
  have M13 := Hid.mk' (M11.out.keep b12.out)
  obtain ⟨Ls, hLs⟩ : ∃ x, ([⟨p0, n0, k0, nw0, H0, z0⟩, ⟨p1, n1, k1, nw1, H1, z1⟩, ⟨p2, n2, k2, nw2, H2, z2⟩, ⟨p3, n3, k3, nw3, H3, z3⟩] : List La) = x := ⟨_, rfl⟩
  have HLs : Hid (Ls.length = 4) := by unfold Hid; rw [← hLs]; rfl
  rw [hLs] at LR LO
  clear hLs
  obtain ⟨T17, hT17⟩ : ∃ x, ti (Right (G.map Nr.d) now) 0 180 = x := ⟨_, rfl⟩
  rw [hT17]
  rw [hT17] at HT
  clear hT17 U0 U1 U2 U3 V0 V1 V2 V3 L11 K11 M11 b12 HZA HZB HZC HZD
  go_upto_region 8 with fail
  go_cut [84] from 67 to 84 (fun x84 wx => x84 = .bool false ∧ wx = w11)
  case first =>
    rcases HT.out with rfl | ⟨rfl, h0, h1, h2, h3⟩
    · go_wp2_with fail
      go_meet
      exact ⟨rfl, rfl⟩
    · go_wp2_with fail
      go_meet
      exact ⟨rfl, rfl⟩
  case rest =>
    obtain ⟨rfl, rfl⟩ := hcut
    go_upto_region 12 with fail
    clear hW12 hP hW13 hQ g0 g1 g2 g3 o0 o1 o2 o3 HT
    go_wp2_with fail
    go_loopg [23] 4 (fun m x23 wx => ∃ i : Nat, x23 = .int .i64 (i : Int) ∧ i + m = 4 ∧ Hid (Below w13.heap.size w13 wx))
    case atStart => exact ⟨0, rfl, by omega, Below.refl _ _⟩
    case round =>
      obtain ⟨i, rfl, him, KB⟩ := hrel
      obtain ⟨go, hgo⟩ : ∃ g, g = gk - 1 := ⟨_, rfl⟩
      by_cases hi : i < 4
      · have hi' : (i : Int) < 4 := by omega
        have hi0 : (0 : Int) ≤ (i : Int) := by omega
        have hw8 : IntKind.i64.wrap ((i : Int) + 1) = ((i + 1 : Nat) : Int) := by rw [IntKind.wrap_i64]; omega
        obtain ⟨x, hx⟩ : ∃ x, Ls[i]? = some x := ⟨_, List.getElem?_eq_getElem (by have := HLs.out; omega)⟩
        have e0 := cell_keep (LR.out.c0 i x hx) KB.out
        have e1 := cell_keep (LR.out.c1 i x hx) KB.out
        have e2 := cell_keep (LR.out.f i x hx) KB.out
        have XO := Hid.mk' ((LO.out x (List.mem_of_getElem? hx)).keep KB.out)
        have XT := Hid.mk' (LO.out x (List.mem_of_getElem? hx))
        have HE13 := Hid.mk' (LR.out.c0 i x hx)
        obtain ⟨ax, nx, kx, nwx, Hx, zx⟩ := x
        dsimp only at e0 e1 e2 HE13
        clear hx
        by_cases hz : zx = 0
        · subst hz
          obtain ⟨zc, hzc⟩ : ∃ z, ti (Right (Hx.map Nr.d) nwx) 0 180 = z := ⟨_, rfl⟩
          have C14 : Hid (∀ W, Below wr.heap.size wr W → Calls Try.prog 14 #[.agg #[.slice ax nx kx, .int .i64 nwx]] W fun e w' => e = .returned (.int .i64 zc) ∧ Below W.heap.size W w') := fun W hW => by
            rw [← hzc]; exact rcheck_any ax nx kx nwx Hx W (XO.out.g.keep hW) XO.out.l
          have HZ3 : Hid (zc = 0 ∨ (zc = 180 ∧ ¬ Fin m) ∨ (zc = 180 ∧ Fin m ∧ tb (AllFin (G.map Nr.d)) = false)) := by
            rw [← hzc]
            by_cases hr : Right (Hx.map Nr.d) nwx
            · exact .inl (ti_t hr)
            · refine .inr ?_
              by_cases hf : Fin m
              · exact .inr ⟨ti_f hr, hf, tb_f fun ha => hr (XO.out.fine rfl hf ha)⟩
              · exact .inl ⟨ti_f hr, hf⟩
          have STA : Hid (Sta (G.map Nr.d) (Hx.map Nr.d)) := XO.out.sta rfl
          have HLx : Hid (n ≤ nx ∧ nx ≤ n + 1) := by
            have h1 := STA.out.len
            have h2 := STA.out.le1
            rw [HLD.out, List.length_map, XO.out.l] at h1 h2
            exact ⟨h1, h2⟩
          have hl1 : ¬ (nx : Int) < (n : Int) := by have := HLx.out; omega
          have hl2 : ¬ ((n + 1 : Nat) : Int) < (nx : Int) := by have := HLx.out; omega
          have hl3 : (nx : Int) ≤ (n : Int) + 1 := by have := HLx.out; omega
          have hwn : IntKind.i64.wrap ((n : Int) + 1) = ((n + 1 : Nat) : Int) := by rw [IntKind.wrap_i64]; have := HN9.out; omega
          have CF : Hid (∀ W, Calls Try.prog 28 #[.agg (mk m)] W fun e w' => e = .returned (.bool (tb (Fin m))) ∧ Below W.heap.size W w') := fun W => mfine_any m hml W
          have D0 : Hid (Below wr.heap.size wr wr.drew) := (Below.refl _ _).drew
          have DV : Hid (Below wr.drew.heap.size wr.drew wr.drew) := Below.refl _ _
          have L8 : Hid (Below w.heap.size w wr) := bT L13.out KB.out
          have K8 := Hid.mk' ((K13.out.keep KB.out).keep D0.out)
          have M8 := Hid.mk' ((M13.out.keep KB.out).keep D0.out)
          have HC0 := Hid.mk' (cell_keep e0 D0.out)
          have HC1 := Hid.mk' (cell_keep e1 D0.out)
          clear hzc
          go_upto_region 18 with fail
          clear e0 e1 e2
          go_cut [161] from 123 to 162 (fun x161 wx => x161 = .bool false ∧ Hid (Below w13.heap.size w13 wx))
          case first =>
            rcases HZ3.out with rfl | ⟨rfl, hf⟩ | ⟨rfl, hf, ha⟩
            · skip
              refine wp_region_held (S := fun w' => Below wr.drew.heap.size wr.drew w') (by kernel_rfl) ?_
              change wpAnyH _ _ _ _ _ _ _ _ (World.drew _)
              generalize wr.drew = V9 at *
              refine wpAnyH_take (i := 0) (v := .slice (some ⟨P, 0, none⟩) 4 4) rfl (by kernel_rfl) (by kernel_rfl) (by kernel_rfl) (fun _ _ _ h => h) (Yields.yieldsIf (Or.inl ⟨by rfl, fun w => by go_simp⟩)) DV.out ?_
              try simp only [Act.put, List.getElem_toArray, List.getElem_cons_zero, List.getElem_cons_succ, List.setIfInBounds_toArray, List.set_cons_zero, List.set_cons_succ]
              refine wpAnyH_take (i := 1) (v := .int .i64 (i : Int)) rfl (by kernel_rfl) (by kernel_rfl) (by kernel_rfl) (fun _ _ _ h => h) (Yields.yieldsIf (Or.inl ⟨by rfl, fun w => by go_simp⟩)) DV.out ?_
              try simp only [Act.put, List.getElem_toArray, List.getElem_cons_zero, List.getElem_cons_succ, List.setIfInBounds_toArray, List.set_cons_zero, List.set_cons_succ]
              refine wpAnyH_take (i := 2) (v := .pointer (some ⟨P, i * 2, none⟩)) rfl (by kernel_rfl) (by kernel_rfl) (by kernel_rfl) (fun _ _ _ h => h) (Yields.yieldsIf (Or.inl ⟨by rfl, fun w => by go_simp⟩)) DV.out ?_
              try simp only [Act.put, List.getElem_toArray, List.getElem_cons_zero, List.getElem_cons_succ, List.setIfInBounds_toArray, List.set_cons_zero, List.set_cons_succ]
              refine wpAnyH_take (i := 3) (v := .agg #[.slice ax nx kx, .int .i64 nwx]) rfl (by kernel_rfl) (by kernel_rfl) (by kernel_rfl) (fun _ _ _ h => h) (Or.inl ⟨by rfl, fun w9 h9 => by have h1 : w9.cell? ⟨b, 0, none⟩ = some (.slice ao n c) := (K8.out.keep h9).cell rfl; have h2 : w9.cell? ⟨b, 1, none⟩ = some (.int .i64 now) := (K8.out.keep h9).cell rfl; have h3 := cell_keep HC0.out h9; have h4 := cell_keep HC1.out h9; go_simp⟩) DV.out ?_
              try simp only [Act.put, List.getElem_toArray, List.getElem_cons_zero, List.getElem_cons_succ, List.setIfInBounds_toArray, List.set_cons_zero, List.set_cons_succ]
              refine wpAnyH_all (rs := [4]) (by kernel_rfl) (by simp) (AllH.cons rfl (fun K hK => ?_) AllH.nil)
              go_simp
              refine (C14.out V9 D0.out).mono ?_
              rintro e u1x ⟨rfl, hbb⟩
              have R1 : Hid (Below wr.heap.size wr u1x) := bT D0.out hbb
              have S1 : Hid (Below V9.heap.size V9 u1x) := bT (DV.out) hbb
              clear hbb
              dsimp only
              refine hK _ _ ⟨S1.out, ?_⟩
              clear hK K
              try simp only [Act.put, List.getElem_toArray, List.getElem_cons_zero, List.getElem_cons_succ, List.setIfInBounds_toArray, List.set_cons_zero, List.set_cons_succ]
              refine wpAnyH_take (i := 5) (v := .bool false) rfl (by kernel_rfl) (by kernel_rfl) (by kernel_rfl) (fun _ _ _ h => h) (Yields.yieldsIf (Or.inl ⟨by rfl, fun w => by go_simp⟩)) S1.out ?_
              try simp only [Act.put, List.getElem_toArray, List.getElem_cons_zero, List.getElem_cons_succ, List.setIfInBounds_toArray, List.set_cons_zero, List.set_cons_succ]
              refine wpAnyH_take (i := 6) (v := .bool false) rfl (by kernel_rfl) (by kernel_rfl) (by kernel_rfl) (fun _ _ _ h => h) (Yields.yieldsIf (Or.inl ⟨by rfl, fun w => by go_simp⟩)) S1.out ?_
              try simp only [Act.put, List.getElem_toArray, List.getElem_cons_zero, List.getElem_cons_succ, List.setIfInBounds_toArray, List.set_cons_zero, List.set_cons_succ]
              refine wpAnyH_take (i := 7) (v := undef) rfl (by kernel_rfl) (by kernel_rfl) (by kernel_rfl) (fun _ _ _ h => h) (Or.inr ⟨by rfl, rfl⟩) S1.out ?_
              try simp only [Act.put, List.getElem_toArray, List.getElem_cons_zero, List.getElem_cons_succ, List.setIfInBounds_toArray, List.set_cons_zero, List.set_cons_succ]
              refine wpAnyH_take (i := 8) (v := undef) rfl (by kernel_rfl) (by kernel_rfl) (by kernel_rfl) (fun _ _ _ h => h) (Or.inr ⟨by rfl, rfl⟩) S1.out ?_
              try simp only [Act.put, List.getElem_toArray, List.getElem_cons_zero, List.getElem_cons_succ, List.setIfInBounds_toArray, List.set_cons_zero, List.set_cons_succ]
              refine wpAnyH_take (i := 9) (v := .bool false) rfl (by kernel_rfl) (by kernel_rfl) (by kernel_rfl) (fun _ _ _ h => h) (Yields.yieldsIf (Or.inl ⟨by rfl, fun w => by go_simp⟩)) S1.out ?_
              try simp only [Act.put, List.getElem_toArray, List.getElem_cons_zero, List.getElem_cons_succ, List.setIfInBounds_toArray, List.set_cons_zero, List.set_cons_succ]
              refine wpAnyH_take (i := 10) (v := .bool false) rfl (by kernel_rfl) (by kernel_rfl) (by kernel_rfl) (fun _ _ _ h => h) (Yields.yieldsIf (Or.inl ⟨by rfl, fun w => by go_simp⟩)) S1.out ?_
              try simp only [Act.put, List.getElem_toArray, List.getElem_cons_zero, List.getElem_cons_succ, List.setIfInBounds_toArray, List.set_cons_zero, List.set_cons_succ]
              refine wpAnyH_take (i := 11) (v := undef) rfl (by kernel_rfl) (by kernel_rfl) (by kernel_rfl) (fun _ _ _ h => h) (Or.inr ⟨by rfl, rfl⟩) S1.out ?_
              try simp only [Act.put, List.getElem_toArray, List.getElem_cons_zero, List.getElem_cons_succ, List.setIfInBounds_toArray, List.set_cons_zero, List.set_cons_succ]
              refine wpAnyH_take (i := 12) (v := undef) rfl (by kernel_rfl) (by kernel_rfl) (by kernel_rfl) (fun _ _ _ h => h) (Or.inr ⟨by rfl, rfl⟩) S1.out ?_
              try simp only [Act.put, List.getElem_toArray, List.getElem_cons_zero, List.getElem_cons_succ, List.setIfInBounds_toArray, List.set_cons_zero, List.set_cons_succ]
              refine wpAnyH_take (i := 13) (v := .bool false) rfl (by kernel_rfl) (by kernel_rfl) (by kernel_rfl) (fun _ _ _ h => h) (Yields.yieldsIf (Or.inl ⟨by rfl, fun w => by go_simp⟩)) S1.out ?_
              try simp only [Act.put, List.getElem_toArray, List.getElem_cons_zero, List.getElem_cons_succ, List.setIfInBounds_toArray, List.set_cons_zero, List.set_cons_succ]
              refine wpAnyH_take (i := 14) (v := .bool false) rfl (by kernel_rfl) (by kernel_rfl) (by kernel_rfl) (fun _ _ _ h => h) (Yields.yieldsIf (Or.inl ⟨by rfl, fun w => by go_simp⟩)) S1.out ?_
              try simp only [Act.put, List.getElem_toArray, List.getElem_cons_zero, List.getElem_cons_succ, List.setIfInBounds_toArray, List.set_cons_zero, List.set_cons_succ]
              refine wpAnyH_take (i := 15) (v := .slice (some ⟨P, 0, none⟩) 4 4) rfl (by kernel_rfl) (by kernel_rfl) (by kernel_rfl) (fun _ _ _ h => h) (Yields.yieldsIf (Or.inl ⟨by rfl, fun w => by go_simp⟩)) S1.out ?_
              try simp only [Act.put, List.getElem_toArray, List.getElem_cons_zero, List.getElem_cons_succ, List.setIfInBounds_toArray, List.set_cons_zero, List.set_cons_succ]
              refine wpAnyH_take (i := 16) (v := .int .i64 (i : Int)) rfl (by kernel_rfl) (by kernel_rfl) (by kernel_rfl) (fun _ _ _ h => h) (Yields.yieldsIf (Or.inl ⟨by rfl, fun w => by go_simp⟩)) S1.out ?_
              try simp only [Act.put, List.getElem_toArray, List.getElem_cons_zero, List.getElem_cons_succ, List.setIfInBounds_toArray, List.set_cons_zero, List.set_cons_succ]
              refine wpAnyH_take (i := 17) (v := .pointer (some ⟨P, i * 2, none⟩)) rfl (by kernel_rfl) (by kernel_rfl) (by kernel_rfl) (fun _ _ _ h => h) (Yields.yieldsIf (Or.inl ⟨by rfl, fun w => by go_simp⟩)) S1.out ?_
              try simp only [Act.put, List.getElem_toArray, List.getElem_cons_zero, List.getElem_cons_succ, List.setIfInBounds_toArray, List.set_cons_zero, List.set_cons_succ]
              refine wpAnyH_take (i := 18) (v := .pointer (some ⟨P, i * 2, none⟩)) rfl (by kernel_rfl) (by kernel_rfl) (by kernel_rfl) (fun _ _ _ h => h) (Yields.yieldsIf (Or.inl ⟨by rfl, fun w => by go_simp⟩)) S1.out ?_
              try simp only [Act.put, List.getElem_toArray, List.getElem_cons_zero, List.getElem_cons_succ, List.setIfInBounds_toArray, List.set_cons_zero, List.set_cons_succ]
              refine wpAnyH_take (i := 19) (v := .slice ax nx kx) rfl (by kernel_rfl) (by kernel_rfl) (by kernel_rfl) (fun _ _ _ h => h) (Or.inl ⟨by rfl, fun w9 h9 => by have h1 : w9.cell? ⟨b, 0, none⟩ = some (.slice ao n c) := (K8.out.keep h9).cell rfl; have h2 : w9.cell? ⟨b, 1, none⟩ = some (.int .i64 now) := (K8.out.keep h9).cell rfl; have h3 := cell_keep HC0.out h9; have h4 := cell_keep HC1.out h9; go_simp⟩) S1.out ?_
              try simp only [Act.put, List.getElem_toArray, List.getElem_cons_zero, List.getElem_cons_succ, List.setIfInBounds_toArray, List.set_cons_zero, List.set_cons_succ]
              refine wpAnyH_take (i := 20) (v := .int .i64 ((nx : Nat) : Int)) rfl (by kernel_rfl) (by kernel_rfl) (by kernel_rfl) (fun _ _ _ h => h) (Yields.yieldsIf (Or.inl ⟨by rfl, fun w => by go_simp⟩)) S1.out ?_
              try simp only [Act.put, List.getElem_toArray, List.getElem_cons_zero, List.getElem_cons_succ, List.setIfInBounds_toArray, List.set_cons_zero, List.set_cons_succ]
              refine wpAnyH_take (i := 21) (v := .pointer (some ⟨b, 0, none⟩)) rfl (by kernel_rfl) (by kernel_rfl) (by kernel_rfl) (fun _ _ _ h => h) (Yields.yieldsIf (Or.inl ⟨by rfl, fun w => by go_simp⟩)) S1.out ?_
              try simp only [Act.put, List.getElem_toArray, List.getElem_cons_zero, List.getElem_cons_succ, List.setIfInBounds_toArray, List.set_cons_zero, List.set_cons_succ]
              refine wpAnyH_take (i := 22) (v := .slice ao n c) rfl (by kernel_rfl) (by kernel_rfl) (by kernel_rfl) (fun _ _ _ h => h) (Or.inl ⟨by rfl, fun w9 h9 => by have h1 : w9.cell? ⟨b, 0, none⟩ = some (.slice ao n c) := (K8.out.keep h9).cell rfl; have h2 : w9.cell? ⟨b, 1, none⟩ = some (.int .i64 now) := (K8.out.keep h9).cell rfl; have h3 := cell_keep HC0.out h9; have h4 := cell_keep HC1.out h9; go_simp⟩) S1.out ?_
              try simp only [Act.put, List.getElem_toArray, List.getElem_cons_zero, List.getElem_cons_succ, List.setIfInBounds_toArray, List.set_cons_zero, List.set_cons_succ]
              refine wpAnyH_take (i := 23) (v := .int .i64 ((n : Nat) : Int)) rfl (by kernel_rfl) (by kernel_rfl) (by kernel_rfl) (fun _ _ _ h => h) (Yields.yieldsIf (Or.inl ⟨by rfl, fun w => by go_simp⟩)) S1.out ?_
              try simp only [Act.put, List.getElem_toArray, List.getElem_cons_zero, List.getElem_cons_succ, List.setIfInBounds_toArray, List.set_cons_zero, List.set_cons_succ]
              refine wpAnyH_take (i := 24) (v := .bool false) rfl (by kernel_rfl) (by kernel_rfl) (by kernel_rfl) (fun _ _ _ h => h) (Yields.yieldsIf (Or.inl ⟨by rfl, fun w => by go_simp⟩)) S1.out ?_
              try simp only [Act.put, List.getElem_toArray, List.getElem_cons_zero, List.getElem_cons_succ, List.setIfInBounds_toArray, List.set_cons_zero, List.set_cons_succ]
              refine wpAnyH_take (i := 25) (v := .bool false) rfl (by kernel_rfl) (by kernel_rfl) (by kernel_rfl) (fun _ _ _ h => h) (Yields.yieldsIf (Or.inl ⟨by rfl, fun w => by go_simp⟩)) S1.out ?_
              try simp only [Act.put, List.getElem_toArray, List.getElem_cons_zero, List.getElem_cons_succ, List.setIfInBounds_toArray, List.set_cons_zero, List.set_cons_succ]
              refine wpAnyH_take (i := 26) (v := .bool false) rfl (by kernel_rfl) (by kernel_rfl) (by kernel_rfl) (fun _ _ _ h => h) (Yields.yieldsIf (Or.inl ⟨by rfl, fun w => by go_simp⟩)) S1.out ?_
              try simp only [Act.put, List.getElem_toArray, List.getElem_cons_zero, List.getElem_cons_succ, List.setIfInBounds_toArray, List.set_cons_zero, List.set_cons_succ]
              refine wpAnyH_take (i := 27) (v := .slice (some ⟨P, 0, none⟩) 4 4) rfl (by kernel_rfl) (by kernel_rfl) (by kernel_rfl) (fun _ _ _ h => h) (Yields.yieldsIf (Or.inl ⟨by rfl, fun w => by go_simp⟩)) S1.out ?_
              try simp only [Act.put, List.getElem_toArray, List.getElem_cons_zero, List.getElem_cons_succ, List.setIfInBounds_toArray, List.set_cons_zero, List.set_cons_succ]
              refine wpAnyH_take (i := 28) (v := .int .i64 (i : Int)) rfl (by kernel_rfl) (by kernel_rfl) (by kernel_rfl) (fun _ _ _ h => h) (Yields.yieldsIf (Or.inl ⟨by rfl, fun w => by go_simp⟩)) S1.out ?_
              try simp only [Act.put, List.getElem_toArray, List.getElem_cons_zero, List.getElem_cons_succ, List.setIfInBounds_toArray, List.set_cons_zero, List.set_cons_succ]
              refine wpAnyH_take (i := 29) (v := .pointer (some ⟨P, i * 2, none⟩)) rfl (by kernel_rfl) (by kernel_rfl) (by kernel_rfl) (fun _ _ _ h => h) (Yields.yieldsIf (Or.inl ⟨by rfl, fun w => by go_simp⟩)) S1.out ?_
              try simp only [Act.put, List.getElem_toArray, List.getElem_cons_zero, List.getElem_cons_succ, List.setIfInBounds_toArray, List.set_cons_zero, List.set_cons_succ]
              refine wpAnyH_take (i := 30) (v := .pointer (some ⟨P, i * 2, none⟩)) rfl (by kernel_rfl) (by kernel_rfl) (by kernel_rfl) (fun _ _ _ h => h) (Yields.yieldsIf (Or.inl ⟨by rfl, fun w => by go_simp⟩)) S1.out ?_
              try simp only [Act.put, List.getElem_toArray, List.getElem_cons_zero, List.getElem_cons_succ, List.setIfInBounds_toArray, List.set_cons_zero, List.set_cons_succ]
              refine wpAnyH_take (i := 31) (v := .slice ax nx kx) rfl (by kernel_rfl) (by kernel_rfl) (by kernel_rfl) (fun _ _ _ h => h) (Or.inl ⟨by rfl, fun w9 h9 => by have h1 : w9.cell? ⟨b, 0, none⟩ = some (.slice ao n c) := (K8.out.keep h9).cell rfl; have h2 : w9.cell? ⟨b, 1, none⟩ = some (.int .i64 now) := (K8.out.keep h9).cell rfl; have h3 := cell_keep HC0.out h9; have h4 := cell_keep HC1.out h9; go_simp⟩) S1.out ?_
              try simp only [Act.put, List.getElem_toArray, List.getElem_cons_zero, List.getElem_cons_succ, List.setIfInBounds_toArray, List.set_cons_zero, List.set_cons_succ]
              refine wpAnyH_take (i := 32) (v := .int .i64 ((nx : Nat) : Int)) rfl (by kernel_rfl) (by kernel_rfl) (by kernel_rfl) (fun _ _ _ h => h) (Yields.yieldsIf (Or.inl ⟨by rfl, fun w => by go_simp⟩)) S1.out ?_
              try simp only [Act.put, List.getElem_toArray, List.getElem_cons_zero, List.getElem_cons_succ, List.setIfInBounds_toArray, List.set_cons_zero, List.set_cons_succ]
              refine wpAnyH_take (i := 33) (v := .pointer (some ⟨b, 0, none⟩)) rfl (by kernel_rfl) (by kernel_rfl) (by kernel_rfl) (fun _ _ _ h => h) (Yields.yieldsIf (Or.inl ⟨by rfl, fun w => by go_simp⟩)) S1.out ?_
              try simp only [Act.put, List.getElem_toArray, List.getElem_cons_zero, List.getElem_cons_succ, List.setIfInBounds_toArray, List.set_cons_zero, List.set_cons_succ]
              refine wpAnyH_take (i := 34) (v := .slice ao n c) rfl (by kernel_rfl) (by kernel_rfl) (by kernel_rfl) (fun _ _ _ h => h) (Or.inl ⟨by rfl, fun w9 h9 => by have h1 : w9.cell? ⟨b, 0, none⟩ = some (.slice ao n c) := (K8.out.keep h9).cell rfl; have h2 : w9.cell? ⟨b, 1, none⟩ = some (.int .i64 now) := (K8.out.keep h9).cell rfl; have h3 := cell_keep HC0.out h9; have h4 := cell_keep HC1.out h9; go_simp⟩) S1.out ?_
              try simp only [Act.put, List.getElem_toArray, List.getElem_cons_zero, List.getElem_cons_succ, List.setIfInBounds_toArray, List.set_cons_zero, List.set_cons_succ]
              refine wpAnyH_take (i := 35) (v := .int .i64 ((n : Nat) : Int)) rfl (by kernel_rfl) (by kernel_rfl) (by kernel_rfl) (fun _ _ _ h => h) (Yields.yieldsIf (Or.inl ⟨by rfl, fun w => by go_simp⟩)) S1.out ?_
              try simp only [Act.put, List.getElem_toArray, List.getElem_cons_zero, List.getElem_cons_succ, List.setIfInBounds_toArray, List.set_cons_zero, List.set_cons_succ]
              refine wpAnyH_take (i := 36) (v := .int .i64 ((n + 1 : Nat) : Int)) rfl (by kernel_rfl) (by kernel_rfl) (by kernel_rfl) (fun _ _ _ h => h) (Yields.yieldsIf (Or.inl ⟨by rfl, fun w => by go_simp⟩)) S1.out ?_
              try simp only [Act.put, List.getElem_toArray, List.getElem_cons_zero, List.getElem_cons_succ, List.setIfInBounds_toArray, List.set_cons_zero, List.set_cons_succ]
              refine wpAnyH_take (i := 37) (v := .bool false) rfl (by kernel_rfl) (by kernel_rfl) (by kernel_rfl) (fun _ _ _ h => h) (Yields.yieldsIf (Or.inl ⟨by rfl, fun w => by go_simp⟩)) S1.out ?_
              try simp only [Act.put, List.getElem_toArray, List.getElem_cons_zero, List.getElem_cons_succ, List.setIfInBounds_toArray, List.set_cons_zero, List.set_cons_succ]
              refine wpAnyH_take (i := 38) (v := .bool false) rfl (by kernel_rfl) (by kernel_rfl) (by kernel_rfl) (fun _ _ _ h => h) (Yields.yieldsIf (Or.inl ⟨by rfl, fun w => by go_simp⟩)) S1.out ?_
              try simp only [Act.put, List.getElem_toArray, List.getElem_cons_zero, List.getElem_cons_succ, List.setIfInBounds_toArray, List.set_cons_zero, List.set_cons_succ]
              refine wpAnyH_done (by kernel_rfl) ?_ _
              go_wp2_with fail
              go_meet
              exact ⟨rfl, bT KB.out R1.out⟩
            · rw [tb_f hf] at CF
              refine wp_region_held (S := fun w' => Below wr.drew.heap.size wr.drew w') (by kernel_rfl) ?_
              change wpAnyH _ _ _ _ _ _ _ _ (World.drew _)
              generalize wr.drew = V9 at *
              refine wpAnyH_take (i := 0) (v := .slice (some ⟨P, 0, none⟩) 4 4) rfl (by kernel_rfl) (by kernel_rfl) (by kernel_rfl) (fun _ _ _ h => h) (Yields.yieldsIf (Or.inl ⟨by rfl, fun w => by go_simp⟩)) DV.out ?_
              try simp only [Act.put, List.getElem_toArray, List.getElem_cons_zero, List.getElem_cons_succ, List.setIfInBounds_toArray, List.set_cons_zero, List.set_cons_succ]
              refine wpAnyH_take (i := 1) (v := .int .i64 (i : Int)) rfl (by kernel_rfl) (by kernel_rfl) (by kernel_rfl) (fun _ _ _ h => h) (Yields.yieldsIf (Or.inl ⟨by rfl, fun w => by go_simp⟩)) DV.out ?_
              try simp only [Act.put, List.getElem_toArray, List.getElem_cons_zero, List.getElem_cons_succ, List.setIfInBounds_toArray, List.set_cons_zero, List.set_cons_succ]
              refine wpAnyH_take (i := 2) (v := .pointer (some ⟨P, i * 2, none⟩)) rfl (by kernel_rfl) (by kernel_rfl) (by kernel_rfl) (fun _ _ _ h => h) (Yields.yieldsIf (Or.inl ⟨by rfl, fun w => by go_simp⟩)) DV.out ?_
              try simp only [Act.put, List.getElem_toArray, List.getElem_cons_zero, List.getElem_cons_succ, List.setIfInBounds_toArray, List.set_cons_zero, List.set_cons_succ]
              refine wpAnyH_take (i := 3) (v := .agg #[.slice ax nx kx, .int .i64 nwx]) rfl (by kernel_rfl) (by kernel_rfl) (by kernel_rfl) (fun _ _ _ h => h) (Or.inl ⟨by rfl, fun w9 h9 => by have h1 : w9.cell? ⟨b, 0, none⟩ = some (.slice ao n c) := (K8.out.keep h9).cell rfl; have h2 : w9.cell? ⟨b, 1, none⟩ = some (.int .i64 now) := (K8.out.keep h9).cell rfl; have h3 := cell_keep HC0.out h9; have h4 := cell_keep HC1.out h9; go_simp⟩) DV.out ?_
              try simp only [Act.put, List.getElem_toArray, List.getElem_cons_zero, List.getElem_cons_succ, List.setIfInBounds_toArray, List.set_cons_zero, List.set_cons_succ]
              refine wpAnyH_all (rs := [4]) (by kernel_rfl) (by simp) (AllH.cons rfl (fun K hK => ?_) AllH.nil)
              go_simp
              refine (C14.out V9 D0.out).mono ?_
              rintro e u1x ⟨rfl, hbb⟩
              have R1 : Hid (Below wr.heap.size wr u1x) := bT D0.out hbb
              have S1 : Hid (Below V9.heap.size V9 u1x) := bT (DV.out) hbb
              clear hbb
              dsimp only
              refine hK _ _ ⟨S1.out, ?_⟩
              clear hK K
              try simp only [Act.put, List.getElem_toArray, List.getElem_cons_zero, List.getElem_cons_succ, List.setIfInBounds_toArray, List.set_cons_zero, List.set_cons_succ]
              refine wpAnyH_take (i := 5) (v := .bool true) rfl (by kernel_rfl) (by kernel_rfl) (by kernel_rfl) (fun _ _ _ h => h) (Yields.yieldsIf (Or.inl ⟨by rfl, fun w => by go_simp⟩)) S1.out ?_
              try simp only [Act.put, List.getElem_toArray, List.getElem_cons_zero, List.getElem_cons_succ, List.setIfInBounds_toArray, List.set_cons_zero, List.set_cons_succ]
              refine wpAnyH_take (i := 6) (v := .bool true) rfl (by kernel_rfl) (by kernel_rfl) (by kernel_rfl) (fun _ _ _ h => h) (Yields.yieldsIf (Or.inl ⟨by rfl, fun w => by go_simp⟩)) S1.out ?_
              try simp only [Act.put, List.getElem_toArray, List.getElem_cons_zero, List.getElem_cons_succ, List.setIfInBounds_toArray, List.set_cons_zero, List.set_cons_succ]
              refine wpAnyH_take (i := 7) (v := .agg (mk m)) rfl (by kernel_rfl) (by kernel_rfl) (by kernel_rfl) (fun _ _ _ h => h) (yi_ld ty41 rfl (.tmp 7) rfl rfl (ml m) (by rw [ml_len, hml]) (fun _ h => range_blk (M8.out.keep h))) S1.out ?_
              try simp only [Act.put, List.getElem_toArray, List.getElem_cons_zero, List.getElem_cons_succ, List.setIfInBounds_toArray, List.set_cons_zero, List.set_cons_succ]
              refine wpAnyH_all (rs := [8]) (by kernel_rfl) (by simp) (AllH.cons rfl (fun K hK => ?_) AllH.nil)
              go_simp
              refine (CF.out u1x).mono ?_
              rintro e u2x ⟨rfl, hbb⟩
              have R2 : Hid (Below wr.heap.size wr u2x) := bT R1.out hbb
              have S2 : Hid (Below V9.heap.size V9 u2x) := bT (S1.out) hbb
              clear hbb
              dsimp only
              refine hK _ _ ⟨S2.out, ?_⟩
              clear hK K
              try simp only [Act.put, List.getElem_toArray, List.getElem_cons_zero, List.getElem_cons_succ, List.setIfInBounds_toArray, List.set_cons_zero, List.set_cons_succ]
              refine wpAnyH_take (i := 9) (v := .bool false) rfl (by kernel_rfl) (by kernel_rfl) (by kernel_rfl) (fun _ _ _ h => h) (Yields.yieldsIf (Or.inl ⟨by rfl, fun w => by go_simp⟩)) S2.out ?_
              try simp only [Act.put, List.getElem_toArray, List.getElem_cons_zero, List.getElem_cons_succ, List.setIfInBounds_toArray, List.set_cons_zero, List.set_cons_succ]
              refine wpAnyH_take (i := 10) (v := .bool false) rfl (by kernel_rfl) (by kernel_rfl) (by kernel_rfl) (fun _ _ _ h => h) (Yields.yieldsIf (Or.inl ⟨by rfl, fun w => by go_simp⟩)) S2.out ?_
              try simp only [Act.put, List.getElem_toArray, List.getElem_cons_zero, List.getElem_cons_succ, List.setIfInBounds_toArray, List.set_cons_zero, List.set_cons_succ]
              refine wpAnyH_take (i := 11) (v := undef) rfl (by kernel_rfl) (by kernel_rfl) (by kernel_rfl) (fun _ _ _ h => h) (Or.inr ⟨by rfl, rfl⟩) S2.out ?_
              try simp only [Act.put, List.getElem_toArray, List.getElem_cons_zero, List.getElem_cons_succ, List.setIfInBounds_toArray, List.set_cons_zero, List.set_cons_succ]
              refine wpAnyH_take (i := 12) (v := undef) rfl (by kernel_rfl) (by kernel_rfl) (by kernel_rfl) (fun _ _ _ h => h) (Or.inr ⟨by rfl, rfl⟩) S2.out ?_
              try simp only [Act.put, List.getElem_toArray, List.getElem_cons_zero, List.getElem_cons_succ, List.setIfInBounds_toArray, List.set_cons_zero, List.set_cons_succ]
              refine wpAnyH_take (i := 13) (v := .bool false) rfl (by kernel_rfl) (by kernel_rfl) (by kernel_rfl) (fun _ _ _ h => h) (Yields.yieldsIf (Or.inl ⟨by rfl, fun w => by go_simp⟩)) S2.out ?_
              try simp only [Act.put, List.getElem_toArray, List.getElem_cons_zero, List.getElem_cons_succ, List.setIfInBounds_toArray, List.set_cons_zero, List.set_cons_succ]
              refine wpAnyH_take (i := 14) (v := .bool false) rfl (by kernel_rfl) (by kernel_rfl) (by kernel_rfl) (fun _ _ _ h => h) (Yields.yieldsIf (Or.inl ⟨by rfl, fun w => by go_simp⟩)) S2.out ?_
              try simp only [Act.put, List.getElem_toArray, List.getElem_cons_zero, List.getElem_cons_succ, List.setIfInBounds_toArray, List.set_cons_zero, List.set_cons_succ]
              refine wpAnyH_take (i := 15) (v := .slice (some ⟨P, 0, none⟩) 4 4) rfl (by kernel_rfl) (by kernel_rfl) (by kernel_rfl) (fun _ _ _ h => h) (Yields.yieldsIf (Or.inl ⟨by rfl, fun w => by go_simp⟩)) S2.out ?_
              try simp only [Act.put, List.getElem_toArray, List.getElem_cons_zero, List.getElem_cons_succ, List.setIfInBounds_toArray, List.set_cons_zero, List.set_cons_succ]
              refine wpAnyH_take (i := 16) (v := .int .i64 (i : Int)) rfl (by kernel_rfl) (by kernel_rfl) (by kernel_rfl) (fun _ _ _ h => h) (Yields.yieldsIf (Or.inl ⟨by rfl, fun w => by go_simp⟩)) S2.out ?_
              try simp only [Act.put, List.getElem_toArray, List.getElem_cons_zero, List.getElem_cons_succ, List.setIfInBounds_toArray, List.set_cons_zero, List.set_cons_succ]
              refine wpAnyH_take (i := 17) (v := .pointer (some ⟨P, i * 2, none⟩)) rfl (by kernel_rfl) (by kernel_rfl) (by kernel_rfl) (fun _ _ _ h => h) (Yields.yieldsIf (Or.inl ⟨by rfl, fun w => by go_simp⟩)) S2.out ?_
              try simp only [Act.put, List.getElem_toArray, List.getElem_cons_zero, List.getElem_cons_succ, List.setIfInBounds_toArray, List.set_cons_zero, List.set_cons_succ]
              refine wpAnyH_take (i := 18) (v := .pointer (some ⟨P, i * 2, none⟩)) rfl (by kernel_rfl) (by kernel_rfl) (by kernel_rfl) (fun _ _ _ h => h) (Yields.yieldsIf (Or.inl ⟨by rfl, fun w => by go_simp⟩)) S2.out ?_
              try simp only [Act.put, List.getElem_toArray, List.getElem_cons_zero, List.getElem_cons_succ, List.setIfInBounds_toArray, List.set_cons_zero, List.set_cons_succ]
              refine wpAnyH_take (i := 19) (v := .slice ax nx kx) rfl (by kernel_rfl) (by kernel_rfl) (by kernel_rfl) (fun _ _ _ h => h) (Or.inl ⟨by rfl, fun w9 h9 => by have h1 : w9.cell? ⟨b, 0, none⟩ = some (.slice ao n c) := (K8.out.keep h9).cell rfl; have h2 : w9.cell? ⟨b, 1, none⟩ = some (.int .i64 now) := (K8.out.keep h9).cell rfl; have h3 := cell_keep HC0.out h9; have h4 := cell_keep HC1.out h9; go_simp⟩) S2.out ?_
              try simp only [Act.put, List.getElem_toArray, List.getElem_cons_zero, List.getElem_cons_succ, List.setIfInBounds_toArray, List.set_cons_zero, List.set_cons_succ]
              refine wpAnyH_take (i := 20) (v := .int .i64 ((nx : Nat) : Int)) rfl (by kernel_rfl) (by kernel_rfl) (by kernel_rfl) (fun _ _ _ h => h) (Yields.yieldsIf (Or.inl ⟨by rfl, fun w => by go_simp⟩)) S2.out ?_
              try simp only [Act.put, List.getElem_toArray, List.getElem_cons_zero, List.getElem_cons_succ, List.setIfInBounds_toArray, List.set_cons_zero, List.set_cons_succ]
              refine wpAnyH_take (i := 21) (v := .pointer (some ⟨b, 0, none⟩)) rfl (by kernel_rfl) (by kernel_rfl) (by kernel_rfl) (fun _ _ _ h => h) (Yields.yieldsIf (Or.inl ⟨by rfl, fun w => by go_simp⟩)) S2.out ?_
              try simp only [Act.put, List.getElem_toArray, List.getElem_cons_zero, List.getElem_cons_succ, List.setIfInBounds_toArray, List.set_cons_zero, List.set_cons_succ]
              refine wpAnyH_take (i := 22) (v := .slice ao n c) rfl (by kernel_rfl) (by kernel_rfl) (by kernel_rfl) (fun _ _ _ h => h) (Or.inl ⟨by rfl, fun w9 h9 => by have h1 : w9.cell? ⟨b, 0, none⟩ = some (.slice ao n c) := (K8.out.keep h9).cell rfl; have h2 : w9.cell? ⟨b, 1, none⟩ = some (.int .i64 now) := (K8.out.keep h9).cell rfl; have h3 := cell_keep HC0.out h9; have h4 := cell_keep HC1.out h9; go_simp⟩) S2.out ?_
              try simp only [Act.put, List.getElem_toArray, List.getElem_cons_zero, List.getElem_cons_succ, List.setIfInBounds_toArray, List.set_cons_zero, List.set_cons_succ]
              refine wpAnyH_take (i := 23) (v := .int .i64 ((n : Nat) : Int)) rfl (by kernel_rfl) (by kernel_rfl) (by kernel_rfl) (fun _ _ _ h => h) (Yields.yieldsIf (Or.inl ⟨by rfl, fun w => by go_simp⟩)) S2.out ?_
              try simp only [Act.put, List.getElem_toArray, List.getElem_cons_zero, List.getElem_cons_succ, List.setIfInBounds_toArray, List.set_cons_zero, List.set_cons_succ]
              refine wpAnyH_take (i := 24) (v := .bool false) rfl (by kernel_rfl) (by kernel_rfl) (by kernel_rfl) (fun _ _ _ h => h) (Yields.yieldsIf (Or.inl ⟨by rfl, fun w => by go_simp⟩)) S2.out ?_
              try simp only [Act.put, List.getElem_toArray, List.getElem_cons_zero, List.getElem_cons_succ, List.setIfInBounds_toArray, List.set_cons_zero, List.set_cons_succ]
              refine wpAnyH_take (i := 25) (v := .bool false) rfl (by kernel_rfl) (by kernel_rfl) (by kernel_rfl) (fun _ _ _ h => h) (Yields.yieldsIf (Or.inl ⟨by rfl, fun w => by go_simp⟩)) S2.out ?_
              try simp only [Act.put, List.getElem_toArray, List.getElem_cons_zero, List.getElem_cons_succ, List.setIfInBounds_toArray, List.set_cons_zero, List.set_cons_succ]
              refine wpAnyH_take (i := 26) (v := .bool false) rfl (by kernel_rfl) (by kernel_rfl) (by kernel_rfl) (fun _ _ _ h => h) (Yields.yieldsIf (Or.inl ⟨by rfl, fun w => by go_simp⟩)) S2.out ?_
              try simp only [Act.put, List.getElem_toArray, List.getElem_cons_zero, List.getElem_cons_succ, List.setIfInBounds_toArray, List.set_cons_zero, List.set_cons_succ]
              refine wpAnyH_take (i := 27) (v := .slice (some ⟨P, 0, none⟩) 4 4) rfl (by kernel_rfl) (by kernel_rfl) (by kernel_rfl) (fun _ _ _ h => h) (Yields.yieldsIf (Or.inl ⟨by rfl, fun w => by go_simp⟩)) S2.out ?_
              try simp only [Act.put, List.getElem_toArray, List.getElem_cons_zero, List.getElem_cons_succ, List.setIfInBounds_toArray, List.set_cons_zero, List.set_cons_succ]
              refine wpAnyH_take (i := 28) (v := .int .i64 (i : Int)) rfl (by kernel_rfl) (by kernel_rfl) (by kernel_rfl) (fun _ _ _ h => h) (Yields.yieldsIf (Or.inl ⟨by rfl, fun w => by go_simp⟩)) S2.out ?_
              try simp only [Act.put, List.getElem_toArray, List.getElem_cons_zero, List.getElem_cons_succ, List.setIfInBounds_toArray, List.set_cons_zero, List.set_cons_succ]
              refine wpAnyH_take (i := 29) (v := .pointer (some ⟨P, i * 2, none⟩)) rfl (by kernel_rfl) (by kernel_rfl) (by kernel_rfl) (fun _ _ _ h => h) (Yields.yieldsIf (Or.inl ⟨by rfl, fun w => by go_simp⟩)) S2.out ?_
              try simp only [Act.put, List.getElem_toArray, List.getElem_cons_zero, List.getElem_cons_succ, List.setIfInBounds_toArray, List.set_cons_zero, List.set_cons_succ]
              refine wpAnyH_take (i := 30) (v := .pointer (some ⟨P, i * 2, none⟩)) rfl (by kernel_rfl) (by kernel_rfl) (by kernel_rfl) (fun _ _ _ h => h) (Yields.yieldsIf (Or.inl ⟨by rfl, fun w => by go_simp⟩)) S2.out ?_
              try simp only [Act.put, List.getElem_toArray, List.getElem_cons_zero, List.getElem_cons_succ, List.setIfInBounds_toArray, List.set_cons_zero, List.set_cons_succ]
              refine wpAnyH_take (i := 31) (v := .slice ax nx kx) rfl (by kernel_rfl) (by kernel_rfl) (by kernel_rfl) (fun _ _ _ h => h) (Or.inl ⟨by rfl, fun w9 h9 => by have h1 : w9.cell? ⟨b, 0, none⟩ = some (.slice ao n c) := (K8.out.keep h9).cell rfl; have h2 : w9.cell? ⟨b, 1, none⟩ = some (.int .i64 now) := (K8.out.keep h9).cell rfl; have h3 := cell_keep HC0.out h9; have h4 := cell_keep HC1.out h9; go_simp⟩) S2.out ?_
              try simp only [Act.put, List.getElem_toArray, List.getElem_cons_zero, List.getElem_cons_succ, List.setIfInBounds_toArray, List.set_cons_zero, List.set_cons_succ]
              refine wpAnyH_take (i := 32) (v := .int .i64 ((nx : Nat) : Int)) rfl (by kernel_rfl) (by kernel_rfl) (by kernel_rfl) (fun _ _ _ h => h) (Yields.yieldsIf (Or.inl ⟨by rfl, fun w => by go_simp⟩)) S2.out ?_
              try simp only [Act.put, List.getElem_toArray, List.getElem_cons_zero, List.getElem_cons_succ, List.setIfInBounds_toArray, List.set_cons_zero, List.set_cons_succ]
              refine wpAnyH_take (i := 33) (v := .pointer (some ⟨b, 0, none⟩)) rfl (by kernel_rfl) (by kernel_rfl) (by kernel_rfl) (fun _ _ _ h => h) (Yields.yieldsIf (Or.inl ⟨by rfl, fun w => by go_simp⟩)) S2.out ?_
              try simp only [Act.put, List.getElem_toArray, List.getElem_cons_zero, List.getElem_cons_succ, List.setIfInBounds_toArray, List.set_cons_zero, List.set_cons_succ]
              refine wpAnyH_take (i := 34) (v := .slice ao n c) rfl (by kernel_rfl) (by kernel_rfl) (by kernel_rfl) (fun _ _ _ h => h) (Or.inl ⟨by rfl, fun w9 h9 => by have h1 : w9.cell? ⟨b, 0, none⟩ = some (.slice ao n c) := (K8.out.keep h9).cell rfl; have h2 : w9.cell? ⟨b, 1, none⟩ = some (.int .i64 now) := (K8.out.keep h9).cell rfl; have h3 := cell_keep HC0.out h9; have h4 := cell_keep HC1.out h9; go_simp⟩) S2.out ?_
              try simp only [Act.put, List.getElem_toArray, List.getElem_cons_zero, List.getElem_cons_succ, List.setIfInBounds_toArray, List.set_cons_zero, List.set_cons_succ]
              refine wpAnyH_take (i := 35) (v := .int .i64 ((n : Nat) : Int)) rfl (by kernel_rfl) (by kernel_rfl) (by kernel_rfl) (fun _ _ _ h => h) (Yields.yieldsIf (Or.inl ⟨by rfl, fun w => by go_simp⟩)) S2.out ?_
              try simp only [Act.put, List.getElem_toArray, List.getElem_cons_zero, List.getElem_cons_succ, List.setIfInBounds_toArray, List.set_cons_zero, List.set_cons_succ]
              refine wpAnyH_take (i := 36) (v := .int .i64 ((n + 1 : Nat) : Int)) rfl (by kernel_rfl) (by kernel_rfl) (by kernel_rfl) (fun _ _ _ h => h) (Yields.yieldsIf (Or.inl ⟨by rfl, fun w => by go_simp⟩)) S2.out ?_
              try simp only [Act.put, List.getElem_toArray, List.getElem_cons_zero, List.getElem_cons_succ, List.setIfInBounds_toArray, List.set_cons_zero, List.set_cons_succ]
              refine wpAnyH_take (i := 37) (v := .bool false) rfl (by kernel_rfl) (by kernel_rfl) (by kernel_rfl) (fun _ _ _ h => h) (Yields.yieldsIf (Or.inl ⟨by rfl, fun w => by go_simp⟩)) S2.out ?_
              try simp only [Act.put, List.getElem_toArray, List.getElem_cons_zero, List.getElem_cons_succ, List.setIfInBounds_toArray, List.set_cons_zero, List.set_cons_succ]
              refine wpAnyH_take (i := 38) (v := .bool false) rfl (by kernel_rfl) (by kernel_rfl) (by kernel_rfl) (fun _ _ _ h => h) (Yields.yieldsIf (Or.inl ⟨by rfl, fun w => by go_simp⟩)) S2.out ?_
              try simp only [Act.put, List.getElem_toArray, List.getElem_cons_zero, List.getElem_cons_succ, List.setIfInBounds_toArray, List.set_cons_zero, List.set_cons_succ]
              refine wpAnyH_done (by kernel_rfl) ?_ _
              go_wp2_with fail
              go_meet
              exact ⟨rfl, bT KB.out R2.out⟩
            · rw [tb_t hf] at CF
              rw [ha] at C32
              refine wp_region_held (S := fun w' => Below wr.drew.heap.size wr.drew w') (by kernel_rfl) ?_
              change wpAnyH _ _ _ _ _ _ _ _ (World.drew _)
              generalize wr.drew = V9 at *
              refine wpAnyH_take (i := 0) (v := .slice (some ⟨P, 0, none⟩) 4 4) rfl (by kernel_rfl) (by kernel_rfl) (by kernel_rfl) (fun _ _ _ h => h) (Yields.yieldsIf (Or.inl ⟨by rfl, fun w => by go_simp⟩)) DV.out ?_
              try simp only [Act.put, List.getElem_toArray, List.getElem_cons_zero, List.getElem_cons_succ, List.setIfInBounds_toArray, List.set_cons_zero, List.set_cons_succ]
              refine wpAnyH_take (i := 1) (v := .int .i64 (i : Int)) rfl (by kernel_rfl) (by kernel_rfl) (by kernel_rfl) (fun _ _ _ h => h) (Yields.yieldsIf (Or.inl ⟨by rfl, fun w => by go_simp⟩)) DV.out ?_
              try simp only [Act.put, List.getElem_toArray, List.getElem_cons_zero, List.getElem_cons_succ, List.setIfInBounds_toArray, List.set_cons_zero, List.set_cons_succ]
              refine wpAnyH_take (i := 2) (v := .pointer (some ⟨P, i * 2, none⟩)) rfl (by kernel_rfl) (by kernel_rfl) (by kernel_rfl) (fun _ _ _ h => h) (Yields.yieldsIf (Or.inl ⟨by rfl, fun w => by go_simp⟩)) DV.out ?_
              try simp only [Act.put, List.getElem_toArray, List.getElem_cons_zero, List.getElem_cons_succ, List.setIfInBounds_toArray, List.set_cons_zero, List.set_cons_succ]
              refine wpAnyH_take (i := 3) (v := .agg #[.slice ax nx kx, .int .i64 nwx]) rfl (by kernel_rfl) (by kernel_rfl) (by kernel_rfl) (fun _ _ _ h => h) (Or.inl ⟨by rfl, fun w9 h9 => by have h1 : w9.cell? ⟨b, 0, none⟩ = some (.slice ao n c) := (K8.out.keep h9).cell rfl; have h2 : w9.cell? ⟨b, 1, none⟩ = some (.int .i64 now) := (K8.out.keep h9).cell rfl; have h3 := cell_keep HC0.out h9; have h4 := cell_keep HC1.out h9; go_simp⟩) DV.out ?_
              try simp only [Act.put, List.getElem_toArray, List.getElem_cons_zero, List.getElem_cons_succ, List.setIfInBounds_toArray, List.set_cons_zero, List.set_cons_succ]
              refine wpAnyH_all (rs := [4]) (by kernel_rfl) (by simp) (AllH.cons rfl (fun K hK => ?_) AllH.nil)
              go_simp
              refine (C14.out V9 D0.out).mono ?_
              rintro e u1x ⟨rfl, hbb⟩
              have R1 : Hid (Below wr.heap.size wr u1x) := bT D0.out hbb
              have S1 : Hid (Below V9.heap.size V9 u1x) := bT (DV.out) hbb
              clear hbb
              dsimp only
              refine hK _ _ ⟨S1.out, ?_⟩
              clear hK K
              try simp only [Act.put, List.getElem_toArray, List.getElem_cons_zero, List.getElem_cons_succ, List.setIfInBounds_toArray, List.set_cons_zero, List.set_cons_succ]
              refine wpAnyH_take (i := 5) (v := .bool true) rfl (by kernel_rfl) (by kernel_rfl) (by kernel_rfl) (fun _ _ _ h => h) (Yields.yieldsIf (Or.inl ⟨by rfl, fun w => by go_simp⟩)) S1.out ?_
              try simp only [Act.put, List.getElem_toArray, List.getElem_cons_zero, List.getElem_cons_succ, List.setIfInBounds_toArray, List.set_cons_zero, List.set_cons_succ]
              refine wpAnyH_take (i := 6) (v := .bool true) rfl (by kernel_rfl) (by kernel_rfl) (by kernel_rfl) (fun _ _ _ h => h) (Yields.yieldsIf (Or.inl ⟨by rfl, fun w => by go_simp⟩)) S1.out ?_
              try simp only [Act.put, List.getElem_toArray, List.getElem_cons_zero, List.getElem_cons_succ, List.setIfInBounds_toArray, List.set_cons_zero, List.set_cons_succ]
              refine wpAnyH_take (i := 7) (v := .agg (mk m)) rfl (by kernel_rfl) (by kernel_rfl) (by kernel_rfl) (fun _ _ _ h => h) (yi_ld ty41 rfl (.tmp 7) rfl rfl (ml m) (by rw [ml_len, hml]) (fun _ h => range_blk (M8.out.keep h))) S1.out ?_
              try simp only [Act.put, List.getElem_toArray, List.getElem_cons_zero, List.getElem_cons_succ, List.setIfInBounds_toArray, List.set_cons_zero, List.set_cons_succ]
              refine wpAnyH_all (rs := [8]) (by kernel_rfl) (by simp) (AllH.cons rfl (fun K hK => ?_) AllH.nil)
              go_simp
              refine (CF.out u1x).mono ?_
              rintro e u2x ⟨rfl, hbb⟩
              have R2 : Hid (Below wr.heap.size wr u2x) := bT R1.out hbb
              have S2 : Hid (Below V9.heap.size V9 u2x) := bT (S1.out) hbb
              clear hbb
              dsimp only
              refine hK _ _ ⟨S2.out, ?_⟩
              clear hK K
              try simp only [Act.put, List.getElem_toArray, List.getElem_cons_zero, List.getElem_cons_succ, List.setIfInBounds_toArray, List.set_cons_zero, List.set_cons_succ]
              refine wpAnyH_take (i := 9) (v := .bool true) rfl (by kernel_rfl) (by kernel_rfl) (by kernel_rfl) (fun _ _ _ h => h) (Yields.yieldsIf (Or.inl ⟨by rfl, fun w => by go_simp⟩)) S2.out ?_
              try simp only [Act.put, List.getElem_toArray, List.getElem_cons_zero, List.getElem_cons_succ, List.setIfInBounds_toArray, List.set_cons_zero, List.set_cons_succ]
              refine wpAnyH_take (i := 10) (v := .bool true) rfl (by kernel_rfl) (by kernel_rfl) (by kernel_rfl) (fun _ _ _ h => h) (Yields.yieldsIf (Or.inl ⟨by rfl, fun w => by go_simp⟩)) S2.out ?_
              try simp only [Act.put, List.getElem_toArray, List.getElem_cons_zero, List.getElem_cons_succ, List.setIfInBounds_toArray, List.set_cons_zero, List.set_cons_succ]
              refine wpAnyH_take (i := 11) (v := .agg #[.slice ao n c, .int .i64 now]) rfl (by kernel_rfl) (by kernel_rfl) (by kernel_rfl) (fun _ _ _ h => h) (Or.inl ⟨by rfl, fun w9 h9 => by have h1 : w9.cell? ⟨b, 0, none⟩ = some (.slice ao n c) := (K8.out.keep h9).cell rfl; have h2 : w9.cell? ⟨b, 1, none⟩ = some (.int .i64 now) := (K8.out.keep h9).cell rfl; have h3 := cell_keep HC0.out h9; have h4 := cell_keep HC1.out h9; go_simp⟩) S2.out ?_
              try simp only [Act.put, List.getElem_toArray, List.getElem_cons_zero, List.getElem_cons_succ, List.setIfInBounds_toArray, List.set_cons_zero, List.set_cons_succ]
              refine wpAnyH_all (rs := [12]) (by kernel_rfl) (by simp) (AllH.cons rfl (fun K hK => ?_) AllH.nil)
              go_simp
              refine (C32.out u2x (bT L8.out R2.out)).mono ?_
              rintro e u3x ⟨rfl, hbb⟩
              have R3 : Hid (Below wr.heap.size wr u3x) := bT R2.out hbb
              have S3 : Hid (Below V9.heap.size V9 u3x) := bT (S2.out) hbb
              clear hbb
              dsimp only
              refine hK _ _ ⟨S3.out, ?_⟩
              clear hK K
              try simp only [Act.put, List.getElem_toArray, List.getElem_cons_zero, List.getElem_cons_succ, List.setIfInBounds_toArray, List.set_cons_zero, List.set_cons_succ]
              refine wpAnyH_take (i := 13) (v := .bool false) rfl (by kernel_rfl) (by kernel_rfl) (by kernel_rfl) (fun _ _ _ h => h) (Yields.yieldsIf (Or.inl ⟨by rfl, fun w => by go_simp⟩)) S3.out ?_
              try simp only [Act.put, List.getElem_toArray, List.getElem_cons_zero, List.getElem_cons_succ, List.setIfInBounds_toArray, List.set_cons_zero, List.set_cons_succ]
              refine wpAnyH_take (i := 14) (v := .bool false) rfl (by kernel_rfl) (by kernel_rfl) (by kernel_rfl) (fun _ _ _ h => h) (Yields.yieldsIf (Or.inl ⟨by rfl, fun w => by go_simp⟩)) S3.out ?_
              try simp only [Act.put, List.getElem_toArray, List.getElem_cons_zero, List.getElem_cons_succ, List.setIfInBounds_toArray, List.set_cons_zero, List.set_cons_succ]
              refine wpAnyH_take (i := 15) (v := .slice (some ⟨P, 0, none⟩) 4 4) rfl (by kernel_rfl) (by kernel_rfl) (by kernel_rfl) (fun _ _ _ h => h) (Yields.yieldsIf (Or.inl ⟨by rfl, fun w => by go_simp⟩)) S3.out ?_
              try simp only [Act.put, List.getElem_toArray, List.getElem_cons_zero, List.getElem_cons_succ, List.setIfInBounds_toArray, List.set_cons_zero, List.set_cons_succ]
              refine wpAnyH_take (i := 16) (v := .int .i64 (i : Int)) rfl (by kernel_rfl) (by kernel_rfl) (by kernel_rfl) (fun _ _ _ h => h) (Yields.yieldsIf (Or.inl ⟨by rfl, fun w => by go_simp⟩)) S3.out ?_
              try simp only [Act.put, List.getElem_toArray, List.getElem_cons_zero, List.getElem_cons_succ, List.setIfInBounds_toArray, List.set_cons_zero, List.set_cons_succ]
              refine wpAnyH_take (i := 17) (v := .pointer (some ⟨P, i * 2, none⟩)) rfl (by kernel_rfl) (by kernel_rfl) (by kernel_rfl) (fun _ _ _ h => h) (Yields.yieldsIf (Or.inl ⟨by rfl, fun w => by go_simp⟩)) S3.out ?_
              try simp only [Act.put, List.getElem_toArray, List.getElem_cons_zero, List.getElem_cons_succ, List.setIfInBounds_toArray, List.set_cons_zero, List.set_cons_succ]
              refine wpAnyH_take (i := 18) (v := .pointer (some ⟨P, i * 2, none⟩)) rfl (by kernel_rfl) (by kernel_rfl) (by kernel_rfl) (fun _ _ _ h => h) (Yields.yieldsIf (Or.inl ⟨by rfl, fun w => by go_simp⟩)) S3.out ?_
              try simp only [Act.put, List.getElem_toArray, List.getElem_cons_zero, List.getElem_cons_succ, List.setIfInBounds_toArray, List.set_cons_zero, List.set_cons_succ]
              refine wpAnyH_take (i := 19) (v := .slice ax nx kx) rfl (by kernel_rfl) (by kernel_rfl) (by kernel_rfl) (fun _ _ _ h => h) (Or.inl ⟨by rfl, fun w9 h9 => by have h1 : w9.cell? ⟨b, 0, none⟩ = some (.slice ao n c) := (K8.out.keep h9).cell rfl; have h2 : w9.cell? ⟨b, 1, none⟩ = some (.int .i64 now) := (K8.out.keep h9).cell rfl; have h3 := cell_keep HC0.out h9; have h4 := cell_keep HC1.out h9; go_simp⟩) S3.out ?_
              try simp only [Act.put, List.getElem_toArray, List.getElem_cons_zero, List.getElem_cons_succ, List.setIfInBounds_toArray, List.set_cons_zero, List.set_cons_succ]
              refine wpAnyH_take (i := 20) (v := .int .i64 ((nx : Nat) : Int)) rfl (by kernel_rfl) (by kernel_rfl) (by kernel_rfl) (fun _ _ _ h => h) (Yields.yieldsIf (Or.inl ⟨by rfl, fun w => by go_simp⟩)) S3.out ?_
              try simp only [Act.put, List.getElem_toArray, List.getElem_cons_zero, List.getElem_cons_succ, List.setIfInBounds_toArray, List.set_cons_zero, List.set_cons_succ]
              refine wpAnyH_take (i := 21) (v := .pointer (some ⟨b, 0, none⟩)) rfl (by kernel_rfl) (by kernel_rfl) (by kernel_rfl) (fun _ _ _ h => h) (Yields.yieldsIf (Or.inl ⟨by rfl, fun w => by go_simp⟩)) S3.out ?_
              try simp only [Act.put, List.getElem_toArray, List.getElem_cons_zero, List.getElem_cons_succ, List.setIfInBounds_toArray, List.set_cons_zero, List.set_cons_succ]
              refine wpAnyH_take (i := 22) (v := .slice ao n c) rfl (by kernel_rfl) (by kernel_rfl) (by kernel_rfl) (fun _ _ _ h => h) (Or.inl ⟨by rfl, fun w9 h9 => by have h1 : w9.cell? ⟨b, 0, none⟩ = some (.slice ao n c) := (K8.out.keep h9).cell rfl; have h2 : w9.cell? ⟨b, 1, none⟩ = some (.int .i64 now) := (K8.out.keep h9).cell rfl; have h3 := cell_keep HC0.out h9; have h4 := cell_keep HC1.out h9; go_simp⟩) S3.out ?_
              try simp only [Act.put, List.getElem_toArray, List.getElem_cons_zero, List.getElem_cons_succ, List.setIfInBounds_toArray, List.set_cons_zero, List.set_cons_succ]
              refine wpAnyH_take (i := 23) (v := .int .i64 ((n : Nat) : Int)) rfl (by kernel_rfl) (by kernel_rfl) (by kernel_rfl) (fun _ _ _ h => h) (Yields.yieldsIf (Or.inl ⟨by rfl, fun w => by go_simp⟩)) S3.out ?_
              try simp only [Act.put, List.getElem_toArray, List.getElem_cons_zero, List.getElem_cons_succ, List.setIfInBounds_toArray, List.set_cons_zero, List.set_cons_succ]
              refine wpAnyH_take (i := 24) (v := .bool false) rfl (by kernel_rfl) (by kernel_rfl) (by kernel_rfl) (fun _ _ _ h => h) (Yields.yieldsIf (Or.inl ⟨by rfl, fun w => by go_simp⟩)) S3.out ?_
              try simp only [Act.put, List.getElem_toArray, List.getElem_cons_zero, List.getElem_cons_succ, List.setIfInBounds_toArray, List.set_cons_zero, List.set_cons_succ]
              refine wpAnyH_take (i := 25) (v := .bool false) rfl (by kernel_rfl) (by kernel_rfl) (by kernel_rfl) (fun _ _ _ h => h) (Yields.yieldsIf (Or.inl ⟨by rfl, fun w => by go_simp⟩)) S3.out ?_
              try simp only [Act.put, List.getElem_toArray, List.getElem_cons_zero, List.getElem_cons_succ, List.setIfInBounds_toArray, List.set_cons_zero, List.set_cons_succ]
              refine wpAnyH_take (i := 26) (v := .bool false) rfl (by kernel_rfl) (by kernel_rfl) (by kernel_rfl) (fun _ _ _ h => h) (Yields.yieldsIf (Or.inl ⟨by rfl, fun w => by go_simp⟩)) S3.out ?_
              try simp only [Act.put, List.getElem_toArray, List.getElem_cons_zero, List.getElem_cons_succ, List.setIfInBounds_toArray, List.set_cons_zero, List.set_cons_succ]
              refine wpAnyH_take (i := 27) (v := .slice (some ⟨P, 0, none⟩) 4 4) rfl (by kernel_rfl) (by kernel_rfl) (by kernel_rfl) (fun _ _ _ h => h) (Yields.yieldsIf (Or.inl ⟨by rfl, fun w => by go_simp⟩)) S3.out ?_
              try simp only [Act.put, List.getElem_toArray, List.getElem_cons_zero, List.getElem_cons_succ, List.setIfInBounds_toArray, List.set_cons_zero, List.set_cons_succ]
              refine wpAnyH_take (i := 28) (v := .int .i64 (i : Int)) rfl (by kernel_rfl) (by kernel_rfl) (by kernel_rfl) (fun _ _ _ h => h) (Yields.yieldsIf (Or.inl ⟨by rfl, fun w => by go_simp⟩)) S3.out ?_
              try simp only [Act.put, List.getElem_toArray, List.getElem_cons_zero, List.getElem_cons_succ, List.setIfInBounds_toArray, List.set_cons_zero, List.set_cons_succ]
              refine wpAnyH_take (i := 29) (v := .pointer (some ⟨P, i * 2, none⟩)) rfl (by kernel_rfl) (by kernel_rfl) (by kernel_rfl) (fun _ _ _ h => h) (Yields.yieldsIf (Or.inl ⟨by rfl, fun w => by go_simp⟩)) S3.out ?_
              try simp only [Act.put, List.getElem_toArray, List.getElem_cons_zero, List.getElem_cons_succ, List.setIfInBounds_toArray, List.set_cons_zero, List.set_cons_succ]
              refine wpAnyH_take (i := 30) (v := .pointer (some ⟨P, i * 2, none⟩)) rfl (by kernel_rfl) (by kernel_rfl) (by kernel_rfl) (fun _ _ _ h => h) (Yields.yieldsIf (Or.inl ⟨by rfl, fun w => by go_simp⟩)) S3.out ?_
              try simp only [Act.put, List.getElem_toArray, List.getElem_cons_zero, List.getElem_cons_succ, List.setIfInBounds_toArray, List.set_cons_zero, List.set_cons_succ]
              refine wpAnyH_take (i := 31) (v := .slice ax nx kx) rfl (by kernel_rfl) (by kernel_rfl) (by kernel_rfl) (fun _ _ _ h => h) (Or.inl ⟨by rfl, fun w9 h9 => by have h1 : w9.cell? ⟨b, 0, none⟩ = some (.slice ao n c) := (K8.out.keep h9).cell rfl; have h2 : w9.cell? ⟨b, 1, none⟩ = some (.int .i64 now) := (K8.out.keep h9).cell rfl; have h3 := cell_keep HC0.out h9; have h4 := cell_keep HC1.out h9; go_simp⟩) S3.out ?_
              try simp only [Act.put, List.getElem_toArray, List.getElem_cons_zero, List.getElem_cons_succ, List.setIfInBounds_toArray, List.set_cons_zero, List.set_cons_succ]
              refine wpAnyH_take (i := 32) (v := .int .i64 ((nx : Nat) : Int)) rfl (by kernel_rfl) (by kernel_rfl) (by kernel_rfl) (fun _ _ _ h => h) (Yields.yieldsIf (Or.inl ⟨by rfl, fun w => by go_simp⟩)) S3.out ?_
              try simp only [Act.put, List.getElem_toArray, List.getElem_cons_zero, List.getElem_cons_succ, List.setIfInBounds_toArray, List.set_cons_zero, List.set_cons_succ]
              refine wpAnyH_take (i := 33) (v := .pointer (some ⟨b, 0, none⟩)) rfl (by kernel_rfl) (by kernel_rfl) (by kernel_rfl) (fun _ _ _ h => h) (Yields.yieldsIf (Or.inl ⟨by rfl, fun w => by go_simp⟩)) S3.out ?_
              try simp only [Act.put, List.getElem_toArray, List.getElem_cons_zero, List.getElem_cons_succ, List.setIfInBounds_toArray, List.set_cons_zero, List.set_cons_succ]
              refine wpAnyH_take (i := 34) (v := .slice ao n c) rfl (by kernel_rfl) (by kernel_rfl) (by kernel_rfl) (fun _ _ _ h => h) (Or.inl ⟨by rfl, fun w9 h9 => by have h1 : w9.cell? ⟨b, 0, none⟩ = some (.slice ao n c) := (K8.out.keep h9).cell rfl; have h2 : w9.cell? ⟨b, 1, none⟩ = some (.int .i64 now) := (K8.out.keep h9).cell rfl; have h3 := cell_keep HC0.out h9; have h4 := cell_keep HC1.out h9; go_simp⟩) S3.out ?_
              try simp only [Act.put, List.getElem_toArray, List.getElem_cons_zero, List.getElem_cons_succ, List.setIfInBounds_toArray, List.set_cons_zero, List.set_cons_succ]
              refine wpAnyH_take (i := 35) (v := .int .i64 ((n : Nat) : Int)) rfl (by kernel_rfl) (by kernel_rfl) (by kernel_rfl) (fun _ _ _ h => h) (Yields.yieldsIf (Or.inl ⟨by rfl, fun w => by go_simp⟩)) S3.out ?_
              try simp only [Act.put, List.getElem_toArray, List.getElem_cons_zero, List.getElem_cons_succ, List.setIfInBounds_toArray, List.set_cons_zero, List.set_cons_succ]
              refine wpAnyH_take (i := 36) (v := .int .i64 ((n + 1 : Nat) : Int)) rfl (by kernel_rfl) (by kernel_rfl) (by kernel_rfl) (fun _ _ _ h => h) (Yields.yieldsIf (Or.inl ⟨by rfl, fun w => by go_simp⟩)) S3.out ?_
              try simp only [Act.put, List.getElem_toArray, List.getElem_cons_zero, List.getElem_cons_succ, List.setIfInBounds_toArray, List.set_cons_zero, List.set_cons_succ]
              refine wpAnyH_take (i := 37) (v := .bool false) rfl (by kernel_rfl) (by kernel_rfl) (by kernel_rfl) (fun _ _ _ h => h) (Yields.yieldsIf (Or.inl ⟨by rfl, fun w => by go_simp⟩)) S3.out ?_
              try simp only [Act.put, List.getElem_toArray, List.getElem_cons_zero, List.getElem_cons_succ, List.setIfInBounds_toArray, List.set_cons_zero, List.set_cons_succ]
              refine wpAnyH_take (i := 38) (v := .bool false) rfl (by kernel_rfl) (by kernel_rfl) (by kernel_rfl) (fun _ _ _ h => h) (Yields.yieldsIf (Or.inl ⟨by rfl, fun w => by go_simp⟩)) S3.out ?_
              try simp only [Act.put, List.getElem_toArray, List.getElem_cons_zero, List.getElem_cons_succ, List.setIfInBounds_toArray, List.set_cons_zero, List.set_cons_succ]
              refine wpAnyH_done (by kernel_rfl) ?_ _
              go_wp2_with fail
              go_meet
              exact ⟨rfl, bT KB.out R3.out⟩
          case rest =>
            obtain ⟨rfl, KC⟩ := hcut
            have a4 : wc.cell? ⟨b, 0, none⟩ = some (.slice ao n c) := (K13.out.keep KC.out).cell rfl
            clear HZ3 C14 CF hl1 hl2 hl3 hwn K8 M8 HC0 HC1 DV
            go_wp2_with fail
            clear a4
            go_loopg [24] n (fun m x24 wx => ∃ j : Nat, x24 = .int .i64 (j : Int) ∧ j + m = n ∧ Hid (Below w13.heap.size w13 wx))
            case atStart => exact ⟨0, rfl, by omega, KC.out⟩
            case round =>
              obtain ⟨j, rfl, hjm, KD⟩ := hrel
              obtain ⟨go2, hgo2⟩ : ∃ g, g = gk - 1 := ⟨_, rfl⟩
              have a4 : wr.cell? ⟨b, 0, none⟩ = some (.slice ao n c) := (K13.out.keep KD.out).cell rfl
              by_cases hj : j < n
              · have hj' : (j : Int) < (n : Int) := by omega
                have hj0 : (0 : Int) ≤ (j : Int) := by omega
                have hjx : (j : Int) < (nx : Int) := by have := HLx.out; omega
                have hw9 : IntKind.i64.wrap ((j : Int) + 1) = ((j + 1 : Nat) : Int) := by rw [IntKind.wrap_i64]; have := HN9.out; omega
                obtain ⟨r, hr⟩ : ∃ r, G[j]? = some r := ⟨_, List.getElem?_eq_getElem (by have := HN.out; omega)⟩
                obtain ⟨s, hs⟩ : ∃ s, Hx[j]? = some s := ⟨_, List.getElem?_eq_getElem (by have := XO.out.l; have := HLx.out; dsimp only at *; omega)⟩
                have hsk : sk s.d = sk r.d := by
                  have := STA.out.sk j (by rw [HLD.out]; exact hj)
                  rwa [map_at hs, map_at hr] at this
                have hp1 : s.par = r.par := congrArg Prod.fst hsk
                have hp3 : s.cur = r.cur := congrArg (fun x => x.2.2) hsk
                have hp2 : s.E.map Er.d = r.E.map Er.d := congrArg (fun (x : Int × List Ed × Int) => x.2.1) hsk
                have HP2 : Hid (r.E.map Er.d = s.E.map Er.d) := hp2.symm
                clear hp2
                have hzr := HG.out.nds j r hr
                have hzs := XT.out.g.nds j s hs
                have LW : Hid (Below w.heap.size w wr) := bT L13.out KD.out
                have LX : Hid (Below wr.heap.size wr wr.drew) := (Below.refl _ _).drew
                have HZR := Hid.mk' (hzr.keep LW.out)
                have KDw : Hid (Below w13.heap.size w13 wr.drew) := bT KD.out LX.out
                have XO2 : Hid (Nz wr s) := hzs.keep KD.out
                obtain ⟨g, o, rfl, hnc⟩ := HG.out.at hr
                obtain ⟨g2, o2, hax, hnc2⟩ := XT.out.g.at hs
                dsimp only at hax
                subst hax
                have HC1 : Hid (wr.drew.rangeAt g (o + j * 58) r.cs) := range_keep hnc.all (bT LW.out LX.out)
                have HC2 : Hid (wr.drew.rangeAt g2 (o2 + j * 58) s.cs) := range_keep hnc2.all KDw.out
                have hcl : r.cs.length = 58 := hzr.cl
                have hcl2 : s.cs.length = 58 := hzs.cl
                have hw5 := hzr.ww.len
                have hw6 := hzs.ww.len
                have KXd := Hid.mk' ((K13.out.keep KD.out).keep LX.out)
                have KP0 : Hid (wr.drew.cell? ⟨P, i * 2, none⟩ = some (.slice (some ⟨g2, o2, none⟩) nx kx)) := cell_keep HE13.out KDw.out
                clear hr hs hsk hzr hzs hnc hnc2
                go_upto_region 23 with fail
                go_cut [25, 26] from 169 to 182 (fun x25 x26 wx => ∃ p q, x25 = .pointer (some ⟨p, 0, none⟩) ∧ x26 = .pointer (some ⟨q, 0, none⟩) ∧ Hid (Aw2 wr.drew wx p q r s))
                case first =>
                  clear a4
                  have hz63 := HZ63.out
                  have S0 : Hid (Below wr.drew.heap.size wr.drew wr.drew) := Below.refl _ _
                  refine wp_region_held (S := fun w' => Below wr.drew.heap.size wr.drew w') (by kernel_rfl) ?_
                  change wpAnyH _ _ _ _ _ _ _ _ (World.drew _)
                  generalize wr.drew = V3 at *
                  refine wpAnyH_take (i := 0) (v := .pointer (some ⟨b, 0, none⟩)) rfl (by kernel_rfl) (by kernel_rfl) (by kernel_rfl) (fun _ _ _ h => h) (Yields.yieldsIf (Or.inl ⟨by rfl, fun w => by go_simp⟩)) S0.out ?_
                  try simp only [Act.put, List.getElem_toArray, List.getElem_cons_zero, List.getElem_cons_succ, List.setIfInBounds_toArray, List.set_cons_zero, List.set_cons_succ]
                  refine wpAnyH_take (i := 1) (v := .slice (some ⟨g, o, none⟩) n c) rfl (by kernel_rfl) (by kernel_rfl) (by kernel_rfl) (fun _ _ _ h => h) (Or.inl ⟨by rfl, fun w9 h9 => by have h5 : w9.cell? ⟨b, 0, none⟩ = some (.slice (some ⟨g, o, none⟩) n c) := (KXd.out.keep h9).cell rfl; have h6 := cell_keep KP0.out h9; go_simp⟩) S0.out ?_
                  try simp only [Act.put, List.getElem_toArray, List.getElem_cons_zero, List.getElem_cons_succ, List.setIfInBounds_toArray, List.set_cons_zero, List.set_cons_succ]
                  refine wpAnyH_take (i := 2) (v := .int .i64 (j : Int)) rfl (by kernel_rfl) (by kernel_rfl) (by kernel_rfl) (fun _ _ _ h => h) (Yields.yieldsIf (Or.inl ⟨by rfl, fun w => by go_simp⟩)) S0.out ?_
                  try simp only [Act.put, List.getElem_toArray, List.getElem_cons_zero, List.getElem_cons_succ, List.setIfInBounds_toArray, List.set_cons_zero, List.set_cons_succ]
                  refine wpAnyH_take (i := 3) (v := .pointer (some ⟨g, o + j * 58, none⟩)) rfl (by kernel_rfl) (by kernel_rfl) (by kernel_rfl) (fun _ _ _ h => h) (Yields.yieldsIf (Or.inl ⟨by rfl, fun w => by go_simp⟩)) S0.out ?_
                  try simp only [Act.put, List.getElem_toArray, List.getElem_cons_zero, List.getElem_cons_succ, List.setIfInBounds_toArray, List.set_cons_zero, List.set_cons_succ]
                  refine wpAnyH_take (i := 4) (v := .agg (nd r)) rfl (by kernel_rfl) (by kernel_rfl) (by kernel_rfl) (fun _ _ _ h => h) (yi_ld ty63 rfl (.tmp 172) rfl rfl r.cs hcl (fun _ h => range_keep HC1.out h)) S0.out ?_
                  try simp only [Act.put, List.getElem_toArray, List.getElem_cons_zero, List.getElem_cons_succ, List.setIfInBounds_toArray, List.set_cons_zero, List.set_cons_succ]
                  refine wpAnyH_take (i := 5) (v := .slice (some ⟨P, 0, none⟩) 4 4) rfl (by kernel_rfl) (by kernel_rfl) (by kernel_rfl) (fun _ _ _ h => h) (Yields.yieldsIf (Or.inl ⟨by rfl, fun w => by go_simp⟩)) S0.out ?_
                  try simp only [Act.put, List.getElem_toArray, List.getElem_cons_zero, List.getElem_cons_succ, List.setIfInBounds_toArray, List.set_cons_zero, List.set_cons_succ]
                  refine wpAnyH_take (i := 6) (v := .int .i64 (i : Int)) rfl (by kernel_rfl) (by kernel_rfl) (by kernel_rfl) (fun _ _ _ h => h) (Yields.yieldsIf (Or.inl ⟨by rfl, fun w => by go_simp⟩)) S0.out ?_
                  try simp only [Act.put, List.getElem_toArray, List.getElem_cons_zero, List.getElem_cons_succ, List.setIfInBounds_toArray, List.set_cons_zero, List.set_cons_succ]
                  refine wpAnyH_take (i := 7) (v := .pointer (some ⟨P, i * 2, none⟩)) rfl (by kernel_rfl) (by kernel_rfl) (by kernel_rfl) (fun _ _ _ h => h) (Yields.yieldsIf (Or.inl ⟨by rfl, fun w => by go_simp⟩)) S0.out ?_
                  try simp only [Act.put, List.getElem_toArray, List.getElem_cons_zero, List.getElem_cons_succ, List.setIfInBounds_toArray, List.set_cons_zero, List.set_cons_succ]
                  refine wpAnyH_take (i := 8) (v := .pointer (some ⟨P, i * 2, none⟩)) rfl (by kernel_rfl) (by kernel_rfl) (by kernel_rfl) (fun _ _ _ h => h) (Yields.yieldsIf (Or.inl ⟨by rfl, fun w => by go_simp⟩)) S0.out ?_
                  try simp only [Act.put, List.getElem_toArray, List.getElem_cons_zero, List.getElem_cons_succ, List.setIfInBounds_toArray, List.set_cons_zero, List.set_cons_succ]
                  refine wpAnyH_take (i := 9) (v := .slice (some ⟨g2, o2, none⟩) nx kx) rfl (by kernel_rfl) (by kernel_rfl) (by kernel_rfl) (fun _ _ _ h => h) (Or.inl ⟨by rfl, fun w9 h9 => by have h5 : w9.cell? ⟨b, 0, none⟩ = some (.slice (some ⟨g, o, none⟩) n c) := (KXd.out.keep h9).cell rfl; have h6 := cell_keep KP0.out h9; go_simp⟩) S0.out ?_
                  try simp only [Act.put, List.getElem_toArray, List.getElem_cons_zero, List.getElem_cons_succ, List.setIfInBounds_toArray, List.set_cons_zero, List.set_cons_succ]
                  refine wpAnyH_take (i := 10) (v := .int .i64 (j : Int)) rfl (by kernel_rfl) (by kernel_rfl) (by kernel_rfl) (fun _ _ _ h => h) (Yields.yieldsIf (Or.inl ⟨by rfl, fun w => by go_simp⟩)) S0.out ?_
                  try simp only [Act.put, List.getElem_toArray, List.getElem_cons_zero, List.getElem_cons_succ, List.setIfInBounds_toArray, List.set_cons_zero, List.set_cons_succ]
                  refine wpAnyH_take (i := 11) (v := .pointer (some ⟨g2, o2 + j * 58, none⟩)) rfl (by kernel_rfl) (by kernel_rfl) (by kernel_rfl) (fun _ _ _ h => h) (Yields.yieldsIf (Or.inl ⟨by rfl, fun w => by go_simp⟩)) S0.out ?_
                  try simp only [Act.put, List.getElem_toArray, List.getElem_cons_zero, List.getElem_cons_succ, List.setIfInBounds_toArray, List.set_cons_zero, List.set_cons_succ]
                  refine wpAnyH_take (i := 12) (v := .agg (nd s)) rfl (by kernel_rfl) (by kernel_rfl) (by kernel_rfl) (fun _ _ _ h => h) (yi_ld ty63 rfl (.tmp 180) rfl rfl s.cs hcl2 (fun _ h => range_keep HC2.out h)) S0.out ?_
                  try simp only [Act.put, List.getElem_toArray, List.getElem_cons_zero, List.getElem_cons_succ, List.setIfInBounds_toArray, List.set_cons_zero, List.set_cons_succ]
                  refine wpAnyH_all (rs := [13, 14]) (by kernel_rfl) (by simp) (AllH.cons rfl (fun K hK => ?_) (AllH.cons rfl (fun K hK => ?_) AllH.nil))
                  · skip
                    have hzz := hz63 V3
                    go_simp
                    clear hzz
                    obtain ⟨p, hp⟩ : ∃ x, V3.heap.size = x := ⟨_, rfl⟩
                    have Zp : Hid (Blk (V3.alloc (.cells (nd Z6) 63)) p 63 (nd Z6)) := by unfold Hid; rw [← hp]; exact Blk.new V3 63 _
                    have Sp : Hid (Below V3.heap.size V3 (V3.alloc (.cells (nd Z6) 63))) := bAlloc S0.out _
                    have Vp : Hid (V3.heap.size ≤ p) := by unfold Hid; rw [← hp]; exact (S0.out).size
                    rw [hp]
                    clear hp
                    generalize V3.alloc (.cells (nd Z6) 63) = wp at *
                    refine hK _ _ ⟨Sp.out, ?_⟩
                    clear hK K
                    try simp only [Act.put, List.getElem_toArray, List.getElem_cons_zero, List.getElem_cons_succ, List.setIfInBounds_toArray, List.set_cons_zero, List.set_cons_succ]
                    refine wpAnyH_all (rs := [14]) (by kernel_rfl) (by simp) (AllH.cons rfl (fun K hK => ?_) AllH.nil)
                    have hzz := hz63 wp
                    go_simp
                    clear hzz
                    obtain ⟨q, hq⟩ : ∃ x, wp.heap.size = x := ⟨_, rfl⟩
                    have Zq : Hid (Blk (wp.alloc (.cells (nd Z6) 63)) q 63 (nd Z6)) := by unfold Hid; rw [← hq]; exact Blk.new wp 63 _
                    have Sq : Hid (Below V3.heap.size V3 (wp.alloc (.cells (nd Z6) 63))) := bAlloc Sp.out _
                    have Vq : Hid (V3.heap.size ≤ q) := by unfold Hid; rw [← hq]; exact (Sp.out).size
                    rw [hq]
                    have HNE : Hid (p ≠ q) := by unfold Hid; rw [← hq]; have := Zp.out.lt; omega
                    replace Zp := Hid.mk' (Zp.out.keep (bAlloc (Below.refl _ _) (.cells (nd Z6) 63)))
                    clear hq
                    generalize wp.alloc (.cells (nd Z6) 63) = wq at *
                    refine hK _ _ ⟨Sq.out, ?_⟩
                    clear hK K
                    try simp only [Act.put, List.getElem_toArray, List.getElem_cons_zero, List.getElem_cons_succ, List.setIfInBounds_toArray, List.set_cons_zero, List.set_cons_succ]
                    refine wpAnyH_all (rs := [15]) (by kernel_rfl) (by simp) (AllH.cons rfl (fun K hK => ?_) AllH.nil)
                    have A1 : Hid (Blk (wq.setCells p 0 r.cs) p 63 (nd r)) := put_blk (old := Z6.cs) (by rw [hZ6, hcl]) Zp.out
                    have A2 : Hid (Blk (wq.setCells p 0 r.cs) q 63 (nd Z6)) := blk_setCells_off (fun e => (HNE.out) e.symm) _ _ Zq.out
                    have A3 : Hid (Below V3.heap.size V3 (wq.setCells p 0 r.cs)) := below_setCells Vp.out _ _ (Sq.out)
                    refine do_st ty63 rfl (.tmp 25) (.tmp 173) rfl rfl r.cs rfl hcl (by have := there_blk (cs := Z6.cs) Zp.out; rwa [hZ6] at this) (Nr.one _) ?_
                    generalize wq.setCells p 0 r.cs = w7 at *
                    refine hK _ _ ⟨A3.out, ?_⟩
                    clear hK K
                    try simp only [Act.put, List.getElem_toArray, List.getElem_cons_zero, List.getElem_cons_succ, List.setIfInBounds_toArray, List.set_cons_zero, List.set_cons_succ]
                    refine wpAnyH_all (rs := [16]) (by kernel_rfl) (by simp) (AllH.cons rfl (fun K hK => ?_) AllH.nil)
                    have C1 : Hid (Aw2 V3 (w7.setCells q 0 s.cs) p q r s) := ⟨blk_setCells_off (HNE.out) _ _ A1.out, put_blk (old := Z6.cs) (by rw [hZ6, hcl2]) A2.out, HNE.out, Vp.out, below_setCells Vq.out _ _ A3.out⟩
                    refine do_st ty63 rfl (.tmp 26) (.tmp 181) rfl rfl s.cs rfl hcl2 (by have := there_blk (cs := Z6.cs) A2.out; rwa [hZ6] at this) (Nr.one _) ?_
                    generalize w7.setCells q 0 s.cs = w8 at *
                    refine hK _ _ ⟨C1.out.bel, ?_⟩
                    clear hK K
                    try simp only [Act.put, List.getElem_toArray, List.getElem_cons_zero, List.getElem_cons_succ, List.setIfInBounds_toArray, List.set_cons_zero, List.set_cons_succ]
                    refine wpAnyH_done (by kernel_rfl) ?_ _
                    go_wp2_with fail
                    go_meet
                    exact ⟨p, q, rfl, rfl, C1.out⟩
                  · skip
                    have hzz := hz63 V3
                    go_simp
                    clear hzz
                    obtain ⟨q, hq⟩ : ∃ x, V3.heap.size = x := ⟨_, rfl⟩
                    have Zq : Hid (Blk (V3.alloc (.cells (nd Z6) 63)) q 63 (nd Z6)) := by unfold Hid; rw [← hq]; exact Blk.new V3 63 _
                    have Sq : Hid (Below V3.heap.size V3 (V3.alloc (.cells (nd Z6) 63))) := bAlloc S0.out _
                    have Vq : Hid (V3.heap.size ≤ q) := by unfold Hid; rw [← hq]; exact (S0.out).size
                    rw [hq]
                    clear hq
                    generalize V3.alloc (.cells (nd Z6) 63) = wq at *
                    refine hK _ _ ⟨Sq.out, ?_⟩
                    clear hK K
                    try simp only [Act.put, List.getElem_toArray, List.getElem_cons_zero, List.getElem_cons_succ, List.setIfInBounds_toArray, List.set_cons_zero, List.set_cons_succ]
                    refine wpAnyH_all (rs := [13]) (by kernel_rfl) (by simp) (AllH.cons rfl (fun K hK => ?_) AllH.nil)
                    have hzz := hz63 wq
                    go_simp
                    clear hzz
                    obtain ⟨p, hp⟩ : ∃ x, wq.heap.size = x := ⟨_, rfl⟩
                    have Zp : Hid (Blk (wq.alloc (.cells (nd Z6) 63)) p 63 (nd Z6)) := by unfold Hid; rw [← hp]; exact Blk.new wq 63 _
                    have Sp : Hid (Below V3.heap.size V3 (wq.alloc (.cells (nd Z6) 63))) := bAlloc Sq.out _
                    have Vp : Hid (V3.heap.size ≤ p) := by unfold Hid; rw [← hp]; exact (Sq.out).size
                    rw [hp]
                    have HNE : Hid (q ≠ p) := by unfold Hid; rw [← hp]; have := Zq.out.lt; omega
                    replace Zq := Hid.mk' (Zq.out.keep (bAlloc (Below.refl _ _) (.cells (nd Z6) 63)))
                    clear hp
                    generalize wq.alloc (.cells (nd Z6) 63) = wp at *
                    refine hK _ _ ⟨Sp.out, ?_⟩
                    clear hK K
                    try simp only [Act.put, List.getElem_toArray, List.getElem_cons_zero, List.getElem_cons_succ, List.setIfInBounds_toArray, List.set_cons_zero, List.set_cons_succ]
                    refine wpAnyH_all (rs := [15]) (by kernel_rfl) (by simp) (AllH.cons rfl (fun K hK => ?_) AllH.nil)
                    have A1 : Hid (Blk (wp.setCells p 0 r.cs) p 63 (nd r)) := put_blk (old := Z6.cs) (by rw [hZ6, hcl]) Zp.out
                    have A2 : Hid (Blk (wp.setCells p 0 r.cs) q 63 (nd Z6)) := blk_setCells_off (fun e => (HNE.out.symm) e.symm) _ _ Zq.out
                    have A3 : Hid (Below V3.heap.size V3 (wp.setCells p 0 r.cs)) := below_setCells Vp.out _ _ (Sp.out)
                    refine do_st ty63 rfl (.tmp 25) (.tmp 173) rfl rfl r.cs rfl hcl (by have := there_blk (cs := Z6.cs) Zp.out; rwa [hZ6] at this) (Nr.one _) ?_
                    generalize wp.setCells p 0 r.cs = w7 at *
                    refine hK _ _ ⟨A3.out, ?_⟩
                    clear hK K
                    try simp only [Act.put, List.getElem_toArray, List.getElem_cons_zero, List.getElem_cons_succ, List.setIfInBounds_toArray, List.set_cons_zero, List.set_cons_succ]
                    refine wpAnyH_all (rs := [16]) (by kernel_rfl) (by simp) (AllH.cons rfl (fun K hK => ?_) AllH.nil)
                    have C1 : Hid (Aw2 V3 (w7.setCells q 0 s.cs) p q r s) := ⟨blk_setCells_off (HNE.out.symm) _ _ A1.out, put_blk (old := Z6.cs) (by rw [hZ6, hcl2]) A2.out, HNE.out.symm, Vp.out, below_setCells Vq.out _ _ A3.out⟩
                    refine do_st ty63 rfl (.tmp 26) (.tmp 181) rfl rfl s.cs rfl hcl2 (by have := there_blk (cs := Z6.cs) A2.out; rwa [hZ6] at this) (Nr.one _) ?_
                    generalize w7.setCells q 0 s.cs = w8 at *
                    refine hK _ _ ⟨C1.out.bel, ?_⟩
                    clear hK K
                    try simp only [Act.put, List.getElem_toArray, List.getElem_cons_zero, List.getElem_cons_succ, List.setIfInBounds_toArray, List.set_cons_zero, List.set_cons_succ]
                    refine wpAnyH_done (by kernel_rfl) ?_ _
                    go_wp2_with fail
                    go_meet
                    exact ⟨p, q, rfl, rfl, C1.out⟩
                case rest =>
                  obtain ⟨p, q, rfl, rfl, KA⟩ := hcut
                  have KE : Hid (Below wr.heap.size wr wc) := bT LX.out KA.out.bel
                  have KDc : Hid (Below w13.heap.size w13 wc) := bT KD.out KE.out
                  have NB := Nb.of KA.out.a hw5
                  have NB2 := Nb.of KA.out.b hw6
                  have f0 := NB.c0
                  have f2 := NB.c2
                  have f3 := NB.c3
                  have s0 := NB2.c0
                  have s2 := NB2.c2
                  have s3 := NB2.c3
                  rw [hp1] at s0
                  rw [hp3] at s3
                  have CS := Hid.mk' (same_yes r.ea r.en r.ec r.E s.ea s.en s.ec s.E wc (HZR.out.keep KE.out).ez (XO2.out.keep KE.out).ez HZR.out.len XO2.out.len HP2.out (by have := HZR.out.big; omega))
                  obtain ⟨pa, hpa⟩ : ∃ x, r.par = x := ⟨_, rfl⟩
                  obtain ⟨cu, hcu⟩ : ∃ x, r.cur = x := ⟨_, rfl⟩
                  obtain ⟨ra, hra⟩ : ∃ x, r.ea = x := ⟨_, rfl⟩
                  obtain ⟨rn, hrn⟩ : ∃ x, r.en = x := ⟨_, rfl⟩
                  obtain ⟨rc, hrc⟩ : ∃ x, r.ec = x := ⟨_, rfl⟩
                  obtain ⟨sa, hsa⟩ : ∃ x, s.ea = x := ⟨_, rfl⟩
                  obtain ⟨sn, hsn⟩ : ∃ x, s.en = x := ⟨_, rfl⟩
                  obtain ⟨sc, hsc⟩ : ∃ x, s.ec = x := ⟨_, rfl⟩
                  rw [hpa] at f0 s0
                  rw [hcu] at f3 s3
                  rw [hra, hrn, hrc] at f2 CS
                  rw [hsa, hsn, hsc] at s2 CS
                  clear NB NB2 hpa hcu hra hrn hrc hsa hsn hsc hp1 hp3 HC1 HC2 KXd KP0 HP2 HZR XO2 LW LX KDw KA hw5 hw6 hcl hcl2 a4
                  go_wp2_with fail
                  refine CS.out.mono ?_
                  rintro e w8 ⟨rfl, hb8⟩
                  have KF := Hid.mk' (bT KDc.out hb8)
                  clear hb8 CS f0 f2 f3 s0 s2 s3
                  dsimp only
                  go_wp2
                  go_roundg go2
                  case measure => omega
                  case rel => exact ⟨j + 1, by go_num, by omega, KF.out⟩
              · have hj' : ¬ (j : Int) < (n : Int) := by omega
                go_wp2
                go_roundg go
                case measure => omega
                case rel => exact ⟨i + 1, by go_num, by omega, KD.out⟩
        · have hz1 : (zx == 0) = false := by simpa using hz
          rw [hz1] at e2
          obtain ⟨hn0, hw0⟩ := XO.out.bad hz
          dsimp only at hn0 hw0
          subst hn0 hw0
          go_wp2
          go_roundg go
          case measure => omega
          case rel => exact ⟨i + 1, by go_num, by omega, KB.out⟩
      · have hi' : ¬ (i : Int) < 4 := by omega
        go_wp2
        go_ret
        exact ⟨rfl, bT L13.out KB.out⟩
theorem groveLost_walk (ao : Option Addr) (n c : Nat) (now tt : Int) (G : List Nr) (ea : Option Addr) (en ec : Nat) (E : List Er) (cur : Int) (was made : List Int) (m : List Int) (w : World) (HG : Hid (Grz w ao G)) (hn : G.length = n) (hc : n ≤ c) (HR : Hid (Nz w ⟨now, 0, ea, en, ec, E, cur, was, made⟩)) (hm : Mw m) (hbig : ∀ d ∈ G.map Nr.d, nsum d.ed + osum d.ed + d.ed.length ≤ 1048576) (hn9 : n ≤ 1048576) :
    Calls Try.prog 7 #[.agg #[.slice ao n c, .int .i64 now], .agg (ada (.slice ea en ec) cur was made), .int .i64 tt, .agg (mk m)] w fun e w' => e = .returned (.bool true) ∧ Below w.heap.size w w' := groveLost_walk' zm rfl z50 zr rfl z63 ao n c now tt G ea en ec E cur was made m w HG hn hc HR hm hbig hn9
end Go.Proofs.Ytaahklapoppgaaa
