/- The reference's crossing: its answer, read. -/
import Derived.Test.YtaahklapoppgaaaQc02
import Derived.Test.YtaahklapoppgaaaQm34
import Derived.Test.YtaahklapoppgaaaQn02
import Derived.Test.YtaahklapoppgaaaQm36
import Derived.Test.YtaahklapoppgaaaQc00
namespace Go.Proofs.Ytaahklapoppgaaa
open Go.RowKit

set_option maxRecDepth 8000
/-- the answer, read -/
theorem crq_ok {w W : World} {s : Wk} {B k vn vc lo p : Nat} {va : Option Addr} {H : List Nr} {X : List Value} {S : List (Nat × Nat)} {F : List Er} (hg : H.map Nr.d = s.G) (he : F.map Er.d = s.E) (hst : Hst lo p W B H X S) (eds : ∃ hi, Ls p hi W (.slice va vn vc) F) (fl : F.length = vn) (mw : Mw s.m) (hk : H.length ≤ k) (l0 : w.heap.size ≤ lo) (lp : lo ≤ p) (hb : Below w.heap.size w W) :
    CrQ 0 (crW 0 s) w (.returned (.tuple #[.agg #[.slice (some ⟨B, 0, none⟩) H.length k, .int .i64 s.now], .agg (cxa (.slice va vn vc) s.cur s.m), .int .i64 0])) W := by
  rw [crW_yes]
  obtain ⟨hi, h5⟩ := eds
  have ho := h5.rs.own 0 _ rfl
  have hn : W.ownsRow p 77 3 (.slice va vn vc) vn (ecs F) := by have := ho; dsimp only at this; rwa [fl] at this
  exact ⟨_, _, _, H, va, vn, vc, F, rfl, hst.grz, rfl, hk, hg, h5.ez, fl, (own_nil hn).1, he, mw, (fun a b W' hk hb => ⟨(hst.kept hk (.inl (by omega))).grz, (h5.kept hk (.inl (by omega))).ez⟩), hb⟩
theorem nb_ne {W : World} {q B e : Nat} {cs : Array Value} {H : List Nr} {X : List Value} (h : W.heap[q]? = some (.cells cs e (0, 0))) (hr : Nrow W B H X) (he : e ≠ 63) : q ≠ B := fun e' => by
  subst e'
  unfold Nrow Blk at hr
  rw [h] at hr
  simp at hr
  exact he hr.2
end Go.Proofs.Ytaahklapoppgaaa

namespace Go.Proofs.Ytaahklapoppgaaa
open Go.RowKit

set_option maxRecDepth 8000
theorem foldU_el {q : Nat} : ∀ (U : List Nat) (s : Wk), (∀ i, (at' s.G i).ed.length ≤ q) → (U.foldl Wk.up s).E.length ≤ s.E.length + U.length * q
  | [], s, _ => by simp
  | x :: U, s, h => by
    have h1 := foldU_el U (s.up x) (fun i => by rw [ed_sk (s.up_sk x i)]; exact h i)
    have h2 : (s.up x).E.length = s.E.length + (at' s.G x).ed.length := by show (s.E ++ inv (at' s.G x).ed).length = _; rw [List.length_append, inv_length]
    have h3 := h x
    rw [List.foldl_cons, List.length_cons, Nat.add_mul]
    omega
theorem foldD_el {q : Nat} : ∀ (U : List Nat) (s : Wk), (∀ i, (at' s.G i).ed.length ≤ q) → (U.foldl Wk.down s).E.length ≤ s.E.length + U.length * q
  | [], s, _ => by simp
  | x :: U, s, h => by
    have h1 := foldD_el U (s.down x) (fun i => by rw [ed_sk (s.down_sk x i)]; exact h i)
    have h2 : (s.down x).E.length = s.E.length + (at' s.G x).ed.length := by show (s.E ++ (at' s.G x).ed).length = _; rw [List.length_append]
    have h3 := h x
    rw [List.foldl_cons, List.length_cons, Nat.add_mul]
    omega
theorem frm_blk {W W' : World} {q e B base n : Nat} {cs : Array Value} {H : List Nr} {X xs : List Value} {v : Value} (h : Blk W q e cs) (hr : Nrow W B H X) (hl : W.ownsRow base 77 3 v n xs) (hf : Frm B B v W W') (h1 : e ≠ 63) (h2 : e ≠ 77) : Blk W' q e cs := by
  have hb := h
  unfold Blk at hb ⊢
  rw [hf q h.lt (nb_ne hb hr h1) (nb_ne hb hr h1) (fun e' => by
    obtain ⟨cur, hc⟩ := own_kind hl e'
    rw [hb] at hc
    simp at hc
    exact h2 hc.2)]
  exact hb
theorem frm_own {W W' : World} {base t s n B base' n' : Nat} {xs xs' : List Value} {H : List Nr} {X : List Value} {u v : Value} (h : W.ownsRow base t s u n xs) (hr : Nrow W B H X) (hl : W.ownsRow base' 77 3 v n' xs') (hf : Frm B B v W W') (h1 : t ≠ 63) (h2 : t ≠ 77) : W'.ownsRow base t s u n xs := by
  refine own_same h fun k hk hlt => ?_
  obtain ⟨cur, hc⟩ := own_kind h hk
  have hb : Blk W k t cur := hc
  have := frm_blk hb hr hl hf h1 h2
  unfold Blk at this
  rw [this, hc]
/-- the walk of Go, in its boxes -/
structure Gx (w W : World) (ao : Option Addr) (n c : Nat) (now : Int) (m Z : List Int) (q2 q3 B k lo p : Nat) (X : List Value) (S : List (Nat × Nat)) (u1 u2 : Value) (l1 l2 : List Nat) (nw : Int) (v : Value) (cu : Int) (mm : List Int) (s : Wk) (va : Option Addr) (vn vc : Nat) (H : List Nr) (F : List Er) : Prop where
  u : U4 w W ao n c now m Z
  b2 : Blk W q2 24 #[.slice (some ⟨B, 0, none⟩) n k, .int .i64 nw]
  b3 : Blk W q3 50 (cxa v cu mm)
  r1 : W.ownsRow w.heap.size 3 1 u1 l1.length (iv l1)
  r2 : W.ownsRow w.heap.size 3 1 u2 l2.length (iv l2)
  g : H.map Nr.d = s.G
  e : F.map Er.d = s.E
  hn : H.length = n
  hst : Hst lo p W B H X S
  eds : Ls p W.heap.size W (.slice va vn vc) F
  fl : F.length = vn
  mw : Mw s.m
  l0 : w.heap.size + 1 + 1 + 1 < lo
  lp : lo ≤ p
  hk : n ≤ k
  n2 : w.heap.size + 1 + 1 + 1 < q2
  n3 : w.heap.size + 1 + 1 + 1 < q3
/-- a row of numbers, read -/
theorem row_some {W : World} {base c : Nat} {a : Option Addr} {l : List Nat} {j : Nat} (h : W.ownsRow base 3 1 (.slice a l.length c) l.length (iv l)) (hj : j < l.length) : ∃ g, a = some ⟨g, 0, none⟩ := by
  obtain ⟨g, rfl, -⟩ := own_pos h (by omega)
  exact ⟨g, rfl⟩
theorem row_at {W : World} {base g c : Nat} {l : List Nat} {j x : Nat} (h : W.ownsRow base 3 1 (.slice (some ⟨g, 0, none⟩) l.length c) l.length (iv l)) (hj : l[j]? = some x) : W.cell? ⟨g, j, none⟩ = some (.int .i64 (x : Int)) := by
  have h1 := (List.getElem?_eq_some_iff.1 hj).1
  rw [h.cellAt j (by omega)]
  simp [iv, hj]
section
variable {w W W' : World} {ao : Option Addr} {n c : Nat} {now : Int} {m Z : List Int} {q2 q3 B k lo p : Nat} {X : List Value} {S : List (Nat × Nat)} {u1 u2 : Value} {l1 l2 : List Nat} {nw : Int} {v : Value} {cu : Int} {mm : List Int} {s : Wk} {va : Option Addr} {vn vc : Nat} {H : List Nr} {F : List Er}
theorem Gx.keep (h : Gx w W ao n c now m Z q2 q3 B k lo p X S u1 u2 l1 l2 nw v cu mm s va vn vc H F) (hb : Below W.heap.size W W') : Gx w W' ao n c now m Z q2 q3 B k lo p X S u1 u2 l1 l2 nw v cu mm s va vn vc H F :=
  ⟨h.u.keep hb, h.b2.keep hb, h.b3.keep hb, own_keep h.r1 hb, own_keep h.r2 hb, h.g, h.e, h.hn, h.hst.keep hb, ls_wide (h.eds.keep hb) hb.size, h.fl, h.mw, h.l0, h.lp, h.hk, h.n2, h.n3⟩
theorem Gx.own (h : Gx w W ao n c now m Z q2 q3 B k lo p X S u1 u2 l1 l2 nw v cu mm s va vn vc H F) : W.ownsRow p 77 3 (.slice va vn vc) F.length (ecs F) := h.eds.rs.own 0 _ rfl
/-- a crossing is made; the boxes are still as they were -/
theorem Gx.cross {s' : Wk} {e : Ending} (h : Gx w W ao n c now m Z q2 q3 B k lo p X S u1 u2 l1 l2 nw v cu mm s va vn vc H F) (hx : RxP lo p W B n k X S s' (.slice va vn vc) e W') : ∃ va' vn' vc' H' F', e = .returned (.tuple #[.agg #[.slice (some ⟨B, 0, none⟩) n k, .int .i64 s'.now], .agg (cxa (.slice va' vn' vc') s'.cur s'.m)]) ∧ Gx w W' ao n c now m Z q2 q3 B k lo p X S u1 u2 l1 l2 nw v cu mm s' va' vn' vc' H' F' := by
  obtain ⟨va', vn', vc', H', F', rfl, hg, he, hh, hst, hls, hfl, hmw, hbl, hfr, -⟩ := hx
  have ho := h.own
  have hr := h.hst.row
  exact ⟨va', vn', vc', H', F', rfl, ⟨h.u.low hbl h.l0, frm_blk h.b2 hr ho hfr (by decide) (by decide), frm_blk h.b3 hr ho hfr (by decide) (by decide), frm_own h.r1 hr ho hfr (by decide) (by decide), frm_own h.r2 hr ho hfr (by decide) (by decide), hg, he, hh, hst, hls, hfl, hmw, h.l0, h.lp, h.hk, h.n2, h.n3⟩⟩
theorem Gx.put2 (h : Gx w W ao n c now m Z q2 q3 B k lo p X S u1 u2 l1 l2 nw v cu mm s va vn vc H F) (x : Int) : Gx w (W.setCells q2 0 [.slice (some ⟨B, 0, none⟩) n k, .int .i64 x]) ao n c now m Z q2 q3 B k lo p X S u1 u2 l1 l2 x v cu mm s va vn vc H F := by
  have hg : W.grownBy (W.setCells q2 0 [.slice (some ⟨B, 0, none⟩) n k, .int .i64 x]) (some q2) := grown_setCells _ _ _
  have hw : Wr 24 W (W.setCells q2 0 [.slice (some ⟨B, 0, none⟩) n k, .int .i64 x]) := wr_of h.b2 hg
  exact ⟨h.u.low (lo := q2) (Below.grown (Below.refl q2 W) hg (Nat.le_of_lt h.b2.lt) (fun j hj => by injection hj with hj; omega)) h.n2, put_blk (cs := [.slice (some ⟨B, 0, none⟩) n k, .int .i64 x]) (old := [.slice (some ⟨B, 0, none⟩) n k, .int .i64 nw]) rfl h.b2, h.b3.wr hw (by decide), own_wr h.r1 hw (by decide), own_wr h.r2 hw (by decide), h.g, h.e, h.hn, h.hst.wr hw (by decide) (by decide) (by decide), ls_wide (h.eds.wr hw (by decide) (by decide)) hg.size, h.fl, h.mw, h.l0, h.lp, h.hk, h.n2, h.n3⟩
theorem Gx.put3 {v' : Value} {cu' : Int} {mm' : List Int} (h : Gx w W ao n c now m Z q2 q3 B k lo p X S u1 u2 l1 l2 nw v cu mm s va vn vc H F) (hm : mm.length = 27) (hm' : mm'.length = 27) : Gx w (W.setCells q3 0 (cx v' cu' mm')) ao n c now m Z q2 q3 B k lo p X S u1 u2 l1 l2 nw v' cu' mm' s va vn vc H F := by
  have hg : W.grownBy (W.setCells q3 0 (cx v' cu' mm')) (some q3) := grown_setCells _ _ _
  have hw : Wr 50 W (W.setCells q3 0 (cx v' cu' mm')) := wr_of h.b3 hg
  exact ⟨h.u.low (lo := q3) (Below.grown (Below.refl q3 W) hg (Nat.le_of_lt h.b3.lt) (fun j hj => by injection hj with hj; omega)) h.n3, h.b2.wr hw (by decide), put_blk (cs := cx v' cu' mm') (old := cx v cu mm) (by rw [cx_len hm, cx_len hm']) h.b3, own_wr h.r1 hw (by decide), own_wr h.r2 hw (by decide), h.g, h.e, h.hn, h.hst.wr hw (by decide) (by decide) (by decide), ls_wide (h.eds.wr hw (by decide) (by decide)) hg.size, h.fl, h.mw, h.l0, h.lp, h.hk, h.n2, h.n3⟩
/-- what a crossing asks of the edits' lengths -/
theorem Gx.bd (h : Gx w W ao n c now m Z q2 q3 B k lo p X S u1 u2 l1 l2 nw v cu mm s va vn vc H F) (he : ∀ i, (at' s.G i).ed.length ≤ 1048576) (hE : s.E.length ≤ 8194 * 1048576) : ∀ r ∈ H, (vn + r.en) * 56 ≤ 140737488355328 := fun r hr => by
  obtain ⟨i, hi⟩ := List.getElem?_of_mem hr
  have h1 := he i
  rw [← h.g, map_at hi] at h1
  have h2 := (h.hst.gow.nz hi).len
  have h3 : r.d.ed.length = r.E.length := by show (r.E.map Er.d).length = _; rw [List.length_map]
  have h4 := congrArg List.length h.e
  rw [List.length_map, h.fl] at h4
  omega
end
set_option maxHeartbeats 32000000 in
set_option linter.unusedSimpArgs false in
theorem rgo_walk (Z : List Int) (HZm : Hid (zm = Z)) (hZl : Z.length = 27) (HZ50 : Hid (∀ w, (zeroValue 50).run Try.prog w = .ok (.agg (cxa (.slice none 0 0) 0 Z)) w)) (HB50 : Hid (∀ w, (Instr.build 50 #[]).run Try.prog w = .ok (.agg (cxa (.slice none 0 0) 0 Z)) w)) (ao : Option Addr) (n c : Nat) (now tt : Int) (G : List Nr) (m : List Int) (w : World) (HG : Hid (Grz w ao G)) (hn : G.length = n) (hm : Mw m) (hbig : Hid (∀ i, (at' (G.map Nr.d) i).ed.length ≤ 1048576))
    (CXU : Hid (∀ (lo p B n k i : Nat) (now : Int) (va : Option Addr) (vn vc : Nat) (cur : Int) (m : List Int) (H : List Nr) (X : List Value) (S : List (Nat × Nat)) (F : List Er) (s : Wk) (W : World), Hst lo p W B H X S → Ls p W.heap.size W (.slice va vn vc) F → F.length = vn → H.length = n → Mw m → StI s H F now cur m → i < n → (∀ r ∈ H, (vn + r.en) * 56 ≤ 140737488355328) → Calls Try.prog 56 #[.agg #[.slice (some ⟨B, 0, none⟩) n k, .int .i64 now], .int .i64 (i : Int), .bool true, .agg (cxa (.slice va vn vc) cur m)] W fun e w' => RxP lo p W B n k X S (s.up i) (.slice va vn vc) e w'))
    (CXD : Hid (∀ (lo p B n k i : Nat) (now : Int) (va : Option Addr) (vn vc : Nat) (cur : Int) (m : List Int) (H : List Nr) (X : List Value) (S : List (Nat × Nat)) (F : List Er) (s : Wk) (W : World) (k0 : Nat), Hst lo p W B H X S → Ls p W.heap.size W (.slice va vn vc) F → F.length = vn → H.length = n → Mw m → StI s H F now cur m → i < n → (∀ r ∈ H, (vn + r.en) * 56 ≤ 140737488355328) → k0 < n → k0 ≠ i → (∀ r, H[i]? = some r → r.par = (k0 : Int)) → Calls Try.prog 56 #[.agg #[.slice (some ⟨B, 0, none⟩) n k, .int .i64 now], .int .i64 (i : Int), .bool false, .agg (cxa (.slice va vn vc) cur m)] W fun e w' => RxP lo p W B n k X S (s.down i) (.slice va vn vc) e w')) :
    Calls Try.prog 23 #[.agg #[.slice ao n c, .int .i64 now], .int .i64 tt, .agg (mk m)] w fun e w' => CrQ (goE (G.map Nr.d) now tt m) (crW (goE (G.map Nr.d) now tt m) ((Wk.new (G.map Nr.d) now m).go (pathU (G.map Nr.d) now.toNat tt.toNat) (pathD (G.map Nr.d) now.toNat tt.toNat))) w e w' := by
  have hml := hm.len
  have HN := mkH hn
  have HMw := mkH hm
  have C14 : Hid (∀ W, Below w.heap.size w W → Calls Try.prog 14 #[.agg #[.slice ao n c, .int .i64 now]] W fun e w' => e = .returned (.int .i64 (ti (Right (G.map Nr.d) now) 0 180)) ∧ Below W.heap.size W w') := fun W hW => rcheck_any ao n c now G W (HG.out.keep hW) hn
  have C55 : Hid (∀ W, Calls Try.prog 55 #[.agg (mk m)] W fun e w' => e = .returned (.bool (tb (MOk m))) ∧ Below W.heap.size W w') := fun W => rmarks_any m hml W
  have C15 : Hid (∀ W, Below w.heap.size w W → Calls Try.prog 15 #[.agg #[.slice ao n c, .int .i64 now], .int .i64 now, .int .i64 tt] W fun e w' => PathQ (ptU (G.map Nr.d) now now tt) (ptD (G.map Nr.d) now now tt) (ptE (G.map Nr.d) now now tt) W e w') := fun W hW => rpath_any ao n c now now tt G W (HG.out.keep hW) hn
  have C36 : Hid (n ≤ 1000000 → ∀ W, Below w.heap.size w W → Calls Try.prog 36 #[.agg #[.slice ao n c, .int .i64 now]] W fun e w' => RcP (G.map Nr.d) now W e w') := fun h9 W hW => rcopy_any ao n c now G W (HG.out.keep hW) hn h9
  obtain ⟨W1, hW1⟩ : ∃ x, (((w.alloc (.cells #[.slice ao n c, .int .i64 now] 24)).alloc (.cells (mk m) 41)).alloc (.cells #[.slice none 0 0, .int .i64 0] 24)).alloc (.cells (cxa (.slice none 0 0) 0 Z) 50) = x := ⟨_, rfl⟩
  have U1 : Hid (U4 w W1 ao n c now m Z) := by unfold Hid; rw [← hW1]; exact u4_new w ao n c now m Z
  have hz50 := HZ50.out
  obtain ⟨z, hz⟩ : ∃ z, goE (G.map Nr.d) now tt m = z := ⟨_, rfl⟩
  obtain ⟨S1, hS1⟩ : ∃ S, (Wk.new (G.map Nr.d) now m).go (pathU (G.map Nr.d) now.toNat tt.toNat) (pathD (G.map Nr.d) now.toNat tt.toNat) = S := ⟨_, rfl⟩
  rw [hz, hS1]
  have HZE := mkH hz
  have HS0 := mkH hS1
  clear hn hm hz hS1
  go_enter Try.func23, Try.ntmps23
  go_upto_region 1 with fail
  try rw [hW1]
  clear hW1 hz50
  have a1 : W1.cell? ⟨w.heap.size, 0, none⟩ = some (.slice ao n c) := U1.out.b1.cell rfl
  have b1 : W1.cell? ⟨w.heap.size, 1, none⟩ = some (.int .i64 now) := U1.out.b1.cell rfl
  go_wp2_with fail
  refine (C14.out W1 U1.out.bel).mono ?_
  rintro e w2 ⟨rfl, hb2⟩
  have U2 := mkH (U1.out.keep hb2)
  clear hb2 U1 a1 b1
  dsimp only
  by_cases hr : Right (G.map Nr.d) now
  case neg =>
    rw [ti_f hr]
    have hq : Hid (z = 180) := by unfold Hid; rw [← HZE.out]; unfold goE; rw [ti_f hr]
    clear hr
    go_upto_region 2 with fail
    have e30 : w2.cell? ⟨w.heap.size + 1 + 1, 0, none⟩ = some (.slice none 0 0) := U2.out.b3.cell rfl
    have e31 : w2.cell? ⟨w.heap.size + 1 + 1, 1, none⟩ = some (.int .i64 0) := U2.out.b3.cell rfl
    have f30 := U2.out.b3.frozen
    have N3 : Hid (Blk ((w2.setCell ⟨w.heap.size + 1 + 1, 0, none⟩ (.slice none 0 0)).setCell ⟨w.heap.size + 1 + 1, 1, none⟩ (.int .i64 0)) (w.heap.size + 1 + 1) 24 #[.slice none 0 0, .int .i64 0]) := set24 U2.out.b3
    have N4 : Hid (Blk ((w2.setCell ⟨w.heap.size + 1 + 1, 0, none⟩ (.slice none 0 0)).setCell ⟨w.heap.size + 1 + 1, 1, none⟩ (.int .i64 0)) (w.heap.size + 1 + 1 + 1) 50 (cxa (.slice none 0 0) 0 Z)) := (U2.out.b4.off (by omega) _).off (by omega) _
    have LB : Hid (Below w.heap.size w ((w2.setCell ⟨w.heap.size + 1 + 1, 0, none⟩ (.slice none 0 0)).setCell ⟨w.heap.size + 1 + 1, 1, none⟩ (.int .i64 0))) := (U2.out.bel.setCell (by show w.heap.size ≤ w.heap.size + 1 + 1; omega) _).setCell (by show w.heap.size ≤ w.heap.size + 1 + 1; omega) _
    have HT4 : Hid (((w2.setCell ⟨w.heap.size + 1 + 1, 0, none⟩ (.slice none 0 0)).setCell ⟨w.heap.size + 1 + 1, 1, none⟩ (.int .i64 0)).there (w.heap.size + 1 + 1 + 1) 0 29) := by have h6 := there_blk (cs := cx (.slice none 0 0) 0 Z) N4.out; rwa [cx_len hZl] at h6
    go_wp2_with (first | refine wl_bld rfl 50 _ rfl #[] (by kernel_rfl) (HB50.out _) ?_ | refine wl_st50 (B := w.heap.size + 1 + 1 + 1) (o := 0) (.tmp 7) (.tmp 20) rfl rfl rfl rfl hZl HT4.out ?_ | fail)
    clear e30 e31 f30 HT4
    generalize (w2.setCell ⟨w.heap.size + 1 + 1, 0, none⟩ (.slice none 0 0)).setCell ⟨w.heap.size + 1 + 1, 1, none⟩ (.int .i64 0) = w9 at *
    have N3b := blk_setCells_off (B := w.heap.size + 1 + 1 + 1) (by omega) (cx (.slice none 0 0) 0 Z) 0 N3.out
    have N4b := put_blk (cs := cx (.slice none 0 0) 0 Z) (old := cx (.slice none 0 0) 0 Z) rfl N4.out
    have LBb := below_setCells (B := w.heap.size + 1 + 1 + 1) (by omega) (cx (.slice none 0 0) 0 Z) 0 LB.out
    have l24 := ld24v N3b
    have l50 := ld50v hZl N4b
    refine bodyPost_ret (v := .tuple #[.agg #[.slice none 0 0, .int .i64 0], .agg (cxa (.slice none 0 0) 0 Z), .int .i64 180]) (by simp [results, Try.results23, asAddr, l24, l50]) rfl ?_
    have hZ9 := HZm.out
    subst hZ9
    rw [hq.out]
    exact CrQ.of (CrP.no (by decide) ⟨rfl, LBb⟩)
  rw [ti_t hr]
  go_upto_region 3 with fail
  go_wp2_with (first | refine wl_ld41 (B := w.heap.size + 1) (o := 0) (.tmp 5) rfl rfl rfl hml (range_blk U2.out.b2) ?_ | fail)
  refine (C55.out w2).mono ?_
  rintro e w3 ⟨rfl, hb3⟩
  have U3 := mkH (U2.out.keep hb3)
  clear hb3 U2
  dsimp only
  by_cases ho : MOk m
  case neg =>
    rw [tb_f ho]
    have hq : Hid (z = 2) := by unfold Hid; rw [← HZE.out]; unfold goE; rw [ti_t hr, ti_f ho]
    clear hr ho
    go_upto_region 4 with fail
    have e30 : w3.cell? ⟨w.heap.size + 1 + 1, 0, none⟩ = some (.slice none 0 0) := U3.out.b3.cell rfl
    have e31 : w3.cell? ⟨w.heap.size + 1 + 1, 1, none⟩ = some (.int .i64 0) := U3.out.b3.cell rfl
    have f30 := U3.out.b3.frozen
    have N3 : Hid (Blk ((w3.setCell ⟨w.heap.size + 1 + 1, 0, none⟩ (.slice none 0 0)).setCell ⟨w.heap.size + 1 + 1, 1, none⟩ (.int .i64 0)) (w.heap.size + 1 + 1) 24 #[.slice none 0 0, .int .i64 0]) := set24 U3.out.b3
    have N4 : Hid (Blk ((w3.setCell ⟨w.heap.size + 1 + 1, 0, none⟩ (.slice none 0 0)).setCell ⟨w.heap.size + 1 + 1, 1, none⟩ (.int .i64 0)) (w.heap.size + 1 + 1 + 1) 50 (cxa (.slice none 0 0) 0 Z)) := (U3.out.b4.off (by omega) _).off (by omega) _
    have LB : Hid (Below w.heap.size w ((w3.setCell ⟨w.heap.size + 1 + 1, 0, none⟩ (.slice none 0 0)).setCell ⟨w.heap.size + 1 + 1, 1, none⟩ (.int .i64 0))) := (U3.out.bel.setCell (by show w.heap.size ≤ w.heap.size + 1 + 1; omega) _).setCell (by show w.heap.size ≤ w.heap.size + 1 + 1; omega) _
    have HT4 : Hid (((w3.setCell ⟨w.heap.size + 1 + 1, 0, none⟩ (.slice none 0 0)).setCell ⟨w.heap.size + 1 + 1, 1, none⟩ (.int .i64 0)).there (w.heap.size + 1 + 1 + 1) 0 29) := by have h6 := there_blk (cs := cx (.slice none 0 0) 0 Z) N4.out; rwa [cx_len hZl] at h6
    go_wp2_with (first | refine wl_bld rfl 50 _ rfl #[] (by kernel_rfl) (HB50.out _) ?_ | refine wl_st50 (B := w.heap.size + 1 + 1 + 1) (o := 0) (.tmp 7) (.tmp 25) rfl rfl rfl rfl hZl HT4.out ?_ | fail)
    clear e30 e31 f30 HT4
    generalize (w3.setCell ⟨w.heap.size + 1 + 1, 0, none⟩ (.slice none 0 0)).setCell ⟨w.heap.size + 1 + 1, 1, none⟩ (.int .i64 0) = w9 at *
    have N3b := blk_setCells_off (B := w.heap.size + 1 + 1 + 1) (by omega) (cx (.slice none 0 0) 0 Z) 0 N3.out
    have N4b := put_blk (cs := cx (.slice none 0 0) 0 Z) (old := cx (.slice none 0 0) 0 Z) rfl N4.out
    have LBb := below_setCells (B := w.heap.size + 1 + 1 + 1) (by omega) (cx (.slice none 0 0) 0 Z) 0 LB.out
    have l24 := ld24v N3b
    have l50 := ld50v hZl N4b
    refine bodyPost_ret (v := .tuple #[.agg #[.slice none 0 0, .int .i64 0], .agg (cxa (.slice none 0 0) 0 Z), .int .i64 2]) (by simp [results, Try.results23, asAddr, l24, l50]) rfl ?_
    have hZ9 := HZm.out
    subst hZ9
    rw [hq.out]
    exact CrQ.of (CrP.no (by decide) ⟨rfl, LBb⟩)
  rw [tb_t ho]
  obtain ⟨p0, rfl⟩ : ∃ k : Nat, now = (k : Int) := ⟨now.toNat, by have := hr.sz.2; omega⟩
  have HP0 : Hid (p0 < n) := by have := hr.sz.2; rw [List.length_map, HN.out] at this; unfold Hid; omega
  have HN6 : Hid (n ≤ 1000000) := by have := hr.sz.1; rw [List.length_map, HN.out] at this; unfold Hid; omega
  have HRt := mkH hr
  have HOk := mkH ho
  by_cases h0 : tt < 0
  · have hq : Hid (z = 181) := by unfold Hid; rw [← HZE.out]; unfold goE; rw [ti_t hr, ti_t ho, ti_t h0]
    clear hr ho
    go_upto_region 6 with fail
    have e30 : w3.cell? ⟨w.heap.size + 1 + 1, 0, none⟩ = some (.slice none 0 0) := U3.out.b3.cell rfl
    have e31 : w3.cell? ⟨w.heap.size + 1 + 1, 1, none⟩ = some (.int .i64 0) := U3.out.b3.cell rfl
    have f30 := U3.out.b3.frozen
    have N3 : Hid (Blk ((w3.setCell ⟨w.heap.size + 1 + 1, 0, none⟩ (.slice none 0 0)).setCell ⟨w.heap.size + 1 + 1, 1, none⟩ (.int .i64 0)) (w.heap.size + 1 + 1) 24 #[.slice none 0 0, .int .i64 0]) := set24 U3.out.b3
    have N4 : Hid (Blk ((w3.setCell ⟨w.heap.size + 1 + 1, 0, none⟩ (.slice none 0 0)).setCell ⟨w.heap.size + 1 + 1, 1, none⟩ (.int .i64 0)) (w.heap.size + 1 + 1 + 1) 50 (cxa (.slice none 0 0) 0 Z)) := (U3.out.b4.off (by omega) _).off (by omega) _
    have LB : Hid (Below w.heap.size w ((w3.setCell ⟨w.heap.size + 1 + 1, 0, none⟩ (.slice none 0 0)).setCell ⟨w.heap.size + 1 + 1, 1, none⟩ (.int .i64 0))) := (U3.out.bel.setCell (by show w.heap.size ≤ w.heap.size + 1 + 1; omega) _).setCell (by show w.heap.size ≤ w.heap.size + 1 + 1; omega) _
    have HT4 : Hid (((w3.setCell ⟨w.heap.size + 1 + 1, 0, none⟩ (.slice none 0 0)).setCell ⟨w.heap.size + 1 + 1, 1, none⟩ (.int .i64 0)).there (w.heap.size + 1 + 1 + 1) 0 29) := by have h6 := there_blk (cs := cx (.slice none 0 0) 0 Z) N4.out; rwa [cx_len hZl] at h6
    go_wp2_with (first | refine wl_bld rfl 50 _ rfl #[] (by kernel_rfl) (HB50.out _) ?_ | refine wl_st50 (B := w.heap.size + 1 + 1 + 1) (o := 0) (.tmp 7) (.tmp 29) rfl rfl rfl rfl hZl HT4.out ?_ | fail)
    clear e30 e31 f30 HT4
    generalize (w3.setCell ⟨w.heap.size + 1 + 1, 0, none⟩ (.slice none 0 0)).setCell ⟨w.heap.size + 1 + 1, 1, none⟩ (.int .i64 0) = w9 at *
    have N3b := blk_setCells_off (B := w.heap.size + 1 + 1 + 1) (by omega) (cx (.slice none 0 0) 0 Z) 0 N3.out
    have N4b := put_blk (cs := cx (.slice none 0 0) 0 Z) (old := cx (.slice none 0 0) 0 Z) rfl N4.out
    have LBb := below_setCells (B := w.heap.size + 1 + 1 + 1) (by omega) (cx (.slice none 0 0) 0 Z) 0 LB.out
    have l24 := ld24v N3b
    have l50 := ld50v hZl N4b
    refine bodyPost_ret (v := .tuple #[.agg #[.slice none 0 0, .int .i64 0], .agg (cxa (.slice none 0 0) 0 Z), .int .i64 181]) (by simp [results, Try.results23, asAddr, l24, l50]) rfl ?_
    have hZ9 := HZm.out
    subst hZ9
    rw [hq.out]
    exact CrQ.of (CrP.no (by decide) ⟨rfl, LBb⟩)
  have a1 : w3.cell? ⟨w.heap.size, 0, none⟩ = some (.slice ao n c) := U3.out.b1.cell rfl
  have b1 : w3.cell? ⟨w.heap.size, 1, none⟩ = some (.int .i64 (p0 : Int)) := U3.out.b1.cell rfl
  have hlD : (G.map Nr.d).length = n := by rw [List.length_map, HN.out]
  by_cases h1 : (n : Int) ≤ tt
  · have hq : Hid (z = 182) := by unfold Hid; rw [← HZE.out]; unfold goE; rw [ti_t hr, ti_t ho, ti_f h0, ti_t (by rw [hlD]; exact h1)]
    clear hr ho
    go_upto_region 8 with fail
    clear a1 b1
    have e30 : w3.cell? ⟨w.heap.size + 1 + 1, 0, none⟩ = some (.slice none 0 0) := U3.out.b3.cell rfl
    have e31 : w3.cell? ⟨w.heap.size + 1 + 1, 1, none⟩ = some (.int .i64 0) := U3.out.b3.cell rfl
    have f30 := U3.out.b3.frozen
    have N3 : Hid (Blk ((w3.setCell ⟨w.heap.size + 1 + 1, 0, none⟩ (.slice none 0 0)).setCell ⟨w.heap.size + 1 + 1, 1, none⟩ (.int .i64 0)) (w.heap.size + 1 + 1) 24 #[.slice none 0 0, .int .i64 0]) := set24 U3.out.b3
    have N4 : Hid (Blk ((w3.setCell ⟨w.heap.size + 1 + 1, 0, none⟩ (.slice none 0 0)).setCell ⟨w.heap.size + 1 + 1, 1, none⟩ (.int .i64 0)) (w.heap.size + 1 + 1 + 1) 50 (cxa (.slice none 0 0) 0 Z)) := (U3.out.b4.off (by omega) _).off (by omega) _
    have LB : Hid (Below w.heap.size w ((w3.setCell ⟨w.heap.size + 1 + 1, 0, none⟩ (.slice none 0 0)).setCell ⟨w.heap.size + 1 + 1, 1, none⟩ (.int .i64 0))) := (U3.out.bel.setCell (by show w.heap.size ≤ w.heap.size + 1 + 1; omega) _).setCell (by show w.heap.size ≤ w.heap.size + 1 + 1; omega) _
    have HT4 : Hid (((w3.setCell ⟨w.heap.size + 1 + 1, 0, none⟩ (.slice none 0 0)).setCell ⟨w.heap.size + 1 + 1, 1, none⟩ (.int .i64 0)).there (w.heap.size + 1 + 1 + 1) 0 29) := by have h6 := there_blk (cs := cx (.slice none 0 0) 0 Z) N4.out; rwa [cx_len hZl] at h6
    go_wp2_with (first | refine wl_bld rfl 50 _ rfl #[] (by kernel_rfl) (HB50.out _) ?_ | refine wl_st50 (B := w.heap.size + 1 + 1 + 1) (o := 0) (.tmp 7) (.tmp 36) rfl rfl rfl rfl hZl HT4.out ?_ | fail)
    clear e30 e31 f30 HT4
    generalize (w3.setCell ⟨w.heap.size + 1 + 1, 0, none⟩ (.slice none 0 0)).setCell ⟨w.heap.size + 1 + 1, 1, none⟩ (.int .i64 0) = w9 at *
    have N3b := blk_setCells_off (B := w.heap.size + 1 + 1 + 1) (by omega) (cx (.slice none 0 0) 0 Z) 0 N3.out
    have N4b := put_blk (cs := cx (.slice none 0 0) 0 Z) (old := cx (.slice none 0 0) 0 Z) rfl N4.out
    have LBb := below_setCells (B := w.heap.size + 1 + 1 + 1) (by omega) (cx (.slice none 0 0) 0 Z) 0 LB.out
    have l24 := ld24v N3b
    have l50 := ld50v hZl N4b
    refine bodyPost_ret (v := .tuple #[.agg #[.slice none 0 0, .int .i64 0], .agg (cxa (.slice none 0 0) 0 Z), .int .i64 182]) (by simp [results, Try.results23, asAddr, l24, l50]) rfl ?_
    have hZ9 := HZm.out
    subst hZ9
    rw [hq.out]
    exact CrQ.of (CrP.no (by decide) ⟨rfl, LBb⟩)
  have hq : Hid (z = 0) := by unfold Hid; rw [← HZE.out]; unfold goE; rw [ti_t hr, ti_t ho, ti_f h0, ti_f (by rw [hlD]; exact h1)]
  obtain ⟨j0, rfl⟩ : ∃ k : Nat, tt = (k : Int) := ⟨tt.toNat, by omega⟩
  have HJ0 : Hid (j0 < n) := by unfold Hid; omega
  obtain ⟨pi1, pi2, pl1, pl2, -⟩ := path_in (i := p0) (j := j0) hr.low (by rw [hlD]; exact HP0.out) (by rw [hlD]; exact HJ0.out)
  rw [hlD] at pi1 pi2 pl1 pl2
  have eU : ptU (G.map Nr.d) (p0 : Int) (p0 : Int) (j0 : Int) = pathU (G.map Nr.d) p0 j0 := by unfold ptU; rw [tb_t ⟨hr, by rw [hlD]; exact ⟨⟨by omega, by have := HP0.out; omega⟩, ⟨by omega, by have := HJ0.out; omega⟩⟩⟩, Int.toNat_natCast, Int.toNat_natCast]; rfl
  have eD : ptD (G.map Nr.d) (p0 : Int) (p0 : Int) (j0 : Int) = pathD (G.map Nr.d) p0 j0 := by unfold ptD; rw [tb_t ⟨hr, by rw [hlD]; exact ⟨⟨by omega, by have := HP0.out; omega⟩, ⟨by omega, by have := HJ0.out; omega⟩⟩⟩, Int.toNat_natCast, Int.toNat_natCast]; rfl
  have CP := C15.out w3 U3.out.bel
  rw [eU, eD] at CP
  obtain ⟨LU, hLU⟩ : ∃ x, pathU (G.map Nr.d) p0 j0 = x := ⟨_, rfl⟩
  obtain ⟨LD, hLD⟩ : ∃ x, pathD (G.map Nr.d) p0 j0 = x := ⟨_, rfl⟩
  rw [hLU, hLD] at CP
  rw [hLU] at pi1 pl1
  rw [hLD] at pi2 pl2
  have HS1 : Hid (LD.foldl Wk.down (LU.foldl Wk.up (Wk.new (G.map Nr.d) (p0 : Int) m)) = S1) := by
    have := HS0.out
    rw [Int.toNat_natCast, Int.toNat_natCast, hLU, hLD] at this
    exact this
  obtain ⟨pe, hpe⟩ : ∃ x, ptE (G.map Nr.d) (p0 : Int) (p0 : Int) (j0 : Int) = x := ⟨_, rfl⟩
  rw [hpe] at CP
  have HPI : Hid ((∀ x ∈ LU, 0 < x ∧ x < n) ∧ (∀ x ∈ LD, 0 < x ∧ x < n) ∧ LU.length ≤ 4097 ∧ LD.length ≤ 4097) := ⟨pi1, pi2, by have := hr.sz.1; omega, by have := hr.sz.1; omega⟩
  have HPar : Hid (∀ x, 0 < x → x < n → (at' (G.map Nr.d) x).par = (pr (G.map Nr.d) x : Int) ∧ pr (G.map Nr.d) x < x) := fun x h0 hx => by have := hr.par_lt h0 (by rw [hlD]; exact hx); exact ⟨this.2, this.1⟩
  clear eU eD pi1 pi2 pl1 pl2 hLU hLD hpe hr ho h0 h1 hlD C15 C14 C55
  have h2 : ¬ (j0 : Int) < 0 := by omega
  have h3 : ¬ (n : Int) ≤ (j0 : Int) := by have := HJ0.out; omega
  go_upto_region 9 with fail
  clear h2 h3
  go_wp2_with fail
  refine CP.mono ?_
  rintro e w4 ⟨ra, ca, rb, cb, rfl, hr1, hr2, hb4⟩
  have U4x := mkH (U3.out.keep hb4)
  have R1 : Hid (w4.ownsRow w.heap.size 3 1 (.slice ra LU.length ca) LU.length (iv LU)) := own_lower hr1 U3.out.bel.size
  have R2 : Hid (w4.ownsRow w.heap.size 3 1 (.slice rb LD.length cb) LD.length (iv LD)) := own_lower hr2 U3.out.bel.size
  clear hr1 hr2 hb4 CP U3 a1 b1
  dsimp only
  go_upto_region 10 with fail
  have D3 : Hid (Below w4.heap.size w4 w4.drew) := (Below.refl _ _).drew
  have UD := mkH (U4x.out.keep D3.out)
  have R1d := mkH (own_keep R1.out D3.out)
  have R2d := mkH (own_keep R2.out D3.out)
  clear D3 U4x R1 R2
  go_cut [12, 13] from 46 to 50 (fun x12 x13 wx => ∃ q2 q3 B k lo p X S H, x12 = .pointer (some ⟨q2, 0, none⟩) ∧ x13 = .pointer (some ⟨q3, 0, none⟩) ∧ Hid (Gx w wx ao n c (p0 : Int) m Z q2 q3 B k lo p X S (.slice ra LU.length ca) (.slice rb LD.length cb) LU LD (p0 : Int) (.slice none 0 0) 0 m (Wk.new (G.map Nr.d) (p0 : Int) m) none 0 0 H []))
  case first =>
    have hz50 := HZ50.out
    refine wp_region_held (S := fun w' => U4 w w' ao n c (p0 : Int) m Z) (by kernel_rfl) ?_
    change wpAnyH _ _ _ _ _ _ _ _ (World.drew _)
    generalize w4.drew = V3 at *
    refine ta 0 (.agg #[.slice ao n c, .int .i64 (p0 : Int)]) rfl (Or.inl ⟨by rfl, fun w9 h9 => by have h1 : w9.cell? ⟨w.heap.size, 0, none⟩ = some (.slice ao n c) := h9.b1.cell rfl; have h2 : w9.cell? ⟨w.heap.size, 1, none⟩ = some (.int .i64 (p0 : Int)) := h9.b1.cell rfl; go_simp⟩) UD.out ?_
    refine ta 2 (.agg (mk m)) rfl (yi_ld ty41 rfl (.tmp 5) rfl rfl (ml m) (by rw [ml_len, hml]) (fun _ h => range_blk h.b2)) UD.out ?_
    refine ta 3 (.agg (cxa (.slice none 0 0) 0 m)) rfl (yi_bld rfl 50 _ rfl #[(2, .agg (mk m))] (by kernel_rfl) (fun w => b50a w hml)) UD.out ?_
    try simp only [Act.put, jj1, jj2, jj3, jj4, jj5, jj6]
    refine wpAnyH_all (rs := [1, 4, 5]) (by kernel_rfl) (by simp) (AllH.cons rfl (fun K hK => ?_) (AllH.cons rfl (fun K hK => ?_) (AllH.cons rfl (fun K hK => ?_) AllH.nil)))
    · skip
      go_simp
      refine (C36.out HN6.out V3 UD.out.bel).mono ?_
      rintro e wc1 ⟨v1, H1, Sx, rfl, hG, hrow, hbc⟩
      obtain ⟨lo, hlo⟩ : ∃ x, V3.heap.size = x := ⟨_, rfl⟩
      obtain ⟨p, hp⟩ : ∃ x, wc1.heap.size = x := ⟨_, rfl⟩
      have HLO : Hid (w.heap.size + 1 + 1 + 1 < lo ∧ lo ≤ p) := ⟨by rw [← hlo]; exact UD.out.b4.lt, by rw [← hlo, ← hp]; exact hbc.size⟩
      have hH1 : H1.length = n := by have := congrArg List.length hG; rw [List.length_map, List.length_map, HN.out] at this; exact this
      obtain ⟨B, k, X, rfl, hk, hst⟩ := hrow.hst (by rw [hH1]; have := HP0.out; omega)
      rw [hlo, hp] at hst
      rw [hH1] at hk ⊢
      have HST := mkH hst
      have HH1 := mkH hH1
      have HGc := mkH hG
      have HKc := mkH hk
      replace R1d := mkH (own_keep R1d.out hbc)
      replace R2d := mkH (own_keep R2d.out hbc)
      replace UD := mkH (UD.out.keep hbc)
      clear hrow hst hH1 hG hk hbc hlo hp
      dsimp only
      refine hK _ _ ⟨UD.out, ?_⟩
      clear hK K
      try simp only [Act.put, jj1, jj2, jj3, jj4, jj5, jj6]
      refine wpAnyH_all (rs := [4, 5]) (by kernel_rfl) (by simp) (AllH.cons rfl (fun K hK => ?_) (AllH.cons rfl (fun K hK => ?_) AllH.nil))
      · skip
        go_simp
        obtain ⟨q2, hq2⟩ : ∃ x, wc1.heap.size = x := ⟨_, rfl⟩
        have hbn : Below wc1.heap.size wc1 (wc1.alloc (.cells #[.slice none 0 0, .int .i64 0] 24)) := bAlloc (Below.refl _ _) _
        have A7 : Hid (Blk (wc1.alloc (.cells #[.slice none 0 0, .int .i64 0] 24)) q2 24 #[.slice none 0 0, .int .i64 0]) := by unfold Hid; rw [← hq2]; exact Blk.new wc1 24 _
        have NA7 : Hid (w.heap.size + 1 + 1 + 1 < q2) := by unfold Hid; rw [← hq2]; exact UD.out.b4.lt
        replace HST := mkH (HST.out.keep hbn)
        replace R1d := mkH (own_keep R1d.out hbn)
        replace R2d := mkH (own_keep R2d.out hbn)
        replace UD := mkH (UD.out.keep hbn)
        rw [hq2]
        clear hq2 hbn
        generalize wc1.alloc (.cells #[.slice none 0 0, .int .i64 0] 24) = waq2 at *
        refine hK _ _ ⟨UD.out, ?_⟩
        clear hK K
        try simp only [Act.put, jj1, jj2, jj3, jj4, jj5, jj6]
        refine wpAnyH_all (rs := [5]) (by kernel_rfl) (by simp) (AllH.cons rfl (fun K hK => ?_) AllH.nil)
        have hzz := hz50 waq2
        go_simp
        clear hzz
        obtain ⟨q3, hq3⟩ : ∃ x, waq2.heap.size = x := ⟨_, rfl⟩
        have hbn : Below waq2.heap.size waq2 (waq2.alloc (.cells (cxa (.slice none 0 0) 0 Z) 50)) := bAlloc (Below.refl _ _) _
        have A8 : Hid (Blk (waq2.alloc (.cells (cxa (.slice none 0 0) 0 Z) 50)) q3 50 (cxa (.slice none 0 0) 0 Z)) := by unfold Hid; rw [← hq3]; exact Blk.new waq2 50 _
        have NA8 : Hid (w.heap.size + 1 + 1 + 1 < q3) := by unfold Hid; rw [← hq3]; exact UD.out.b4.lt
        replace HST := mkH (HST.out.keep hbn)
        replace A7 := mkH (A7.out.keep hbn)
        replace R1d := mkH (own_keep R1d.out hbn)
        replace R2d := mkH (own_keep R2d.out hbn)
        replace UD := mkH (UD.out.keep hbn)
        rw [hq3]
        clear hq3 hbn
        generalize waq2.alloc (.cells (cxa (.slice none 0 0) 0 Z) 50) = waq3 at *
        refine hK _ _ ⟨UD.out, ?_⟩
        clear hK K
        try simp only [Act.put, jj1, jj2, jj3, jj4, jj5, jj6]
        refine wpAnyH_all (rs := [6]) (by kernel_rfl) (by simp) (AllH.cons rfl (fun K hK => ?_) AllH.nil)
        have GA : Hid (waq3.grownBy (waq3.setCells q2 0 [.slice (some ⟨B, 0, none⟩) n k, .int .i64 (p0 : Int)]) (some q2)) := grown_setCells _ _ _
        have t24 : Hid (waq3.there q2 0 2) := there_blk (cs := [.slice none 0 0, .int .i64 0]) A7.out
        have P7 : Hid (Blk (waq3.setCells q2 0 [.slice (some ⟨B, 0, none⟩) n k, .int .i64 (p0 : Int)]) q2 24 #[.slice (some ⟨B, 0, none⟩) n k, .int .i64 (p0 : Int)]) := put_blk (cs := [.slice (some ⟨B, 0, none⟩) n k, .int .i64 (p0 : Int)]) (old := [.slice none 0 0, .int .i64 0]) rfl A7.out
        have P8 := mkH (A8.out.wr (wr_of A7.out GA.out) (by decide))
        have HSTa := mkH (HST.out.wr (wr_of A7.out GA.out) (by decide) (by decide) (by decide))
        have R1a := mkH (own_wr R1d.out (wr_of A7.out GA.out) (by decide))
        have R2a := mkH (own_wr R2d.out (wr_of A7.out GA.out) (by decide))
        have UDa := mkH (UD.out.low (lo := q2) (Below.grown (Below.refl q2 waq3) GA.out (Nat.le_of_lt A7.out.lt) (fun j hj => by injection hj with hj; omega)) NA7.out)
        refine do_st ty24 rfl (.tmp 12) (.tmp 47) rfl rfl [.slice (some ⟨B, 0, none⟩) n k, .int .i64 (p0 : Int)] rfl rfl t24.out (fun v hv => by simp at hv; rcases hv with rfl | rfl <;> rfl) ?_
        clear GA t24 A7 A8 HST R1d R2d UD
        generalize waq3.setCells q2 0 [.slice (some ⟨B, 0, none⟩) n k, .int .i64 (p0 : Int)] = w5a at *
        refine hK _ _ ⟨UDa.out, ?_⟩
        clear hK K
        try simp only [Act.put, jj1, jj2, jj3, jj4, jj5, jj6]
        refine wpAnyH_all (rs := [7]) (by kernel_rfl) (by simp) (AllH.cons rfl (fun K hK => ?_) AllH.nil)
        have t50 : Hid (w5a.there q3 0 29) := by have := there_blk (cs := cx (.slice none 0 0) 0 Z) P8.out; rwa [cx_len hZl] at this
        have K0 : Hid (Gx w w5a ao n c (p0 : Int) m Z q2 q3 B k lo p X Sx (.slice ra LU.length ca) (.slice rb LD.length cb) LU LD (p0 : Int) (.slice none 0 0) 0 Z (Wk.new (G.map Nr.d) (p0 : Int) m) none 0 0 H1 []) := ⟨UDa.out, P7.out, P8.out, R1a.out, R2a.out, HGc.out, rfl, HH1.out, HSTa.out, ls_nil _ _ _, rfl, HMw.out, HLO.out.1, HLO.out.2, HKc.out, NA7.out, NA8.out⟩
        have K1 := mkH (K0.out.put3 (v' := .slice none 0 0) (cu' := 0) (mm' := m) hZl hml)
        refine do_st ty50 rfl (.tmp 13) (.tmp 49) rfl rfl (cx (.slice none 0 0) 0 m) rfl (cx_len hml) t50.out cx_one ?_
        clear t50 K0 P7 P8 HSTa R1a R2a UDa
        generalize w5a.setCells q3 0 (cx (.slice none 0 0) 0 m) = w5 at *
        refine hK _ _ ⟨K1.out.u, ?_⟩
        clear hK K
        try simp only [Act.put, jj1, jj2, jj3, jj4, jj5, jj6]
        refine wpAnyH_done (by kernel_rfl) ?_ _
        go_wp2_with fail
        go_meet
        exact ⟨q2, q3, B, k, lo, p, X, Sx, H1, rfl, rfl, K1.out⟩
      · skip
        have hzz := hz50 wc1
        go_simp
        clear hzz
        obtain ⟨q3, hq3⟩ : ∃ x, wc1.heap.size = x := ⟨_, rfl⟩
        have hbn : Below wc1.heap.size wc1 (wc1.alloc (.cells (cxa (.slice none 0 0) 0 Z) 50)) := bAlloc (Below.refl _ _) _
        have A8 : Hid (Blk (wc1.alloc (.cells (cxa (.slice none 0 0) 0 Z) 50)) q3 50 (cxa (.slice none 0 0) 0 Z)) := by unfold Hid; rw [← hq3]; exact Blk.new wc1 50 _
        have NA8 : Hid (w.heap.size + 1 + 1 + 1 < q3) := by unfold Hid; rw [← hq3]; exact UD.out.b4.lt
        replace HST := mkH (HST.out.keep hbn)
        replace R1d := mkH (own_keep R1d.out hbn)
        replace R2d := mkH (own_keep R2d.out hbn)
        replace UD := mkH (UD.out.keep hbn)
        rw [hq3]
        clear hq3 hbn
        generalize wc1.alloc (.cells (cxa (.slice none 0 0) 0 Z) 50) = waq3 at *
        refine hK _ _ ⟨UD.out, ?_⟩
        clear hK K
        try simp only [Act.put, jj1, jj2, jj3, jj4, jj5, jj6]
        refine wpAnyH_all (rs := [4]) (by kernel_rfl) (by simp) (AllH.cons rfl (fun K hK => ?_) AllH.nil)
        go_simp
        obtain ⟨q2, hq2⟩ : ∃ x, waq3.heap.size = x := ⟨_, rfl⟩
        have hbn : Below waq3.heap.size waq3 (waq3.alloc (.cells #[.slice none 0 0, .int .i64 0] 24)) := bAlloc (Below.refl _ _) _
        have A7 : Hid (Blk (waq3.alloc (.cells #[.slice none 0 0, .int .i64 0] 24)) q2 24 #[.slice none 0 0, .int .i64 0]) := by unfold Hid; rw [← hq2]; exact Blk.new waq3 24 _
        have NA7 : Hid (w.heap.size + 1 + 1 + 1 < q2) := by unfold Hid; rw [← hq2]; exact UD.out.b4.lt
        replace HST := mkH (HST.out.keep hbn)
        replace A8 := mkH (A8.out.keep hbn)
        replace R1d := mkH (own_keep R1d.out hbn)
        replace R2d := mkH (own_keep R2d.out hbn)
        replace UD := mkH (UD.out.keep hbn)
        rw [hq2]
        clear hq2 hbn
        generalize waq3.alloc (.cells #[.slice none 0 0, .int .i64 0] 24) = waq2 at *
        refine hK _ _ ⟨UD.out, ?_⟩
        clear hK K
        try simp only [Act.put, jj1, jj2, jj3, jj4, jj5, jj6]
        refine wpAnyH_all (rs := [6]) (by kernel_rfl) (by simp) (AllH.cons rfl (fun K hK => ?_) AllH.nil)
        have GA : Hid (waq2.grownBy (waq2.setCells q2 0 [.slice (some ⟨B, 0, none⟩) n k, .int .i64 (p0 : Int)]) (some q2)) := grown_setCells _ _ _
        have t24 : Hid (waq2.there q2 0 2) := there_blk (cs := [.slice none 0 0, .int .i64 0]) A7.out
        have P7 : Hid (Blk (waq2.setCells q2 0 [.slice (some ⟨B, 0, none⟩) n k, .int .i64 (p0 : Int)]) q2 24 #[.slice (some ⟨B, 0, none⟩) n k, .int .i64 (p0 : Int)]) := put_blk (cs := [.slice (some ⟨B, 0, none⟩) n k, .int .i64 (p0 : Int)]) (old := [.slice none 0 0, .int .i64 0]) rfl A7.out
        have P8 := mkH (A8.out.wr (wr_of A7.out GA.out) (by decide))
        have HSTa := mkH (HST.out.wr (wr_of A7.out GA.out) (by decide) (by decide) (by decide))
        have R1a := mkH (own_wr R1d.out (wr_of A7.out GA.out) (by decide))
        have R2a := mkH (own_wr R2d.out (wr_of A7.out GA.out) (by decide))
        have UDa := mkH (UD.out.low (lo := q2) (Below.grown (Below.refl q2 waq2) GA.out (Nat.le_of_lt A7.out.lt) (fun j hj => by injection hj with hj; omega)) NA7.out)
        refine do_st ty24 rfl (.tmp 12) (.tmp 47) rfl rfl [.slice (some ⟨B, 0, none⟩) n k, .int .i64 (p0 : Int)] rfl rfl t24.out (fun v hv => by simp at hv; rcases hv with rfl | rfl <;> rfl) ?_
        clear GA t24 A7 A8 HST R1d R2d UD
        generalize waq2.setCells q2 0 [.slice (some ⟨B, 0, none⟩) n k, .int .i64 (p0 : Int)] = w5a at *
        refine hK _ _ ⟨UDa.out, ?_⟩
        clear hK K
        try simp only [Act.put, jj1, jj2, jj3, jj4, jj5, jj6]
        refine wpAnyH_all (rs := [7]) (by kernel_rfl) (by simp) (AllH.cons rfl (fun K hK => ?_) AllH.nil)
        have t50 : Hid (w5a.there q3 0 29) := by have := there_blk (cs := cx (.slice none 0 0) 0 Z) P8.out; rwa [cx_len hZl] at this
        have K0 : Hid (Gx w w5a ao n c (p0 : Int) m Z q2 q3 B k lo p X Sx (.slice ra LU.length ca) (.slice rb LD.length cb) LU LD (p0 : Int) (.slice none 0 0) 0 Z (Wk.new (G.map Nr.d) (p0 : Int) m) none 0 0 H1 []) := ⟨UDa.out, P7.out, P8.out, R1a.out, R2a.out, HGc.out, rfl, HH1.out, HSTa.out, ls_nil _ _ _, rfl, HMw.out, HLO.out.1, HLO.out.2, HKc.out, NA7.out, NA8.out⟩
        have K1 := mkH (K0.out.put3 (v' := .slice none 0 0) (cu' := 0) (mm' := m) hZl hml)
        refine do_st ty50 rfl (.tmp 13) (.tmp 49) rfl rfl (cx (.slice none 0 0) 0 m) rfl (cx_len hml) t50.out cx_one ?_
        clear t50 K0 P7 P8 HSTa R1a R2a UDa
        generalize w5a.setCells q3 0 (cx (.slice none 0 0) 0 m) = w5 at *
        refine hK _ _ ⟨K1.out.u, ?_⟩
        clear hK K
        try simp only [Act.put, jj1, jj2, jj3, jj4, jj5, jj6]
        refine wpAnyH_done (by kernel_rfl) ?_ _
        go_wp2_with fail
        go_meet
        exact ⟨q2, q3, B, k, lo, p, X, Sx, H1, rfl, rfl, K1.out⟩
    · skip
      go_simp
      obtain ⟨q2, hq2⟩ : ∃ x, V3.heap.size = x := ⟨_, rfl⟩
      have hbn : Below V3.heap.size V3 (V3.alloc (.cells #[.slice none 0 0, .int .i64 0] 24)) := bAlloc (Below.refl _ _) _
      have A7 : Hid (Blk (V3.alloc (.cells #[.slice none 0 0, .int .i64 0] 24)) q2 24 #[.slice none 0 0, .int .i64 0]) := by unfold Hid; rw [← hq2]; exact Blk.new V3 24 _
      have NA7 : Hid (w.heap.size + 1 + 1 + 1 < q2) := by unfold Hid; rw [← hq2]; exact UD.out.b4.lt
      replace R1d := mkH (own_keep R1d.out hbn)
      replace R2d := mkH (own_keep R2d.out hbn)
      replace UD := mkH (UD.out.keep hbn)
      rw [hq2]
      clear hq2 hbn
      generalize V3.alloc (.cells #[.slice none 0 0, .int .i64 0] 24) = waq2 at *
      refine hK _ _ ⟨UD.out, ?_⟩
      clear hK K
      try simp only [Act.put, jj1, jj2, jj3, jj4, jj5, jj6]
      refine wpAnyH_all (rs := [1, 5]) (by kernel_rfl) (by simp) (AllH.cons rfl (fun K hK => ?_) (AllH.cons rfl (fun K hK => ?_) AllH.nil))
      · skip
        go_simp
        refine (C36.out HN6.out waq2 UD.out.bel).mono ?_
        rintro e wc1 ⟨v1, H1, Sx, rfl, hG, hrow, hbc⟩
        obtain ⟨lo, hlo⟩ : ∃ x, waq2.heap.size = x := ⟨_, rfl⟩
        obtain ⟨p, hp⟩ : ∃ x, wc1.heap.size = x := ⟨_, rfl⟩
        have HLO : Hid (w.heap.size + 1 + 1 + 1 < lo ∧ lo ≤ p) := ⟨by rw [← hlo]; exact UD.out.b4.lt, by rw [← hlo, ← hp]; exact hbc.size⟩
        have hH1 : H1.length = n := by have := congrArg List.length hG; rw [List.length_map, List.length_map, HN.out] at this; exact this
        obtain ⟨B, k, X, rfl, hk, hst⟩ := hrow.hst (by rw [hH1]; have := HP0.out; omega)
        rw [hlo, hp] at hst
        rw [hH1] at hk ⊢
        have HST := mkH hst
        have HH1 := mkH hH1
        have HGc := mkH hG
        have HKc := mkH hk
        replace A7 := mkH (A7.out.keep hbc)
        replace R1d := mkH (own_keep R1d.out hbc)
        replace R2d := mkH (own_keep R2d.out hbc)
        replace UD := mkH (UD.out.keep hbc)
        clear hrow hst hH1 hG hk hbc hlo hp
        dsimp only
        refine hK _ _ ⟨UD.out, ?_⟩
        clear hK K
        try simp only [Act.put, jj1, jj2, jj3, jj4, jj5, jj6]
        refine wpAnyH_all (rs := [5]) (by kernel_rfl) (by simp) (AllH.cons rfl (fun K hK => ?_) AllH.nil)
        have hzz := hz50 wc1
        go_simp
        clear hzz
        obtain ⟨q3, hq3⟩ : ∃ x, wc1.heap.size = x := ⟨_, rfl⟩
        have hbn : Below wc1.heap.size wc1 (wc1.alloc (.cells (cxa (.slice none 0 0) 0 Z) 50)) := bAlloc (Below.refl _ _) _
        have A8 : Hid (Blk (wc1.alloc (.cells (cxa (.slice none 0 0) 0 Z) 50)) q3 50 (cxa (.slice none 0 0) 0 Z)) := by unfold Hid; rw [← hq3]; exact Blk.new wc1 50 _
        have NA8 : Hid (w.heap.size + 1 + 1 + 1 < q3) := by unfold Hid; rw [← hq3]; exact UD.out.b4.lt
        replace A7 := mkH (A7.out.keep hbn)
        replace HST := mkH (HST.out.keep hbn)
        replace R1d := mkH (own_keep R1d.out hbn)
        replace R2d := mkH (own_keep R2d.out hbn)
        replace UD := mkH (UD.out.keep hbn)
        rw [hq3]
        clear hq3 hbn
        generalize wc1.alloc (.cells (cxa (.slice none 0 0) 0 Z) 50) = waq3 at *
        refine hK _ _ ⟨UD.out, ?_⟩
        clear hK K
        try simp only [Act.put, jj1, jj2, jj3, jj4, jj5, jj6]
        refine wpAnyH_all (rs := [6]) (by kernel_rfl) (by simp) (AllH.cons rfl (fun K hK => ?_) AllH.nil)
        have GA : Hid (waq3.grownBy (waq3.setCells q2 0 [.slice (some ⟨B, 0, none⟩) n k, .int .i64 (p0 : Int)]) (some q2)) := grown_setCells _ _ _
        have t24 : Hid (waq3.there q2 0 2) := there_blk (cs := [.slice none 0 0, .int .i64 0]) A7.out
        have P7 : Hid (Blk (waq3.setCells q2 0 [.slice (some ⟨B, 0, none⟩) n k, .int .i64 (p0 : Int)]) q2 24 #[.slice (some ⟨B, 0, none⟩) n k, .int .i64 (p0 : Int)]) := put_blk (cs := [.slice (some ⟨B, 0, none⟩) n k, .int .i64 (p0 : Int)]) (old := [.slice none 0 0, .int .i64 0]) rfl A7.out
        have P8 := mkH (A8.out.wr (wr_of A7.out GA.out) (by decide))
        have HSTa := mkH (HST.out.wr (wr_of A7.out GA.out) (by decide) (by decide) (by decide))
        have R1a := mkH (own_wr R1d.out (wr_of A7.out GA.out) (by decide))
        have R2a := mkH (own_wr R2d.out (wr_of A7.out GA.out) (by decide))
        have UDa := mkH (UD.out.low (lo := q2) (Below.grown (Below.refl q2 waq3) GA.out (Nat.le_of_lt A7.out.lt) (fun j hj => by injection hj with hj; omega)) NA7.out)
        refine do_st ty24 rfl (.tmp 12) (.tmp 47) rfl rfl [.slice (some ⟨B, 0, none⟩) n k, .int .i64 (p0 : Int)] rfl rfl t24.out (fun v hv => by simp at hv; rcases hv with rfl | rfl <;> rfl) ?_
        clear GA t24 A7 A8 HST R1d R2d UD
        generalize waq3.setCells q2 0 [.slice (some ⟨B, 0, none⟩) n k, .int .i64 (p0 : Int)] = w5a at *
        refine hK _ _ ⟨UDa.out, ?_⟩
        clear hK K
        try simp only [Act.put, jj1, jj2, jj3, jj4, jj5, jj6]
        refine wpAnyH_all (rs := [7]) (by kernel_rfl) (by simp) (AllH.cons rfl (fun K hK => ?_) AllH.nil)
        have t50 : Hid (w5a.there q3 0 29) := by have := there_blk (cs := cx (.slice none 0 0) 0 Z) P8.out; rwa [cx_len hZl] at this
        have K0 : Hid (Gx w w5a ao n c (p0 : Int) m Z q2 q3 B k lo p X Sx (.slice ra LU.length ca) (.slice rb LD.length cb) LU LD (p0 : Int) (.slice none 0 0) 0 Z (Wk.new (G.map Nr.d) (p0 : Int) m) none 0 0 H1 []) := ⟨UDa.out, P7.out, P8.out, R1a.out, R2a.out, HGc.out, rfl, HH1.out, HSTa.out, ls_nil _ _ _, rfl, HMw.out, HLO.out.1, HLO.out.2, HKc.out, NA7.out, NA8.out⟩
        have K1 := mkH (K0.out.put3 (v' := .slice none 0 0) (cu' := 0) (mm' := m) hZl hml)
        refine do_st ty50 rfl (.tmp 13) (.tmp 49) rfl rfl (cx (.slice none 0 0) 0 m) rfl (cx_len hml) t50.out cx_one ?_
        clear t50 K0 P7 P8 HSTa R1a R2a UDa
        generalize w5a.setCells q3 0 (cx (.slice none 0 0) 0 m) = w5 at *
        refine hK _ _ ⟨K1.out.u, ?_⟩
        clear hK K
        try simp only [Act.put, jj1, jj2, jj3, jj4, jj5, jj6]
        refine wpAnyH_done (by kernel_rfl) ?_ _
        go_wp2_with fail
        go_meet
        exact ⟨q2, q3, B, k, lo, p, X, Sx, H1, rfl, rfl, K1.out⟩
      · skip
        have hzz := hz50 waq2
        go_simp
        clear hzz
        obtain ⟨q3, hq3⟩ : ∃ x, waq2.heap.size = x := ⟨_, rfl⟩
        have hbn : Below waq2.heap.size waq2 (waq2.alloc (.cells (cxa (.slice none 0 0) 0 Z) 50)) := bAlloc (Below.refl _ _) _
        have A8 : Hid (Blk (waq2.alloc (.cells (cxa (.slice none 0 0) 0 Z) 50)) q3 50 (cxa (.slice none 0 0) 0 Z)) := by unfold Hid; rw [← hq3]; exact Blk.new waq2 50 _
        have NA8 : Hid (w.heap.size + 1 + 1 + 1 < q3) := by unfold Hid; rw [← hq3]; exact UD.out.b4.lt
        replace A7 := mkH (A7.out.keep hbn)
        replace R1d := mkH (own_keep R1d.out hbn)
        replace R2d := mkH (own_keep R2d.out hbn)
        replace UD := mkH (UD.out.keep hbn)
        rw [hq3]
        clear hq3 hbn
        generalize waq2.alloc (.cells (cxa (.slice none 0 0) 0 Z) 50) = waq3 at *
        refine hK _ _ ⟨UD.out, ?_⟩
        clear hK K
        try simp only [Act.put, jj1, jj2, jj3, jj4, jj5, jj6]
        refine wpAnyH_all (rs := [1]) (by kernel_rfl) (by simp) (AllH.cons rfl (fun K hK => ?_) AllH.nil)
        go_simp
        refine (C36.out HN6.out waq3 UD.out.bel).mono ?_
        rintro e wc1 ⟨v1, H1, Sx, rfl, hG, hrow, hbc⟩
        obtain ⟨lo, hlo⟩ : ∃ x, waq3.heap.size = x := ⟨_, rfl⟩
        obtain ⟨p, hp⟩ : ∃ x, wc1.heap.size = x := ⟨_, rfl⟩
        have HLO : Hid (w.heap.size + 1 + 1 + 1 < lo ∧ lo ≤ p) := ⟨by rw [← hlo]; exact UD.out.b4.lt, by rw [← hlo, ← hp]; exact hbc.size⟩
        have hH1 : H1.length = n := by have := congrArg List.length hG; rw [List.length_map, List.length_map, HN.out] at this; exact this
        obtain ⟨B, k, X, rfl, hk, hst⟩ := hrow.hst (by rw [hH1]; have := HP0.out; omega)
        rw [hlo, hp] at hst
        rw [hH1] at hk ⊢
        have HST := mkH hst
        have HH1 := mkH hH1
        have HGc := mkH hG
        have HKc := mkH hk
        replace A7 := mkH (A7.out.keep hbc)
        replace A8 := mkH (A8.out.keep hbc)
        replace R1d := mkH (own_keep R1d.out hbc)
        replace R2d := mkH (own_keep R2d.out hbc)
        replace UD := mkH (UD.out.keep hbc)
        clear hrow hst hH1 hG hk hbc hlo hp
        dsimp only
        refine hK _ _ ⟨UD.out, ?_⟩
        clear hK K
        try simp only [Act.put, jj1, jj2, jj3, jj4, jj5, jj6]
        refine wpAnyH_all (rs := [6]) (by kernel_rfl) (by simp) (AllH.cons rfl (fun K hK => ?_) AllH.nil)
        have GA : Hid (wc1.grownBy (wc1.setCells q2 0 [.slice (some ⟨B, 0, none⟩) n k, .int .i64 (p0 : Int)]) (some q2)) := grown_setCells _ _ _
        have t24 : Hid (wc1.there q2 0 2) := there_blk (cs := [.slice none 0 0, .int .i64 0]) A7.out
        have P7 : Hid (Blk (wc1.setCells q2 0 [.slice (some ⟨B, 0, none⟩) n k, .int .i64 (p0 : Int)]) q2 24 #[.slice (some ⟨B, 0, none⟩) n k, .int .i64 (p0 : Int)]) := put_blk (cs := [.slice (some ⟨B, 0, none⟩) n k, .int .i64 (p0 : Int)]) (old := [.slice none 0 0, .int .i64 0]) rfl A7.out
        have P8 := mkH (A8.out.wr (wr_of A7.out GA.out) (by decide))
        have HSTa := mkH (HST.out.wr (wr_of A7.out GA.out) (by decide) (by decide) (by decide))
        have R1a := mkH (own_wr R1d.out (wr_of A7.out GA.out) (by decide))
        have R2a := mkH (own_wr R2d.out (wr_of A7.out GA.out) (by decide))
        have UDa := mkH (UD.out.low (lo := q2) (Below.grown (Below.refl q2 wc1) GA.out (Nat.le_of_lt A7.out.lt) (fun j hj => by injection hj with hj; omega)) NA7.out)
        refine do_st ty24 rfl (.tmp 12) (.tmp 47) rfl rfl [.slice (some ⟨B, 0, none⟩) n k, .int .i64 (p0 : Int)] rfl rfl t24.out (fun v hv => by simp at hv; rcases hv with rfl | rfl <;> rfl) ?_
        clear GA t24 A7 A8 HST R1d R2d UD
        generalize wc1.setCells q2 0 [.slice (some ⟨B, 0, none⟩) n k, .int .i64 (p0 : Int)] = w5a at *
        refine hK _ _ ⟨UDa.out, ?_⟩
        clear hK K
        try simp only [Act.put, jj1, jj2, jj3, jj4, jj5, jj6]
        refine wpAnyH_all (rs := [7]) (by kernel_rfl) (by simp) (AllH.cons rfl (fun K hK => ?_) AllH.nil)
        have t50 : Hid (w5a.there q3 0 29) := by have := there_blk (cs := cx (.slice none 0 0) 0 Z) P8.out; rwa [cx_len hZl] at this
        have K0 : Hid (Gx w w5a ao n c (p0 : Int) m Z q2 q3 B k lo p X Sx (.slice ra LU.length ca) (.slice rb LD.length cb) LU LD (p0 : Int) (.slice none 0 0) 0 Z (Wk.new (G.map Nr.d) (p0 : Int) m) none 0 0 H1 []) := ⟨UDa.out, P7.out, P8.out, R1a.out, R2a.out, HGc.out, rfl, HH1.out, HSTa.out, ls_nil _ _ _, rfl, HMw.out, HLO.out.1, HLO.out.2, HKc.out, NA7.out, NA8.out⟩
        have K1 := mkH (K0.out.put3 (v' := .slice none 0 0) (cu' := 0) (mm' := m) hZl hml)
        refine do_st ty50 rfl (.tmp 13) (.tmp 49) rfl rfl (cx (.slice none 0 0) 0 m) rfl (cx_len hml) t50.out cx_one ?_
        clear t50 K0 P7 P8 HSTa R1a R2a UDa
        generalize w5a.setCells q3 0 (cx (.slice none 0 0) 0 m) = w5 at *
        refine hK _ _ ⟨K1.out.u, ?_⟩
        clear hK K
        try simp only [Act.put, jj1, jj2, jj3, jj4, jj5, jj6]
        refine wpAnyH_done (by kernel_rfl) ?_ _
        go_wp2_with fail
        go_meet
        exact ⟨q2, q3, B, k, lo, p, X, Sx, H1, rfl, rfl, K1.out⟩
    · skip
      have hzz := hz50 V3
      go_simp
      clear hzz
      obtain ⟨q3, hq3⟩ : ∃ x, V3.heap.size = x := ⟨_, rfl⟩
      have hbn : Below V3.heap.size V3 (V3.alloc (.cells (cxa (.slice none 0 0) 0 Z) 50)) := bAlloc (Below.refl _ _) _
      have A8 : Hid (Blk (V3.alloc (.cells (cxa (.slice none 0 0) 0 Z) 50)) q3 50 (cxa (.slice none 0 0) 0 Z)) := by unfold Hid; rw [← hq3]; exact Blk.new V3 50 _
      have NA8 : Hid (w.heap.size + 1 + 1 + 1 < q3) := by unfold Hid; rw [← hq3]; exact UD.out.b4.lt
      replace R1d := mkH (own_keep R1d.out hbn)
      replace R2d := mkH (own_keep R2d.out hbn)
      replace UD := mkH (UD.out.keep hbn)
      rw [hq3]
      clear hq3 hbn
      generalize V3.alloc (.cells (cxa (.slice none 0 0) 0 Z) 50) = waq3 at *
      refine hK _ _ ⟨UD.out, ?_⟩
      clear hK K
      try simp only [Act.put, jj1, jj2, jj3, jj4, jj5, jj6]
      refine wpAnyH_all (rs := [1, 4]) (by kernel_rfl) (by simp) (AllH.cons rfl (fun K hK => ?_) (AllH.cons rfl (fun K hK => ?_) AllH.nil))
      · skip
        go_simp
        refine (C36.out HN6.out waq3 UD.out.bel).mono ?_
        rintro e wc1 ⟨v1, H1, Sx, rfl, hG, hrow, hbc⟩
        obtain ⟨lo, hlo⟩ : ∃ x, waq3.heap.size = x := ⟨_, rfl⟩
        obtain ⟨p, hp⟩ : ∃ x, wc1.heap.size = x := ⟨_, rfl⟩
        have HLO : Hid (w.heap.size + 1 + 1 + 1 < lo ∧ lo ≤ p) := ⟨by rw [← hlo]; exact UD.out.b4.lt, by rw [← hlo, ← hp]; exact hbc.size⟩
        have hH1 : H1.length = n := by have := congrArg List.length hG; rw [List.length_map, List.length_map, HN.out] at this; exact this
        obtain ⟨B, k, X, rfl, hk, hst⟩ := hrow.hst (by rw [hH1]; have := HP0.out; omega)
        rw [hlo, hp] at hst
        rw [hH1] at hk ⊢
        have HST := mkH hst
        have HH1 := mkH hH1
        have HGc := mkH hG
        have HKc := mkH hk
        replace A8 := mkH (A8.out.keep hbc)
        replace R1d := mkH (own_keep R1d.out hbc)
        replace R2d := mkH (own_keep R2d.out hbc)
        replace UD := mkH (UD.out.keep hbc)
        clear hrow hst hH1 hG hk hbc hlo hp
        dsimp only
        refine hK _ _ ⟨UD.out, ?_⟩
        clear hK K
        try simp only [Act.put, jj1, jj2, jj3, jj4, jj5, jj6]
        refine wpAnyH_all (rs := [4]) (by kernel_rfl) (by simp) (AllH.cons rfl (fun K hK => ?_) AllH.nil)
        go_simp
        obtain ⟨q2, hq2⟩ : ∃ x, wc1.heap.size = x := ⟨_, rfl⟩
        have hbn : Below wc1.heap.size wc1 (wc1.alloc (.cells #[.slice none 0 0, .int .i64 0] 24)) := bAlloc (Below.refl _ _) _
        have A7 : Hid (Blk (wc1.alloc (.cells #[.slice none 0 0, .int .i64 0] 24)) q2 24 #[.slice none 0 0, .int .i64 0]) := by unfold Hid; rw [← hq2]; exact Blk.new wc1 24 _
        have NA7 : Hid (w.heap.size + 1 + 1 + 1 < q2) := by unfold Hid; rw [← hq2]; exact UD.out.b4.lt
        replace A8 := mkH (A8.out.keep hbn)
        replace HST := mkH (HST.out.keep hbn)
        replace R1d := mkH (own_keep R1d.out hbn)
        replace R2d := mkH (own_keep R2d.out hbn)
        replace UD := mkH (UD.out.keep hbn)
        rw [hq2]
        clear hq2 hbn
        generalize wc1.alloc (.cells #[.slice none 0 0, .int .i64 0] 24) = waq2 at *
        refine hK _ _ ⟨UD.out, ?_⟩
        clear hK K
        try simp only [Act.put, jj1, jj2, jj3, jj4, jj5, jj6]
        refine wpAnyH_all (rs := [6]) (by kernel_rfl) (by simp) (AllH.cons rfl (fun K hK => ?_) AllH.nil)
        have GA : Hid (waq2.grownBy (waq2.setCells q2 0 [.slice (some ⟨B, 0, none⟩) n k, .int .i64 (p0 : Int)]) (some q2)) := grown_setCells _ _ _
        have t24 : Hid (waq2.there q2 0 2) := there_blk (cs := [.slice none 0 0, .int .i64 0]) A7.out
        have P7 : Hid (Blk (waq2.setCells q2 0 [.slice (some ⟨B, 0, none⟩) n k, .int .i64 (p0 : Int)]) q2 24 #[.slice (some ⟨B, 0, none⟩) n k, .int .i64 (p0 : Int)]) := put_blk (cs := [.slice (some ⟨B, 0, none⟩) n k, .int .i64 (p0 : Int)]) (old := [.slice none 0 0, .int .i64 0]) rfl A7.out
        have P8 := mkH (A8.out.wr (wr_of A7.out GA.out) (by decide))
        have HSTa := mkH (HST.out.wr (wr_of A7.out GA.out) (by decide) (by decide) (by decide))
        have R1a := mkH (own_wr R1d.out (wr_of A7.out GA.out) (by decide))
        have R2a := mkH (own_wr R2d.out (wr_of A7.out GA.out) (by decide))
        have UDa := mkH (UD.out.low (lo := q2) (Below.grown (Below.refl q2 waq2) GA.out (Nat.le_of_lt A7.out.lt) (fun j hj => by injection hj with hj; omega)) NA7.out)
        refine do_st ty24 rfl (.tmp 12) (.tmp 47) rfl rfl [.slice (some ⟨B, 0, none⟩) n k, .int .i64 (p0 : Int)] rfl rfl t24.out (fun v hv => by simp at hv; rcases hv with rfl | rfl <;> rfl) ?_
        clear GA t24 A7 A8 HST R1d R2d UD
        generalize waq2.setCells q2 0 [.slice (some ⟨B, 0, none⟩) n k, .int .i64 (p0 : Int)] = w5a at *
        refine hK _ _ ⟨UDa.out, ?_⟩
        clear hK K
        try simp only [Act.put, jj1, jj2, jj3, jj4, jj5, jj6]
        refine wpAnyH_all (rs := [7]) (by kernel_rfl) (by simp) (AllH.cons rfl (fun K hK => ?_) AllH.nil)
        have t50 : Hid (w5a.there q3 0 29) := by have := there_blk (cs := cx (.slice none 0 0) 0 Z) P8.out; rwa [cx_len hZl] at this
        have K0 : Hid (Gx w w5a ao n c (p0 : Int) m Z q2 q3 B k lo p X Sx (.slice ra LU.length ca) (.slice rb LD.length cb) LU LD (p0 : Int) (.slice none 0 0) 0 Z (Wk.new (G.map Nr.d) (p0 : Int) m) none 0 0 H1 []) := ⟨UDa.out, P7.out, P8.out, R1a.out, R2a.out, HGc.out, rfl, HH1.out, HSTa.out, ls_nil _ _ _, rfl, HMw.out, HLO.out.1, HLO.out.2, HKc.out, NA7.out, NA8.out⟩
        have K1 := mkH (K0.out.put3 (v' := .slice none 0 0) (cu' := 0) (mm' := m) hZl hml)
        refine do_st ty50 rfl (.tmp 13) (.tmp 49) rfl rfl (cx (.slice none 0 0) 0 m) rfl (cx_len hml) t50.out cx_one ?_
        clear t50 K0 P7 P8 HSTa R1a R2a UDa
        generalize w5a.setCells q3 0 (cx (.slice none 0 0) 0 m) = w5 at *
        refine hK _ _ ⟨K1.out.u, ?_⟩
        clear hK K
        try simp only [Act.put, jj1, jj2, jj3, jj4, jj5, jj6]
        refine wpAnyH_done (by kernel_rfl) ?_ _
        go_wp2_with fail
        go_meet
        exact ⟨q2, q3, B, k, lo, p, X, Sx, H1, rfl, rfl, K1.out⟩
      · skip
        go_simp
        obtain ⟨q2, hq2⟩ : ∃ x, waq3.heap.size = x := ⟨_, rfl⟩
        have hbn : Below waq3.heap.size waq3 (waq3.alloc (.cells #[.slice none 0 0, .int .i64 0] 24)) := bAlloc (Below.refl _ _) _
        have A7 : Hid (Blk (waq3.alloc (.cells #[.slice none 0 0, .int .i64 0] 24)) q2 24 #[.slice none 0 0, .int .i64 0]) := by unfold Hid; rw [← hq2]; exact Blk.new waq3 24 _
        have NA7 : Hid (w.heap.size + 1 + 1 + 1 < q2) := by unfold Hid; rw [← hq2]; exact UD.out.b4.lt
        replace A8 := mkH (A8.out.keep hbn)
        replace R1d := mkH (own_keep R1d.out hbn)
        replace R2d := mkH (own_keep R2d.out hbn)
        replace UD := mkH (UD.out.keep hbn)
        rw [hq2]
        clear hq2 hbn
        generalize waq3.alloc (.cells #[.slice none 0 0, .int .i64 0] 24) = waq2 at *
        refine hK _ _ ⟨UD.out, ?_⟩
        clear hK K
        try simp only [Act.put, jj1, jj2, jj3, jj4, jj5, jj6]
        refine wpAnyH_all (rs := [1]) (by kernel_rfl) (by simp) (AllH.cons rfl (fun K hK => ?_) AllH.nil)
        go_simp
        refine (C36.out HN6.out waq2 UD.out.bel).mono ?_
        rintro e wc1 ⟨v1, H1, Sx, rfl, hG, hrow, hbc⟩
        obtain ⟨lo, hlo⟩ : ∃ x, waq2.heap.size = x := ⟨_, rfl⟩
        obtain ⟨p, hp⟩ : ∃ x, wc1.heap.size = x := ⟨_, rfl⟩
        have HLO : Hid (w.heap.size + 1 + 1 + 1 < lo ∧ lo ≤ p) := ⟨by rw [← hlo]; exact UD.out.b4.lt, by rw [← hlo, ← hp]; exact hbc.size⟩
        have hH1 : H1.length = n := by have := congrArg List.length hG; rw [List.length_map, List.length_map, HN.out] at this; exact this
        obtain ⟨B, k, X, rfl, hk, hst⟩ := hrow.hst (by rw [hH1]; have := HP0.out; omega)
        rw [hlo, hp] at hst
        rw [hH1] at hk ⊢
        have HST := mkH hst
        have HH1 := mkH hH1
        have HGc := mkH hG
        have HKc := mkH hk
        replace A8 := mkH (A8.out.keep hbc)
        replace A7 := mkH (A7.out.keep hbc)
        replace R1d := mkH (own_keep R1d.out hbc)
        replace R2d := mkH (own_keep R2d.out hbc)
        replace UD := mkH (UD.out.keep hbc)
        clear hrow hst hH1 hG hk hbc hlo hp
        dsimp only
        refine hK _ _ ⟨UD.out, ?_⟩
        clear hK K
        try simp only [Act.put, jj1, jj2, jj3, jj4, jj5, jj6]
        refine wpAnyH_all (rs := [6]) (by kernel_rfl) (by simp) (AllH.cons rfl (fun K hK => ?_) AllH.nil)
        have GA : Hid (wc1.grownBy (wc1.setCells q2 0 [.slice (some ⟨B, 0, none⟩) n k, .int .i64 (p0 : Int)]) (some q2)) := grown_setCells _ _ _
        have t24 : Hid (wc1.there q2 0 2) := there_blk (cs := [.slice none 0 0, .int .i64 0]) A7.out
        have P7 : Hid (Blk (wc1.setCells q2 0 [.slice (some ⟨B, 0, none⟩) n k, .int .i64 (p0 : Int)]) q2 24 #[.slice (some ⟨B, 0, none⟩) n k, .int .i64 (p0 : Int)]) := put_blk (cs := [.slice (some ⟨B, 0, none⟩) n k, .int .i64 (p0 : Int)]) (old := [.slice none 0 0, .int .i64 0]) rfl A7.out
        have P8 := mkH (A8.out.wr (wr_of A7.out GA.out) (by decide))
        have HSTa := mkH (HST.out.wr (wr_of A7.out GA.out) (by decide) (by decide) (by decide))
        have R1a := mkH (own_wr R1d.out (wr_of A7.out GA.out) (by decide))
        have R2a := mkH (own_wr R2d.out (wr_of A7.out GA.out) (by decide))
        have UDa := mkH (UD.out.low (lo := q2) (Below.grown (Below.refl q2 wc1) GA.out (Nat.le_of_lt A7.out.lt) (fun j hj => by injection hj with hj; omega)) NA7.out)
        refine do_st ty24 rfl (.tmp 12) (.tmp 47) rfl rfl [.slice (some ⟨B, 0, none⟩) n k, .int .i64 (p0 : Int)] rfl rfl t24.out (fun v hv => by simp at hv; rcases hv with rfl | rfl <;> rfl) ?_
        clear GA t24 A7 A8 HST R1d R2d UD
        generalize wc1.setCells q2 0 [.slice (some ⟨B, 0, none⟩) n k, .int .i64 (p0 : Int)] = w5a at *
        refine hK _ _ ⟨UDa.out, ?_⟩
        clear hK K
        try simp only [Act.put, jj1, jj2, jj3, jj4, jj5, jj6]
        refine wpAnyH_all (rs := [7]) (by kernel_rfl) (by simp) (AllH.cons rfl (fun K hK => ?_) AllH.nil)
        have t50 : Hid (w5a.there q3 0 29) := by have := there_blk (cs := cx (.slice none 0 0) 0 Z) P8.out; rwa [cx_len hZl] at this
        have K0 : Hid (Gx w w5a ao n c (p0 : Int) m Z q2 q3 B k lo p X Sx (.slice ra LU.length ca) (.slice rb LD.length cb) LU LD (p0 : Int) (.slice none 0 0) 0 Z (Wk.new (G.map Nr.d) (p0 : Int) m) none 0 0 H1 []) := ⟨UDa.out, P7.out, P8.out, R1a.out, R2a.out, HGc.out, rfl, HH1.out, HSTa.out, ls_nil _ _ _, rfl, HMw.out, HLO.out.1, HLO.out.2, HKc.out, NA7.out, NA8.out⟩
        have K1 := mkH (K0.out.put3 (v' := .slice none 0 0) (cu' := 0) (mm' := m) hZl hml)
        refine do_st ty50 rfl (.tmp 13) (.tmp 49) rfl rfl (cx (.slice none 0 0) 0 m) rfl (cx_len hml) t50.out cx_one ?_
        clear t50 K0 P7 P8 HSTa R1a R2a UDa
        generalize w5a.setCells q3 0 (cx (.slice none 0 0) 0 m) = w5 at *
        refine hK _ _ ⟨K1.out.u, ?_⟩
        clear hK K
        try simp only [Act.put, jj1, jj2, jj3, jj4, jj5, jj6]
        refine wpAnyH_done (by kernel_rfl) ?_ _
        go_wp2_with fail
        go_meet
        exact ⟨q2, q3, B, k, lo, p, X, Sx, H1, rfl, rfl, K1.out⟩
  case rest =>
    obtain ⟨q2, q3, B, k, lo, p, X, S, H, rfl, rfl, KX⟩ := hcut
    clear UD R1d R2d C36
    have HB0 : Hid ((Wk.new (G.map Nr.d) (p0 : Int) m).G = G.map Nr.d) := rfl
    obtain ⟨s0, hs0⟩ : ∃ s, Wk.new (G.map Nr.d) (p0 : Int) m = s := ⟨_, rfl⟩
    rw [hs0] at KX HB0
    have HNW : Hid (s0.now = (p0 : Int) ∧ s0.cur = 0 ∧ s0.m = m ∧ s0.E = []) := by rw [← hs0]; exact ⟨rfl, rfl, rfl, rfl⟩
    rw [hs0] at HS1
    clear hs0
    have KX0 : Hid (Gx w wc ao n c (p0 : Int) m Z q2 q3 B k lo p X S (.slice ra LU.length ca) (.slice rb LD.length cb) LU LD s0.now (.slice none 0 0) s0.cur s0.m s0 none 0 0 H []) := by
      unfold Hid; rw [HNW.out.1, HNW.out.2.1, HNW.out.2.2.1]; exact KX.out
    clear KX
    go_wp2_with fail
    go_loopg [14] LU.length (fun mx x14 wx => ∃ (j : Nat) (va : Option Addr) (vn vc : Nat) (H : List Nr) (F : List Er), x14 = .int .i64 (j : Int) ∧ j + mx = LU.length ∧ Hid (Gx w wx ao n c (p0 : Int) m Z q2 q3 B k lo p X S (.slice ra LU.length ca) (.slice rb LD.length cb) LU LD ((LU.take j).foldl Wk.up s0).now (.slice va vn vc) ((LU.take j).foldl Wk.up s0).cur ((LU.take j).foldl Wk.up s0).m ((LU.take j).foldl Wk.up s0) va vn vc H F))
    case atStart => exact ⟨0, none, 0, 0, H, [], rfl, by omega, KX0.out⟩
    case round =>
      clear KX0
      obtain ⟨j, va, vn, vc, H, F, rfl, hjm, KX⟩ := hrel
      obtain ⟨go, hgo⟩ : ∃ g, g = gk - 1 := ⟨_, rfl⟩
      by_cases hj : j < LU.length
      · have hj' : (j : Int) < (LU.length : Int) := by omega
        have hj0 : (0 : Int) ≤ (j : Int) := by omega
        have hw8 : IntKind.i64.wrap ((j : Int) + 1) = ((j + 1 : Nat) : Int) := by rw [IntKind.wrap_i64]; have := HPI.out.2.2.1; omega
        obtain ⟨x, hx⟩ : ∃ x, LU[j]? = some x := ⟨_, List.getElem?_eq_getElem hj⟩
        have HJx : Hid (LU[j]? = some x) := hx
        have HXn : Hid (x < n) := (HPI.out.1 x (List.mem_of_getElem? hx)).2
        obtain ⟨s, hs⟩ : ∃ s, (LU.take j).foldl Wk.up s0 = s := ⟨_, rfl⟩
        rw [hs] at KX
        have HS2 : Hid ((LU.take (j + 1)).foldl Wk.up s0 = s.up x) := by
          unfold Hid
          rw [List.take_succ_eq_append_getElem hj, List.foldl_append, hs]
          rw [List.getElem?_eq_getElem hj] at hx
          injection hx with hx
          rw [hx]; rfl
        have hed : ∀ i, (at' s.G i).ed.length ≤ 1048576 := fun i => by rw [← hs, ed_sk (foldU_sk _ s0 i), HB0.out]; exact hbig.out i
        have hEl : s.E.length ≤ 8194 * 1048576 := by
          have h1 := foldU_el (q := 1048576) (LU.take j) s0 (fun i => by rw [HB0.out]; exact hbig.out i)
          rw [hs, HNW.out.2.2.2, List.length_nil] at h1
          have h2 : (LU.take j).length * 1048576 ≤ 8194 * 1048576 := Nat.mul_le_mul_right _ (by rw [List.length_take]; have := HPI.out.2.2.1; omega)
          omega
        have CC := mkH (CXU.out lo p B n k x s.now va vn vc s.cur s.m H X S F s wr.drew (KX.out.keep (Below.refl _ _).drew).hst (KX.out.keep (Below.refl _ _).drew).eds KX.out.fl KX.out.hn KX.out.mw ⟨KX.out.g, KX.out.e, rfl, rfl, rfl⟩ HXn.out (KX.out.bd hed hEl))
        have KXd := mkH (KX.out.keep (Below.refl _ _).drew)
        obtain ⟨gr, hra⟩ := row_some KXd.out.r1 hj
        obtain ⟨s2, hs2⟩ : ∃ t, s.up x = t := ⟨_, rfl⟩
        rw [hs2] at CC HS2
        have hml2 := KX.out.mw.len
        clear hs hx hed hEl hs2 KX
        have KX := KXd
        clear KXd
        subst hra
        have HC0 : Hid (wr.drew.cell? ⟨gr, j, none⟩ = some (.int .i64 (x : Int))) := row_at KX.out.r1 HJx.out
        go_upto_region 14 with fail
        refine wp_region_held (S := fun w' => w'.cell? ⟨gr, j, none⟩ = some (.int .i64 (x : Int))) (by kernel_rfl) ?_
        change wpAnyH _ _ _ _ _ _ _ _ (World.drew _)
        generalize wr.drew = V3 at *
        refine tk 1 (.slice (some ⟨gr, 0, none⟩) (LU.length) ca) HC0.out ?_
        refine tk 2 (.int .i64 (j : Int)) HC0.out ?_
        try simp only [Act.put, jj1, jj2, jj3, jj4, jj5, jj6]
        refine tk 3 (.pointer (some ⟨gr, j, none⟩)) HC0.out ?_
        refine ta 4 (.int .i64 (x : Int)) rfl (Or.inl ⟨by rfl, fun w9 h9 => by have h5 := h9; go_simp⟩) HC0.out ?_
        try simp only [Act.put, jj1, jj2, jj3, jj4, jj5, jj6]
        refine wpAnyH_all (rs := [0, 5]) (by kernel_rfl) (by simp) (AllH.cons rfl (fun K hK => ?_) (AllH.cons rfl (fun K hK => ?_) AllH.nil))
        · skip
          refine do_ld ty24 rfl (.tmp 12) rfl rfl [.slice (some ⟨B, 0, none⟩) n k, .int .i64 s.now] rfl (range_blk (cs := [.slice (some ⟨B, 0, none⟩) n k, .int .i64 s.now]) KX.out.b2) ?_
          refine hK _ _ ⟨HC0.out, ?_⟩
          clear hK K
          try simp only [Act.put, jj1, jj2, jj3, jj4, jj5, jj6]
          refine wpAnyH_all (rs := [5]) (by kernel_rfl) (by simp) (AllH.cons rfl (fun K hK => ?_) AllH.nil)
          refine do_ld ty50 rfl (.tmp 13) rfl rfl (cx (.slice va vn vc) s.cur s.m) (cx_len hml2) (range_blk (cs := (cx (.slice va vn vc) s.cur s.m)) KX.out.b3) ?_
          refine hK _ _ ⟨HC0.out, ?_⟩
          clear hK K
          try simp only [Act.put, jj1, jj2, jj3, jj4, jj5, jj6]
          refine wpAnyH_all (rs := [6]) (by kernel_rfl) (by simp) (AllH.cons rfl (fun K hK => ?_) AllH.nil)
          go_simp
          refine (CC.out).mono ?_
          rintro e wc1 hx
          obtain ⟨va2, vn2, vc2, H2, F2, rfl, hK⟩ := KX.out.cross hx
          have KY := mkH hK
          have hc1 := row_at KY.out.r1 HJx.out
          have HC1 := mkH hc1
          clear hx hK CC KX hc1
          dsimp only
          refine hK _ _ ⟨HC1.out, ?_⟩
          clear hK K
          refine tk 7 (.tuple #[.agg #[.slice (some ⟨B, 0, none⟩) n k, .int .i64 s2.now], .agg (cxa (.slice va2 vn2 vc2) s2.cur s2.m)]) HC1.out ?_
          refine tk 8 (.agg #[.slice (some ⟨B, 0, none⟩) n k, .int .i64 s2.now]) HC1.out ?_
          try simp only [Act.put, jj1, jj2, jj3, jj4, jj5, jj6]
          refine tk 9 (.agg (cxa (.slice va2 vn2 vc2) s2.cur s2.m)) HC1.out ?_
          try simp only [Act.put, jj1, jj2, jj3, jj4, jj5, jj6]
          refine wpAnyH_all (rs := [10]) (by kernel_rfl) (by simp) (AllH.cons rfl (fun K hK => ?_) AllH.nil)
          have t24 : Hid (wc1.there q2 0 2) := there_blk (cs := [.slice (some ⟨B, 0, none⟩) n k, .int .i64 s.now]) KY.out.b2
          have KZ := mkH (KY.out.put2 s2.now)
          have HC2 := mkH (row_at KZ.out.r1 HJx.out)
          refine do_st ty24 rfl (.tmp 12) (.tmp 64) rfl rfl [.slice (some ⟨B, 0, none⟩) n k, .int .i64 s2.now] rfl rfl t24.out (fun v hv => by simp at hv; rcases hv with rfl | rfl <;> rfl) ?_
          clear t24 KY HC1
          generalize wc1.setCells q2 0 [.slice (some ⟨B, 0, none⟩) n k, .int .i64 s2.now] = wc2 at *
          refine hK _ _ ⟨HC2.out, ?_⟩
          clear hK K
          try simp only [Act.put, jj1, jj2, jj3, jj4, jj5, jj6]
          refine wpAnyH_all (rs := [11]) (by kernel_rfl) (by simp) (AllH.cons rfl (fun K hK => ?_) AllH.nil)
          have t50 : Hid (wc2.there q3 0 29) := by have := there_blk (cs := (cx (.slice va vn vc) s.cur s.m)) KZ.out.b3; rwa [cx_len hml2] at this
          have KW := mkH (KZ.out.put3 (v' := .slice va2 vn2 vc2) (cu' := s2.cur) hml2 KZ.out.mw.len)
          have HC3 := mkH (row_at KW.out.r1 HJx.out)
          refine do_st ty50 rfl (.tmp 13) (.tmp 65) rfl rfl (cx (.slice va2 vn2 vc2) s2.cur s2.m) rfl (cx_len KZ.out.mw.len) t50.out cx_one ?_
          clear t50 KZ HC2
          generalize wc2.setCells q3 0 (cx (.slice va2 vn2 vc2) s2.cur s2.m) = wc3 at *
          refine hK _ _ ⟨HC3.out, ?_⟩
          clear hK K
          try simp only [Act.put, jj1, jj2, jj3, jj4, jj5, jj6]
          refine wpAnyH_done (by kernel_rfl) ?_ _
          go_wp2
          go_roundg go
          case measure => omega
          case rel => exact ⟨j + 1, va2, vn2, vc2, H2, F2, by go_num, by omega, by rw [HS2.out]; exact KW.out⟩
        · skip
          refine do_ld ty50 rfl (.tmp 13) rfl rfl (cx (.slice va vn vc) s.cur s.m) (cx_len hml2) (range_blk (cs := (cx (.slice va vn vc) s.cur s.m)) KX.out.b3) ?_
          refine hK _ _ ⟨HC0.out, ?_⟩
          clear hK K
          try simp only [Act.put, jj1, jj2, jj3, jj4, jj5, jj6]
          refine wpAnyH_all (rs := [0]) (by kernel_rfl) (by simp) (AllH.cons rfl (fun K hK => ?_) AllH.nil)
          refine do_ld ty24 rfl (.tmp 12) rfl rfl [.slice (some ⟨B, 0, none⟩) n k, .int .i64 s.now] rfl (range_blk (cs := [.slice (some ⟨B, 0, none⟩) n k, .int .i64 s.now]) KX.out.b2) ?_
          refine hK _ _ ⟨HC0.out, ?_⟩
          clear hK K
          try simp only [Act.put, jj1, jj2, jj3, jj4, jj5, jj6]
          refine wpAnyH_all (rs := [6]) (by kernel_rfl) (by simp) (AllH.cons rfl (fun K hK => ?_) AllH.nil)
          go_simp
          refine (CC.out).mono ?_
          rintro e wc1 hx
          obtain ⟨va2, vn2, vc2, H2, F2, rfl, hK⟩ := KX.out.cross hx
          have KY := mkH hK
          have hc1 := row_at KY.out.r1 HJx.out
          have HC1 := mkH hc1
          clear hx hK CC KX hc1
          dsimp only
          refine hK _ _ ⟨HC1.out, ?_⟩
          clear hK K
          refine tk 7 (.tuple #[.agg #[.slice (some ⟨B, 0, none⟩) n k, .int .i64 s2.now], .agg (cxa (.slice va2 vn2 vc2) s2.cur s2.m)]) HC1.out ?_
          refine tk 8 (.agg #[.slice (some ⟨B, 0, none⟩) n k, .int .i64 s2.now]) HC1.out ?_
          refine tk 9 (.agg (cxa (.slice va2 vn2 vc2) s2.cur s2.m)) HC1.out ?_
          try simp only [Act.put, jj1, jj2, jj3, jj4, jj5, jj6]
          refine wpAnyH_all (rs := [10]) (by kernel_rfl) (by simp) (AllH.cons rfl (fun K hK => ?_) AllH.nil)
          have t24 : Hid (wc1.there q2 0 2) := there_blk (cs := [.slice (some ⟨B, 0, none⟩) n k, .int .i64 s.now]) KY.out.b2
          have KZ := mkH (KY.out.put2 s2.now)
          have HC2 := mkH (row_at KZ.out.r1 HJx.out)
          refine do_st ty24 rfl (.tmp 12) (.tmp 64) rfl rfl [.slice (some ⟨B, 0, none⟩) n k, .int .i64 s2.now] rfl rfl t24.out (fun v hv => by simp at hv; rcases hv with rfl | rfl <;> rfl) ?_
          clear t24 KY HC1
          generalize wc1.setCells q2 0 [.slice (some ⟨B, 0, none⟩) n k, .int .i64 s2.now] = wc2 at *
          refine hK _ _ ⟨HC2.out, ?_⟩
          clear hK K
          try simp only [Act.put, jj1, jj2, jj3, jj4, jj5, jj6]
          refine wpAnyH_all (rs := [11]) (by kernel_rfl) (by simp) (AllH.cons rfl (fun K hK => ?_) AllH.nil)
          have t50 : Hid (wc2.there q3 0 29) := by have := there_blk (cs := (cx (.slice va vn vc) s.cur s.m)) KZ.out.b3; rwa [cx_len hml2] at this
          have KW := mkH (KZ.out.put3 (v' := .slice va2 vn2 vc2) (cu' := s2.cur) hml2 KZ.out.mw.len)
          have HC3 := mkH (row_at KW.out.r1 HJx.out)
          refine do_st ty50 rfl (.tmp 13) (.tmp 65) rfl rfl (cx (.slice va2 vn2 vc2) s2.cur s2.m) rfl (cx_len KZ.out.mw.len) t50.out cx_one ?_
          clear t50 KZ HC2
          generalize wc2.setCells q3 0 (cx (.slice va2 vn2 vc2) s2.cur s2.m) = wc3 at *
          refine hK _ _ ⟨HC3.out, ?_⟩
          clear hK K
          try simp only [Act.put, jj1, jj2, jj3, jj4, jj5, jj6]
          refine wpAnyH_done (by kernel_rfl) ?_ _
          go_wp2
          go_roundg go
          case measure => omega
          case rel => exact ⟨j + 1, va2, vn2, vc2, H2, F2, by go_num, by omega, by rw [HS2.out]; exact KW.out⟩
      · have hj' : ¬ (j : Int) < (LU.length : Int) := by omega
        have hjl : (LU.take j) = LU := List.take_of_length_le (by omega)
        rw [hjl] at KX
        obtain ⟨s1, hs1⟩ : ∃ s, LU.foldl Wk.up s0 = s := ⟨_, rfl⟩
        rw [hs1] at KX HS1
        have HSG : Hid (∀ i, sk (at' s1.G i) = sk (at' (G.map Nr.d) i)) := fun i => by rw [← hs1, foldU_sk, HB0.out]
        have HSE : Hid (s1.E.length ≤ 4097 * 1048576) := by
          have h1 := foldU_el (q := 1048576) LU s0 (fun i => by rw [HB0.out]; exact hbig.out i)
          rw [hs1, HNW.out.2.2.2, List.length_nil] at h1
          have h2 : LU.length * 1048576 ≤ 4097 * 1048576 := Nat.mul_le_mul_right _ HPI.out.2.2.1
          unfold Hid; omega
        clear hs1 hjl hgo CXU HB0 HNW
        go_wp2_with fail
        go_loopg [15] LD.length (fun mx x15 wx => ∃ (j : Nat) (va : Option Addr) (vn vc : Nat) (H : List Nr) (F : List Er), x15 = .int .i64 (j : Int) ∧ j + mx = LD.length ∧ Hid (Gx w wx ao n c (p0 : Int) m Z q2 q3 B k lo p X S (.slice ra LU.length ca) (.slice rb LD.length cb) LU LD ((LD.take j).foldl Wk.down s1).now (.slice va vn vc) ((LD.take j).foldl Wk.down s1).cur ((LD.take j).foldl Wk.down s1).m ((LD.take j).foldl Wk.down s1) va vn vc H F))
        case atStart => exact ⟨0, va, vn, vc, H, F, rfl, by omega, KX.out⟩
        case round =>
          clear KX hj hj' hjm
          obtain ⟨j, va, vn, vc, H, F, rfl, hjm, KX⟩ := hrel
          obtain ⟨go, hgo⟩ : ∃ g, g = gk - 1 := ⟨_, rfl⟩
          by_cases hj : j < LD.length
          · have hj' : (j : Int) < (LD.length : Int) := by omega
            have hj0 : (0 : Int) ≤ (j : Int) := by omega
            have hw8 : IntKind.i64.wrap ((j : Int) + 1) = ((j + 1 : Nat) : Int) := by rw [IntKind.wrap_i64]; have := HPI.out.2.2.2; omega
            obtain ⟨x, hx⟩ : ∃ x, LD[j]? = some x := ⟨_, List.getElem?_eq_getElem hj⟩
            have HJx : Hid (LD[j]? = some x) := hx
            have hxn := HPI.out.2.1 x (List.mem_of_getElem? hx)
            have hpar := HPar.out x hxn.1 hxn.2
            obtain ⟨s, hs⟩ : ∃ s, (LD.take j).foldl Wk.down s1 = s := ⟨_, rfl⟩
            rw [hs] at KX
            have HS2 : Hid ((LD.take (j + 1)).foldl Wk.down s1 = s.down x) := by
              unfold Hid
              rw [List.take_succ_eq_append_getElem hj, List.foldl_append, hs]
              rw [List.getElem?_eq_getElem hj] at hx
              injection hx with hx
              rw [hx]; rfl
            have hsk : ∀ i, sk (at' s.G i) = sk (at' (G.map Nr.d) i) := fun i => by rw [← hs, foldD_sk]; exact HSG.out i
            have hed : ∀ i, (at' s.G i).ed.length ≤ 1048576 := fun i => by rw [ed_sk (hsk i)]; exact hbig.out i
            have hEl : s.E.length ≤ 8194 * 1048576 := by
              have h1 := foldD_el (q := 1048576) (LD.take j) s1 (fun i => by rw [ed_sk (HSG.out i)]; exact hbig.out i)
              rw [hs] at h1
              have h2 : (LD.take j).length * 1048576 ≤ 4097 * 1048576 := Nat.mul_le_mul_right _ (by rw [List.length_take]; have := HPI.out.2.2.2; omega)
              have h3 := HSE.out
              omega
            have CC := mkH (CXD.out lo p B n k x s.now va vn vc s.cur s.m H X S F s wr.drew (pr (G.map Nr.d) x) (KX.out.keep (Below.refl _ _).drew).hst (KX.out.keep (Below.refl _ _).drew).eds KX.out.fl KX.out.hn KX.out.mw ⟨KX.out.g, KX.out.e, rfl, rfl, rfl⟩ hxn.2 (KX.out.bd hed hEl) (by omega) (by omega) (fun r hr => by
              have h1 := map_at hr
              rw [KX.out.g] at h1
              have h2 : (at' s.G x).par = r.par := (by rw [h1]; rfl)
              rw [← h2, par_sk (hsk x)]
              exact hpar.1))
            have KXd := mkH (KX.out.keep (Below.refl _ _).drew)
            obtain ⟨gr, hra⟩ := row_some KXd.out.r2 hj
            obtain ⟨s2, hs2⟩ : ∃ t, s.down x = t := ⟨_, rfl⟩
            rw [hs2] at CC HS2
            have hml2 := KX.out.mw.len
            clear hs hx hed hEl hs2 KX hxn hpar hsk
            have KX := KXd
            clear KXd
            subst hra
            have HC0 : Hid (wr.drew.cell? ⟨gr, j, none⟩ = some (.int .i64 (x : Int))) := row_at KX.out.r2 HJx.out
            go_upto_region 18 with fail
            refine wp_region_held (S := fun w' => w'.cell? ⟨gr, j, none⟩ = some (.int .i64 (x : Int))) (by kernel_rfl) ?_
            change wpAnyH _ _ _ _ _ _ _ _ (World.drew _)
            generalize wr.drew = V3 at *
            refine tk 1 (.slice (some ⟨gr, 0, none⟩) (LD.length) cb) HC0.out ?_
            try simp only [Act.put, jj1, jj2, jj3, jj4, jj5, jj6]
            refine tk 2 (.int .i64 (j : Int)) HC0.out ?_
            refine tk 3 (.pointer (some ⟨gr, j, none⟩)) HC0.out ?_
            refine ta 4 (.int .i64 (x : Int)) rfl (Or.inl ⟨by rfl, fun w9 h9 => by have h5 := h9; go_simp⟩) HC0.out ?_
            try simp only [Act.put, jj1, jj2, jj3, jj4, jj5, jj6]
            refine wpAnyH_all (rs := [0, 5]) (by kernel_rfl) (by simp) (AllH.cons rfl (fun K hK => ?_) (AllH.cons rfl (fun K hK => ?_) AllH.nil))
            · skip
              refine do_ld ty24 rfl (.tmp 12) rfl rfl [.slice (some ⟨B, 0, none⟩) n k, .int .i64 s.now] rfl (range_blk (cs := [.slice (some ⟨B, 0, none⟩) n k, .int .i64 s.now]) KX.out.b2) ?_
              refine hK _ _ ⟨HC0.out, ?_⟩
              clear hK K
              try simp only [Act.put, jj1, jj2, jj3, jj4, jj5, jj6]
              refine wpAnyH_all (rs := [5]) (by kernel_rfl) (by simp) (AllH.cons rfl (fun K hK => ?_) AllH.nil)
              refine do_ld ty50 rfl (.tmp 13) rfl rfl (cx (.slice va vn vc) s.cur s.m) (cx_len hml2) (range_blk (cs := (cx (.slice va vn vc) s.cur s.m)) KX.out.b3) ?_
              refine hK _ _ ⟨HC0.out, ?_⟩
              clear hK K
              try simp only [Act.put, jj1, jj2, jj3, jj4, jj5, jj6]
              refine wpAnyH_all (rs := [6]) (by kernel_rfl) (by simp) (AllH.cons rfl (fun K hK => ?_) AllH.nil)
              go_simp
              refine (CC.out).mono ?_
              rintro e wc1 hx
              obtain ⟨va2, vn2, vc2, H2, F2, rfl, hK⟩ := KX.out.cross hx
              have KY := mkH hK
              have hc1 := row_at KY.out.r2 HJx.out
              have HC1 := mkH hc1
              clear hx hK CC KX hc1
              dsimp only
              refine hK _ _ ⟨HC1.out, ?_⟩
              clear hK K
              refine tk 7 (.tuple #[.agg #[.slice (some ⟨B, 0, none⟩) n k, .int .i64 s2.now], .agg (cxa (.slice va2 vn2 vc2) s2.cur s2.m)]) HC1.out ?_
              try simp only [Act.put, jj1, jj2, jj3, jj4, jj5, jj6]
              refine tk 8 (.agg #[.slice (some ⟨B, 0, none⟩) n k, .int .i64 s2.now]) HC1.out ?_
              refine tk 9 (.agg (cxa (.slice va2 vn2 vc2) s2.cur s2.m)) HC1.out ?_
              try simp only [Act.put, jj1, jj2, jj3, jj4, jj5, jj6]
              refine wpAnyH_all (rs := [10]) (by kernel_rfl) (by simp) (AllH.cons rfl (fun K hK => ?_) AllH.nil)
              have t24 : Hid (wc1.there q2 0 2) := there_blk (cs := [.slice (some ⟨B, 0, none⟩) n k, .int .i64 s.now]) KY.out.b2
              have KZ := mkH (KY.out.put2 s2.now)
              have HC2 := mkH (row_at KZ.out.r2 HJx.out)
              refine do_st ty24 rfl (.tmp 12) (.tmp 80) rfl rfl [.slice (some ⟨B, 0, none⟩) n k, .int .i64 s2.now] rfl rfl t24.out (fun v hv => by simp at hv; rcases hv with rfl | rfl <;> rfl) ?_
              clear t24 KY HC1
              generalize wc1.setCells q2 0 [.slice (some ⟨B, 0, none⟩) n k, .int .i64 s2.now] = wc2 at *
              refine hK _ _ ⟨HC2.out, ?_⟩
              clear hK K
              try simp only [Act.put, jj1, jj2, jj3, jj4, jj5, jj6]
              refine wpAnyH_all (rs := [11]) (by kernel_rfl) (by simp) (AllH.cons rfl (fun K hK => ?_) AllH.nil)
              have t50 : Hid (wc2.there q3 0 29) := by have := there_blk (cs := (cx (.slice va vn vc) s.cur s.m)) KZ.out.b3; rwa [cx_len hml2] at this
              have KW := mkH (KZ.out.put3 (v' := .slice va2 vn2 vc2) (cu' := s2.cur) hml2 KZ.out.mw.len)
              have HC3 := mkH (row_at KW.out.r2 HJx.out)
              refine do_st ty50 rfl (.tmp 13) (.tmp 81) rfl rfl (cx (.slice va2 vn2 vc2) s2.cur s2.m) rfl (cx_len KZ.out.mw.len) t50.out cx_one ?_
              clear t50 KZ HC2
              generalize wc2.setCells q3 0 (cx (.slice va2 vn2 vc2) s2.cur s2.m) = wc3 at *
              refine hK _ _ ⟨HC3.out, ?_⟩
              clear hK K
              try simp only [Act.put, jj1, jj2, jj3, jj4, jj5, jj6]
              refine wpAnyH_done (by kernel_rfl) ?_ _
              go_wp2
              go_roundg go
              case measure => omega
              case rel => exact ⟨j + 1, va2, vn2, vc2, H2, F2, by go_num, by omega, by rw [HS2.out]; exact KW.out⟩
            · skip
              refine do_ld ty50 rfl (.tmp 13) rfl rfl (cx (.slice va vn vc) s.cur s.m) (cx_len hml2) (range_blk (cs := (cx (.slice va vn vc) s.cur s.m)) KX.out.b3) ?_
              refine hK _ _ ⟨HC0.out, ?_⟩
              clear hK K
              try simp only [Act.put, jj1, jj2, jj3, jj4, jj5, jj6]
              refine wpAnyH_all (rs := [0]) (by kernel_rfl) (by simp) (AllH.cons rfl (fun K hK => ?_) AllH.nil)
              refine do_ld ty24 rfl (.tmp 12) rfl rfl [.slice (some ⟨B, 0, none⟩) n k, .int .i64 s.now] rfl (range_blk (cs := [.slice (some ⟨B, 0, none⟩) n k, .int .i64 s.now]) KX.out.b2) ?_
              refine hK _ _ ⟨HC0.out, ?_⟩
              clear hK K
              try simp only [Act.put, jj1, jj2, jj3, jj4, jj5, jj6]
              refine wpAnyH_all (rs := [6]) (by kernel_rfl) (by simp) (AllH.cons rfl (fun K hK => ?_) AllH.nil)
              go_simp
              refine (CC.out).mono ?_
              rintro e wc1 hx
              obtain ⟨va2, vn2, vc2, H2, F2, rfl, hK⟩ := KX.out.cross hx
              have KY := mkH hK
              have hc1 := row_at KY.out.r2 HJx.out
              have HC1 := mkH hc1
              clear hx hK CC KX hc1
              dsimp only
              refine hK _ _ ⟨HC1.out, ?_⟩
              clear hK K
              refine tk 7 (.tuple #[.agg #[.slice (some ⟨B, 0, none⟩) n k, .int .i64 s2.now], .agg (cxa (.slice va2 vn2 vc2) s2.cur s2.m)]) HC1.out ?_
              refine tk 8 (.agg #[.slice (some ⟨B, 0, none⟩) n k, .int .i64 s2.now]) HC1.out ?_
              try simp only [Act.put, jj1, jj2, jj3, jj4, jj5, jj6]
              refine tk 9 (.agg (cxa (.slice va2 vn2 vc2) s2.cur s2.m)) HC1.out ?_
              try simp only [Act.put, jj1, jj2, jj3, jj4, jj5, jj6]
              refine wpAnyH_all (rs := [10]) (by kernel_rfl) (by simp) (AllH.cons rfl (fun K hK => ?_) AllH.nil)
              have t24 : Hid (wc1.there q2 0 2) := there_blk (cs := [.slice (some ⟨B, 0, none⟩) n k, .int .i64 s.now]) KY.out.b2
              have KZ := mkH (KY.out.put2 s2.now)
              have HC2 := mkH (row_at KZ.out.r2 HJx.out)
              refine do_st ty24 rfl (.tmp 12) (.tmp 80) rfl rfl [.slice (some ⟨B, 0, none⟩) n k, .int .i64 s2.now] rfl rfl t24.out (fun v hv => by simp at hv; rcases hv with rfl | rfl <;> rfl) ?_
              clear t24 KY HC1
              generalize wc1.setCells q2 0 [.slice (some ⟨B, 0, none⟩) n k, .int .i64 s2.now] = wc2 at *
              refine hK _ _ ⟨HC2.out, ?_⟩
              clear hK K
              try simp only [Act.put, jj1, jj2, jj3, jj4, jj5, jj6]
              refine wpAnyH_all (rs := [11]) (by kernel_rfl) (by simp) (AllH.cons rfl (fun K hK => ?_) AllH.nil)
              have t50 : Hid (wc2.there q3 0 29) := by have := there_blk (cs := (cx (.slice va vn vc) s.cur s.m)) KZ.out.b3; rwa [cx_len hml2] at this
              have KW := mkH (KZ.out.put3 (v' := .slice va2 vn2 vc2) (cu' := s2.cur) hml2 KZ.out.mw.len)
              have HC3 := mkH (row_at KW.out.r2 HJx.out)
              refine do_st ty50 rfl (.tmp 13) (.tmp 81) rfl rfl (cx (.slice va2 vn2 vc2) s2.cur s2.m) rfl (cx_len KZ.out.mw.len) t50.out cx_one ?_
              clear t50 KZ HC2
              generalize wc2.setCells q3 0 (cx (.slice va2 vn2 vc2) s2.cur s2.m) = wc3 at *
              refine hK _ _ ⟨HC3.out, ?_⟩
              clear hK K
              try simp only [Act.put, jj1, jj2, jj3, jj4, jj5, jj6]
              refine wpAnyH_done (by kernel_rfl) ?_ _
              go_wp2
              go_roundg go
              case measure => omega
              case rel => exact ⟨j + 1, va2, vn2, vc2, H2, F2, by go_num, by omega, by rw [HS2.out]; exact KW.out⟩
          · have hj' : ¬ (j : Int) < (LD.length : Int) := by omega
            have hjl : (LD.take j) = LD := List.take_of_length_le (by omega)
            rw [hjl, HS1.out] at KX
            obtain ⟨nw, hnw⟩ : ∃ x, S1.now = x := ⟨_, rfl⟩
            obtain ⟨cu, hcu⟩ : ∃ x, S1.cur = x := ⟨_, rfl⟩
            obtain ⟨mm, hmm⟩ : ∃ x, S1.m = x := ⟨_, rfl⟩
            have hmm2 : mm.length = 27 := by rw [← hmm]; exact KX.out.mw.len
            have HFIN : Hid (∀ W, Below w.heap.size w W → Hst lo p W B H X S → (∃ hi, Ls p hi W (.slice va vn vc) F) → CrQ 0 (crW 0 S1) w (.returned (.tuple #[.agg #[.slice (some ⟨B, 0, none⟩) n k, .int .i64 nw], .agg (cxa (.slice va vn vc) cu mm), .int .i64 0])) W) := fun W h1 h2 h3 => by
              rw [← hnw, ← hcu, ← hmm, ← KX.out.hn]
              exact crq_ok KX.out.g KX.out.e h2 h3 KX.out.fl KX.out.mw (by rw [KX.out.hn]; exact KX.out.hk) (by have := KX.out.l0; omega) KX.out.lp h1
            have UE := mkH (KX.out.keep (Below.refl _ _).drew)
            have B7 : Hid (Blk wr.drew q2 24 #[.slice (some ⟨B, 0, none⟩) n k, .int .i64 nw]) := by unfold Hid; rw [← hnw]; exact UE.out.b2
            have B8 : Hid (Blk wr.drew q3 50 (cxa (.slice va vn vc) cu mm)) := by unfold Hid; rw [← hcu, ← hmm]; exact UE.out.b3
            have N78 : Hid (q2 ≠ w.heap.size + 1 + 1 ∧ q3 ≠ w.heap.size + 1 + 1 + 1) := ⟨by have := KX.out.n2; omega, by have := KX.out.n3; omega⟩
            clear hnw hcu hmm KX hjl hgo
            go_upto_region 19 with fail
            refine wp_region_held (S := fun w' => Blk w' q2 24 #[.slice (some ⟨B, 0, none⟩) n k, .int .i64 nw] ∧ Blk w' q3 50 (cxa (.slice va vn vc) cu mm)) (by kernel_rfl) ?_
            change wpAnyH _ _ _ _ _ _ _ _ (World.drew _)
            generalize wr.drew = V4 at *
            refine ta 0 (.agg #[.slice (some ⟨B, 0, none⟩) n k, .int .i64 nw]) rfl (Or.inl ⟨by rfl, fun w9 h9 => by obtain ⟨h1, h2⟩ := h9; have h3 : w9.cell? ⟨q2, 0, none⟩ = some (.slice (some ⟨B, 0, none⟩) n k) := h1.cell rfl; have h4 : w9.cell? ⟨q2, 1, none⟩ = some (.int .i64 nw) := h1.cell rfl; go_simp⟩) ⟨B7.out, B8.out⟩ ?_
            refine ta 1 (.agg (cxa (.slice va vn vc) cu mm)) rfl (yi_ld ty50 rfl (.tmp 13) rfl rfl (cx (.slice va vn vc) cu mm) (cx_len hmm2) (fun _ h => range_blk h.2)) ⟨B7.out, B8.out⟩ ?_
            try simp only [Act.put, jj1, jj2, jj3, jj4, jj5, jj6]
            refine wpAnyH_all (rs := [2]) (by kernel_rfl) (by simp) (AllH.cons rfl (fun K hK => ?_) AllH.nil)
            have t24 : Hid (V4.there (w.heap.size + 1 + 1) 0 2) := there_blk (cs := [.slice none 0 0, .int .i64 0]) UE.out.u.b3
            have G1 : Hid (V4.grownBy (V4.setCells (w.heap.size + 1 + 1) 0 [.slice (some ⟨B, 0, none⟩) n k, .int .i64 nw]) (some (w.heap.size + 1 + 1))) := grown_setCells _ _ _
            have D2 : Hid (Blk (V4.setCells (w.heap.size + 1 + 1) 0 [.slice (some ⟨B, 0, none⟩) n k, .int .i64 nw]) (w.heap.size + 1 + 1) 24 #[.slice (some ⟨B, 0, none⟩) n k, .int .i64 nw]) := put_blk (cs := [.slice (some ⟨B, 0, none⟩) n k, .int .i64 nw]) (old := [.slice none 0 0, .int .i64 0]) rfl UE.out.u.b3
            have D7 := mkH (B7.out.grown G1.out (fun e => by injection e with e; exact N78.out.1 e))
            have D8 := mkH (B8.out.wr (wr_of UE.out.u.b3 G1.out) (by decide))
            have D4 := mkH (UE.out.u.b4.wr (wr_of UE.out.u.b3 G1.out) (by decide))
            have DH := mkH (UE.out.hst.wr (wr_of UE.out.u.b3 G1.out) (by decide) (by decide) (by decide))
            have DE := mkH (UE.out.eds.wr (wr_of UE.out.u.b3 G1.out) (by decide) (by decide))
            have DL : Hid (Below w.heap.size w (V4.setCells (w.heap.size + 1 + 1) 0 [.slice (some ⟨B, 0, none⟩) n k, .int .i64 nw])) := below_setCells (by omega) _ _ UE.out.u.bel
            refine do_st ty24 rfl (.tmp 6) (.tmp 82) rfl rfl [.slice (some ⟨B, 0, none⟩) n k, .int .i64 nw] rfl rfl t24.out (fun v hv => by simp at hv; rcases hv with rfl | rfl <;> rfl) ?_
            clear t24 G1 UE B7 B8
            generalize V4.setCells (w.heap.size + 1 + 1) 0 [.slice (some ⟨B, 0, none⟩) n k, .int .i64 nw] = w7x at *
            refine hK _ _ ⟨⟨D7.out, D8.out⟩, ?_⟩
            clear hK K
            try simp only [Act.put, jj1, jj2, jj3, jj4, jj5, jj6]
            refine wpAnyH_all (rs := [3]) (by kernel_rfl) (by simp) (AllH.cons rfl (fun K hK => ?_) AllH.nil)
            have t50 : Hid (w7x.there (w.heap.size + 1 + 1 + 1) 0 29) := by have := there_blk (cs := cx (.slice none 0 0) 0 Z) D4.out; rwa [cx_len hZl] at this
            have G1 : Hid (w7x.grownBy (w7x.setCells (w.heap.size + 1 + 1 + 1) 0 (cx (.slice va vn vc) cu mm)) (some (w.heap.size + 1 + 1 + 1))) := grown_setCells _ _ _
            have X3 : Hid (Blk (w7x.setCells (w.heap.size + 1 + 1 + 1) 0 (cx (.slice va vn vc) cu mm)) (w.heap.size + 1 + 1 + 1) 50 (cxa (.slice va vn vc) cu mm)) := put_blk (cs := (cx (.slice va vn vc) cu mm)) (old := cx (.slice none 0 0) 0 Z) (by rw [cx_len hZl, cx_len hmm2]) D4.out
            have X2 := mkH (D2.out.wr (wr_of D4.out G1.out) (by decide))
            have X7 := mkH (D7.out.wr (wr_of D4.out G1.out) (by decide))
            have X8 := mkH (D8.out.grown G1.out (fun e => by injection e with e; exact N78.out.2 e))
            have XH := mkH (DH.out.wr (wr_of D4.out G1.out) (by decide) (by decide) (by decide))
            have XE := mkH (DE.out.wr (wr_of D4.out G1.out) (by decide) (by decide))
            have XL : Hid (Below w.heap.size w (w7x.setCells (w.heap.size + 1 + 1 + 1) 0 (cx (.slice va vn vc) cu mm))) := below_setCells (by omega) _ _ DL.out
            refine do_st ty50 rfl (.tmp 7) (.tmp 83) rfl rfl (cx (.slice va vn vc) cu mm) rfl (cx_len hmm2) t50.out cx_one ?_
            clear t50 G1 D2 D4 D7 D8 DH DE DL
            generalize w7x.setCells (w.heap.size + 1 + 1 + 1) 0 (cx (.slice va vn vc) cu mm) = w8x at *
            refine hK _ _ ⟨⟨X7.out, X8.out⟩, ?_⟩
            clear hK K
            refine tk 4 (.int .i64 0) ⟨X7.out, X8.out⟩ ?_
            try simp only [Act.put, jj1, jj2, jj3, jj4, jj5, jj6]
            refine wpAnyH_done (by kernel_rfl) ?_ _
            have l24 := ld24v X2.out
            have l50 := ld50v hmm2 X3.out
            go_wp2_with fail
            exact bodyPost_ret (v := .tuple #[.agg #[.slice (some ⟨B, 0, none⟩) n k, .int .i64 nw], .agg (cxa (.slice va vn vc) cu mm), .int .i64 0]) (by simp [results, Try.results23, asAddr, l24, l50]) rfl (by rw [hq.out]; exact HFIN.out _ XL.out XH.out ⟨_, XE.out⟩)
end Go.Proofs.Ytaahklapoppgaaa

namespace Go.Proofs.Ytaahklapoppgaaa
open Go.RowKit

set_option maxRecDepth 8000
theorem zv41r : (Try.prog.info? 41).map (·.zero) = some (some (.agg (mk zm))) := by kernel_rfl
theorem b50r (w : World) : (Instr.build 50 #[]).run Try.prog w = .ok (.agg (cxa (.slice none 0 0) 0 zm)) w := b50 w
theorem rgo_any (ao : Option Addr) (n c : Nat) (now tt : Int) (G : List Nr) (m : List Int) (w : World) (HG : Hid (Grz w ao G)) (hn : G.length = n) (hm : Mw m) (hbig : Hid (∀ i, (at' (G.map Nr.d) i).ed.length ≤ 1048576)) :
    Calls Try.prog 23 #[.agg #[.slice ao n c, .int .i64 now], .int .i64 tt, .agg (mk m)] w fun e w' => CrQ (goE (G.map Nr.d) now tt m) (crW (goE (G.map Nr.d) now tt m) ((Wk.new (G.map Nr.d) now m).go (pathU (G.map Nr.d) now.toNat tt.toNat) (pathD (G.map Nr.d) now.toNat tt.toNat))) w e w' :=
  rgo_walk zm rfl rfl z50 b50r ao n c now tt G m w HG hn hm hbig
    (fun lo p B n k i now va vn vc cur m H X S F s W h1 h2 h3 h4 h5 h6 h7 h8 => rcross_up zm rfl z50 (fun w => zv_run zv41r w) zr rfl z63 lo p B n k i now va vn vc cur m H X S F s W h1 h2 h3 h4 h5 h6 h7 h8)
    (fun lo p B n k i now va vn vc cur m H X S F s W k0 h1 h2 h3 h4 h5 h6 h7 h8 h9 h10 h11 => rcross_down zm rfl z50 (fun w => zv_run zv41r w) zr rfl z63 lo p B n k i now va vn vc cur m H X S F s W h1 h2 h3 h4 h5 h6 h7 k0 h9 h10 h11 h8)
/-- what bounds an answer -/
structure Sb (s : Wk) : Prop where
  g : s.G.length ≤ 1048576
  e : s.E.length ≤ 8594128896
  m : s.m.length = 27
theorem sb_crw {z : Int} {s : Wk} (h : Sb s) : Sb (crW z s) := by
  unfold crW
  split
  · exact h
  · exact ⟨by simp, by simp, rfl⟩
theorem folU_mlen : ∀ (U : List Nat) (s : Wk), s.m.length = 27 → (U.foldl Wk.up s).m.length = 27
  | [], _, h => h
  | x :: U, s, _ => folU_mlen U (s.up x) (s.up_mlen x)
theorem folD_mlen : ∀ (U : List Nat) (s : Wk), s.m.length = 27 → (U.foldl Wk.down s).m.length = 27
  | [], _, h => h
  | x :: U, s, _ => folD_mlen U (s.down x) (s.down_mlen x)
theorem sb_go {D : List Nd} {now tt : Int} {m : List Int} (hr : Right D now) (ht : 0 ≤ tt ∧ tt < (D.length : Int)) (hm : m.length = 27) (he : ∀ i, (at' D i).ed.length ≤ 1048576) : Sb ((Wk.new D now m).go (pathU D now.toNat tt.toNat) (pathD D now.toNat tt.toNat)) := by
  obtain ⟨-, -, l1, l2, -⟩ := path_in (i := now.toNat) (j := tt.toNat) hr.low hr.now_lt (by omega)
  have hsz := hr.sz.1
  have h1 := foldU_el (q := 1048576) (pathU D now.toNat tt.toNat) (Wk.new D now m) he
  have h2 := foldD_el (q := 1048576) (pathD D now.toNat tt.toNat) ((pathU D now.toNat tt.toNat).foldl Wk.up (Wk.new D now m)) (fun i => by rw [ed_sk (foldU_sk _ _ i)]; exact he i)
  have h3 : (pathU D now.toNat tt.toNat).length * 1048576 ≤ 4097 * 1048576 := Nat.mul_le_mul_right _ (by omega)
  have h4 : (pathD D now.toNat tt.toNat).length * 1048576 ≤ 4097 * 1048576 := Nat.mul_le_mul_right _ (by omega)
  have h5 : (Wk.new D now m).E.length = 0 := rfl
  refine ⟨?_, ?_, ?_⟩
  · unfold Wk.go; rw [foldD_len, foldU_len]; show D.length ≤ _; omega
  · unfold Wk.go; omega
  · unfold Wk.go; exact folD_mlen _ _ (folU_mlen _ _ hm)
theorem goE_ok {D : List Nd} {now tt : Int} {m : List Int} (h : goE D now tt m = 0) : Right D now ∧ 0 ≤ tt ∧ tt < (D.length : Int) := by
  unfold goE at h
  by_cases h1 : Right D now
  · rw [ti_t h1] at h
    by_cases h2 : MOk m
    · rw [ti_t h2] at h
      by_cases h3 : tt < 0
      · rw [ti_t h3] at h; exact absurd h (by decide)
      · rw [ti_f h3] at h
        by_cases h4 : (D.length : Int) ≤ tt
        · rw [ti_t h4] at h; exact absurd h (by decide)
        · exact ⟨h1, by omega, by omega⟩
    · rw [ti_f h2] at h; exact absurd h (by decide)
  · rw [ti_f h1] at h; exact absurd h (by decide)
end Go.Proofs.Ytaahklapoppgaaa

