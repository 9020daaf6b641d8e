/- quoinref15.Same and SameBank of the same contents. -/
import Derived.Test.YtienamngmalkaaaPut
namespace Go.Proofs.Ytienamngmalkaaa
open Go.RowKit

set_option maxRecDepth 8000
theorem same_yes (s l : Bool) (a1 a2 : Option Addr) (n1 n2 c1 c2 : Nat) (t : List UInt8) (w : World) (T1 : Hid (Tx w a1 n1 c1 t)) (T2 : Hid (Tx w a2 n2 c2 t)) :
    Calls Try.prog 12 #[.agg #[.bool s, .bool l, .slice a1 n1 c1], .agg #[.bool s, .bool l, .slice a2 n2 c2]] w fun e w' => e = .returned (.bool true) ∧ Below w.heap.size w w' := by
  have B0 := Hid.mk' (bAlloc (bAlloc (Below.refl _ w) (.cells #[.bool s, .bool l, .slice a1 n1 c1] 24)) (.cells #[.bool s, .bool l, .slice a2 n2 c2] 24))
  have v1 := conv_tx (T1.out.keep B0.out)
  have v2 := conv_tx (T2.out.keep B0.out)
  go_enter Try.func12, Try.ntmps12
  go_wp2
  go_ret
  exact ⟨rfl, B0.out⟩
theorem same_rd {w : World} {r1 r2 : Rg} {c : Ct} (h1 : Rd w r1 c) (h2 : Rd w r2 c) :
    Calls Try.prog 12 #[.agg #[.bool r1.s, .bool r1.l, .slice r1.a r1.n r1.c], .agg #[.bool r2.s, .bool r2.l, .slice r2.a r2.n r2.c]] w fun e w' => e = .returned (.bool true) ∧ Below w.heap.size w w' := by
  rw [h1.s, h1.l, h2.s, h2.l]
  exact same_yes _ _ _ _ _ _ _ _ _ _ h1.t h2.t
/-- two banks, boxed -/
structure Sb (w W : World) (L M : List Rg) : Prop where
  b1 : Blk W w.heap.size 28 (bk L)
  b2 : Blk W (w.heap.size + 1) 28 (bk M)
  bel : Below w.heap.size w W
theorem Sb.keep {w W W' : World} {L M : List Rg} (h : Sb w W L M) (hb : Below W.heap.size W W') : Sb w W' L M := ⟨h.b1.keep hb, h.b2.keep hb, bT h.bel hb⟩
set_option maxHeartbeats 8000000 in
theorem sameBank_yes (L M : List Rg) (P : List Ct) (w : World) (H1 : Hid (Rdb w L P)) (H2 : Hid (Rdb w M P)) :
    Calls Try.prog 17 #[.agg (bk L), .agg (bk M)] w fun e w' => e = .returned (.bool true) ∧ Below w.heap.size w w' := by
  have hL := H1.out.1
  have hP := H1.out.2.1
  have hM := H2.out.1
  generalize hW2 : (w.alloc (.cells (bk L) 28)).alloc (.cells (bk M) 28) = W2
  have S0 : Hid (Sb w W2 L M) := by
    subst hW2
    refine ⟨(Blk.new w 28 _).keep (bAlloc (Below.refl _ _) _), ?_, bAlloc (bAlloc (Below.refl _ _) _) _⟩
    have := Blk.new (w.alloc (.cells (bk L) 28)) 28 (bk M)
    rwa [World.size_alloc] at this
  go_enter Try.func17, Try.ntmps17
  go_wp2_with fail
  clear hW2
  go_loopg [5] 9 (fun m x5 wx => ∃ i : Nat, x5 = .int .i64 (i : Int) ∧ i + m = 9 ∧ Hid (Sb w wx L M))
  case atStart => exact ⟨0, rfl, rfl, S0.out⟩
  case round =>
    obtain ⟨i, rfl, him, SI⟩ := hrel
    clear S0
    by_cases hi : i < 9
    · have hi' : (i : Int) < 9 := by omega
      have hbig : 3 * (2 + i) = 6 + i * 3 := by omega
      obtain ⟨r, hr⟩ : ∃ r, L[2 + i]? = some r := ⟨_, List.getElem?_eq_getElem (by omega)⟩
      obtain ⟨q, hq⟩ : ∃ r, M[2 + i]? = some r := ⟨_, List.getElem?_eq_getElem (by omega)⟩
      obtain ⟨c, hc⟩ : ∃ r, P[2 + i]? = some r := ⟨_, List.getElem?_eq_getElem (by omega)⟩
      obtain ⟨e0, e1, e2⟩ := SI.out.b1.rg hr
      obtain ⟨f0, f1, f2⟩ := SI.out.b2.rg hq
      rw [hbig] at e0 e1 e2 f0 f1 f2
      have D1 := (H1.out.2.2 _ _ _ hr hc).keep SI.out.bel
      have D2 := (H2.out.2.2 _ _ _ hq hc).keep SI.out.bel
      have CS := Hid.mk' (same_rd (w := wr.drew) (D1.keep (Below.refl _ _).drew) (D2.keep (Below.refl _ _).drew))
      obtain ⟨rs, rgl, ra, rn, rc⟩ := r
      obtain ⟨qs, qgl, qa, qn, qc⟩ := q
      dsimp only at e0 e1 e2 f0 f1 f2 CS
      clear hr hq hc hbig D1 D2
      go_wp2_with fail
      go_region_held3 (fun w' => w'.cell? ⟨w.heap.size, 6 + i * 3, none⟩ = some (.bool rs) ∧ w'.cell? ⟨w.heap.size, 6 + i * 3 + 1, none⟩ = some (.bool rgl) ∧ w'.cell? ⟨w.heap.size, 6 + i * 3 + 2, none⟩ = some (.slice ra rn rc) ∧ w'.cell? ⟨w.heap.size + 1, 6 + i * 3, none⟩ = some (.bool qs) ∧ w'.cell? ⟨w.heap.size + 1, 6 + i * 3 + 1, none⟩ = some (.bool qgl) ∧ w'.cell? ⟨w.heap.size + 1, 6 + i * 3 + 2, none⟩ = some (.slice qa qn qc)) (first | with_reducible assumption | simp [*, go_sem])
        (first | (go_at_call 12; refine CS.out.mono ?_; rintro e w5 ⟨rfl, hb5⟩; (have SJ := Hid.mk' (SI.out.keep (bD hb5))); (have u0 := hb5.cell (lt_of_cell e0)); (have u1 := hb5.cell (lt_of_cell e1)); (have u2 := hb5.cell (lt_of_cell e2)); (have u3 := hb5.cell (lt_of_cell f0)); (have u4 := hb5.cell (lt_of_cell f1)); (have u5 := hb5.cell (lt_of_cell f2)); (have e0 := u0.trans e0); (have e1 := u1.trans e1); (have e2 := u2.trans e2); (have f0 := u3.trans f0); (have f1 := u4.trans f1); (have f2 := u5.trans f2); clear hb5 u0 u1 u2 u3 u4 u5)
               | fail)
      go_wp2
      go_roundg (gk - 1)
      case rel => exact ⟨i + 1, by go_num, by omega, SJ.out⟩
      case measure => omega
    · have hi' : ¬ (i : Int) < 9 := by omega
      obtain rfl : i = 9 := by omega
      clear hi him
      have S0 := Hid.mk' SI.out
      clear SI
      go_wp2_with fail
      go_loopg [6] 26 (fun m x6 wx => ∃ i : Nat, x6 = .int .i64 (i : Int) ∧ i + m = 26 ∧ Hid (Sb w wx L M))
      case atStart => exact ⟨0, rfl, rfl, S0.out⟩
      case round =>
        obtain ⟨i, rfl, him, SI⟩ := hrel
        clear S0
        by_cases hi : i < 26
        · have hi' : (i : Int) < 26 := by omega
          have hbig : 3 * (11 + i) = 33 + i * 3 := by omega
          obtain ⟨r, hr⟩ : ∃ r, L[11 + i]? = some r := ⟨_, List.getElem?_eq_getElem (by omega)⟩
          obtain ⟨q, hq⟩ : ∃ r, M[11 + i]? = some r := ⟨_, List.getElem?_eq_getElem (by omega)⟩
          obtain ⟨c, hc⟩ : ∃ r, P[11 + i]? = some r := ⟨_, List.getElem?_eq_getElem (by omega)⟩
          obtain ⟨e0, e1, e2⟩ := SI.out.b1.rg hr
          obtain ⟨f0, f1, f2⟩ := SI.out.b2.rg hq
          rw [hbig] at e0 e1 e2 f0 f1 f2
          have D1 := (H1.out.2.2 _ _ _ hr hc).keep SI.out.bel
          have D2 := (H2.out.2.2 _ _ _ hq hc).keep SI.out.bel
          have CS := Hid.mk' (same_rd (w := wr.drew) (D1.keep (Below.refl _ _).drew) (D2.keep (Below.refl _ _).drew))
          obtain ⟨rs, rgl, ra, rn, rc⟩ := r
          obtain ⟨qs, qgl, qa, qn, qc⟩ := q
          dsimp only at e0 e1 e2 f0 f1 f2 CS
          clear hr hq hc hbig D1 D2
          go_wp2_with fail
          go_region_held3 (fun w' => w'.cell? ⟨w.heap.size, 33 + i * 3, none⟩ = some (.bool rs) ∧ w'.cell? ⟨w.heap.size, 33 + i * 3 + 1, none⟩ = some (.bool rgl) ∧ w'.cell? ⟨w.heap.size, 33 + i * 3 + 2, none⟩ = some (.slice ra rn rc) ∧ w'.cell? ⟨w.heap.size + 1, 33 + i * 3, none⟩ = some (.bool qs) ∧ w'.cell? ⟨w.heap.size + 1, 33 + i * 3 + 1, none⟩ = some (.bool qgl) ∧ w'.cell? ⟨w.heap.size + 1, 33 + i * 3 + 2, none⟩ = some (.slice qa qn qc)) (first | with_reducible assumption | simp [*, go_sem])
            (first | (go_at_call 12; refine CS.out.mono ?_; rintro e w5 ⟨rfl, hb5⟩; (have SJ := Hid.mk' (SI.out.keep (bD hb5))); (have u0 := hb5.cell (lt_of_cell e0)); (have u1 := hb5.cell (lt_of_cell e1)); (have u2 := hb5.cell (lt_of_cell e2)); (have u3 := hb5.cell (lt_of_cell f0)); (have u4 := hb5.cell (lt_of_cell f1)); (have u5 := hb5.cell (lt_of_cell f2)); (have e0 := u0.trans e0); (have e1 := u1.trans e1); (have e2 := u2.trans e2); (have f0 := u3.trans f0); (have f1 := u4.trans f1); (have f2 := u5.trans f2); clear hb5 u0 u1 u2 u3 u4 u5)
                   | fail)
          go_wp2
          go_roundg (gk - 1)
          case rel => exact ⟨i + 1, by go_num, by omega, SJ.out⟩
          case measure => omega
        · have hi' : ¬ (i : Int) < 26 := by omega
          obtain rfl : i = 26 := by omega
          clear hi him
          have S0 := Hid.mk' SI.out
          clear SI
          obtain ⟨r0, hr⟩ : ∃ r, L[0]? = some r := ⟨_, List.getElem?_eq_getElem (by omega)⟩
          obtain ⟨q0, hq⟩ : ∃ r, M[0]? = some r := ⟨_, List.getElem?_eq_getElem (by omega)⟩
          obtain ⟨c0, hc⟩ : ∃ r, P[0]? = some r := ⟨_, List.getElem?_eq_getElem (by omega)⟩
          have U0 := Hid.mk' (fun W (hW : Below w.heap.size w W) => same_rd ((H1.out.2.2 _ _ _ hr hc).keep hW) ((H2.out.2.2 _ _ _ hq hc).keep hW))
          have V0 := Hid.mk' (And.intro hr hq)
          clear hr hq hc
          obtain ⟨r1, hr⟩ : ∃ r, L[1]? = some r := ⟨_, List.getElem?_eq_getElem (by omega)⟩
          obtain ⟨q1, hq⟩ : ∃ r, M[1]? = some r := ⟨_, List.getElem?_eq_getElem (by omega)⟩
          obtain ⟨c1, hc⟩ : ∃ r, P[1]? = some r := ⟨_, List.getElem?_eq_getElem (by omega)⟩
          have U1 := Hid.mk' (fun W (hW : Below w.heap.size w W) => same_rd ((H1.out.2.2 _ _ _ hr hc).keep hW) ((H2.out.2.2 _ _ _ hq hc).keep hW))
          have V1 := Hid.mk' (And.intro hr hq)
          clear hr hq hc
          obtain ⟨e0, e1, e2⟩ := S0.out.b1.rg V0.out.1
          obtain ⟨f0, f1, f2⟩ := S0.out.b2.rg V0.out.2
          change wr.cell? ⟨w.heap.size, 0, none⟩ = _ at e0
          change wr.cell? ⟨w.heap.size, 1, none⟩ = _ at e1
          change wr.cell? ⟨w.heap.size, 2, none⟩ = _ at e2
          change wr.cell? ⟨w.heap.size + 1, 0, none⟩ = _ at f0
          change wr.cell? ⟨w.heap.size + 1, 1, none⟩ = _ at f1
          change wr.cell? ⟨w.heap.size + 1, 2, none⟩ = _ at f2
          go_wp2_with fail
          refine (U0.out _ S0.out.bel).mono ?_
          rintro e w5 ⟨rfl, hb5⟩
          have S5 := Hid.mk' (S0.out.keep hb5)
          clear e0 e1 e2 f0 f1 f2 hb5
          obtain ⟨e0, e1, e2⟩ := S5.out.b1.rg V1.out.1
          obtain ⟨f0, f1, f2⟩ := S5.out.b2.rg V1.out.2
          change w5.cell? ⟨w.heap.size, 3, none⟩ = _ at e0
          change w5.cell? ⟨w.heap.size, 4, none⟩ = _ at e1
          change w5.cell? ⟨w.heap.size, 5, none⟩ = _ at e2
          change w5.cell? ⟨w.heap.size + 1, 3, none⟩ = _ at f0
          change w5.cell? ⟨w.heap.size + 1, 4, none⟩ = _ at f1
          change w5.cell? ⟨w.heap.size + 1, 5, none⟩ = _ at f2
          go_wp2_with fail
          refine (U1.out _ S5.out.bel).mono ?_
          rintro e w6 ⟨rfl, hb6⟩
          have S6 := Hid.mk' (S5.out.keep hb6)
          clear e0 e1 e2 f0 f1 f2 hb6
          go_wp2
          go_ret
          exact ⟨rfl, S6.out.bel⟩
end Go.Proofs.Ytienamngmalkaaa
