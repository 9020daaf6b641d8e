/- bank.Get and bank.Valid. -/
import Derived.Test.YtienamngmalkaaaKep
namespace Go.Proofs.Ytienamngmalkaaa
open Go.RowKit

set_option maxRecDepth 8000
/-- a content -/
structure Ct where
  s : Bool
  l : Bool
  t : List UInt8
/-- a register reads as a content -/
structure Rd (W : World) (r : Rg) (c : Ct) : Prop where
  s : r.s = c.s
  l : r.l = c.l
  t : Tx W r.a r.n r.c c.t
  n : r.n ≤ 140737488351232
def Rdb (W : World) (L : List Rg) (P : List Ct) : Prop := L.length = 37 ∧ P.length = 37 ∧ ∀ (k : Nat) (r : Rg) (c : Ct), L[k]? = some r → P[k]? = some c → Rd W r c
theorem Rd.keep {W W' : World} {r : Rg} {c : Ct} (h : Rd W r c) (hb : Below W.heap.size W W') : Rd W' r c := ⟨h.s, h.l, h.t.keep hb, h.n⟩
theorem Rdb.keep {W W' : World} {L : List Rg} {P : List Ct} (h : Rdb W L P) (hb : Below W.heap.size W W') : Rdb W' L P := ⟨h.1, h.2.1, fun k r c h1 h2 => (h.2.2 k r c h1 h2).keep hb⟩
def zc : Ct := ⟨false, false, []⟩
theorem rix_lt {x k : Nat} (h : rix x = some k) : k < 37 := by
  unfold rix at h
  repeat' split at h
  all_goals first | (cases h; omega) | cases h
/-- what Get answers -/
def getP (P : List Ct) (x : Nat) : Ct × Int := match rix x with
  | none => (zc, 150)
  | some k => if (P.getD k zc).s then (P.getD k zc, 0) else (zc, 151)
def gE (s l : Bool) (v : Value) (e : Int) : Ending := .returned (.tuple #[.agg #[.bool s, .bool l, v], .int .i64 e])
theorem rgp_none (B : Nat) : rgp B none = .pointer none := rfl
theorem rgp_some (B k : Nat) : rgp B (some k) = .pointer (some ⟨B, 3 * k, none⟩) := rfl
set_option maxHeartbeats 2000000 in
theorem get_any (L : List Rg) (P : List Ct) (x : Nat) (w : World) (hx : x < 256) (HR : Hid (Rdb w L P)) :
    Calls Try.prog 11 #[.agg (bk L), .int .u8 (x : Int)] w fun e w' => ∃ a c n, n = (getP P x).1.t.length ∧ e = gE (getP P x).1.s (getP P x).1.l (.slice a n c) (getP P x).2 ∧ w'.ownsRow w.heap.size 5 1 (.slice a n c) n (bv (getP P x).1.t) ∧ Below w.heap.size w w' := by
  unfold gE
  generalize hW2 : (w.alloc (.cells (bk L) 28)).alloc (.cells #[.bool false, .bool false, .slice none 0 0] 24) = W2
  have hz2 : W2.heap.size = w.heap.size + 1 + 1 := by subst hW2; simp
  have BE : Hid (Below w.heap.size w W2) := by subst hW2; exact bAlloc (bAlloc (Below.refl _ _) _) _
  have B1 : Hid (Blk W2 w.heap.size 28 (bk L)) := by subst hW2; exact (Blk.new w 28 _).keep (bAlloc (Below.refl _ _) _)
  have B2 : Hid (Blk W2 (w.heap.size + 1) 24 #[.bool false, .bool false, .slice none 0 0]) := by
    subst hW2
    have := Blk.new (w.alloc (.cells (bk L) 28)) 24 #[.bool false, .bool false, .slice none 0 0]
    rwa [World.size_alloc] at this
  have CR := Hid.mk' (register_any w.heap.size x W2 hx)
  have r0 : W2.cell? ⟨w.heap.size + 1, 0, none⟩ = some (.bool false) := B2.out.cell rfl
  have r1 : W2.cell? ⟨w.heap.size + 1, 1, none⟩ = some (.bool false) := B2.out.cell rfl
  have r2 : W2.cell? ⟨w.heap.size + 1, 2, none⟩ = some (.slice none 0 0) := B2.out.cell rfl
  have g0 := B2.out.frozen 0
  have g1 := B2.out.frozen 1
  have g2 := B2.out.frozen 2
  unfold getP
  cases hk : rix x with
  | none =>
    rw [hk, rgp_none] at CR
    dsimp only
    have hlv := ld24 (((B2.out.set (j := 0) (.bool false)).set (j := 1) (.bool false)).set (j := 2) (.slice none 0 0))
    go_enter Try.func11, Try.ntmps11
    go_wp2_with fail
    refine CR.out.mono ?_
    rintro e w3 ⟨rfl, hw⟩
    have hq := hw.symm
    subst hq
    clear hw CR hW2
    go_wp2
    exact bodyPost_ret (v := .tuple #[.agg #[.bool false, .bool false, .slice none 0 0], .int .i64 150]) (by simp [results, Try.results11, asAddr, hlv]) rfl ⟨_, _, _, rfl, rfl, World.ownsRow_nil _ _ _ _, bset3' BE.out _ _ _⟩
  | some k =>
    have hk37 := rix_lt hk
    rw [hk, rgp_some] at CR
    dsimp only
    obtain ⟨hL, hP, hrd⟩ := HR.out
    obtain ⟨r, hr⟩ : ∃ r, L[k]? = some r := ⟨_, List.getElem?_eq_getElem (by omega)⟩
    obtain ⟨ct, hc⟩ : ∃ c, P[k]? = some c := ⟨_, List.getElem?_eq_getElem (by omega)⟩
    have hPk : P.getD k zc = ct := by rw [List.getD_eq_getElem?_getD, hc]; rfl
    rw [hPk]
    obtain ⟨c0, c1, c2⟩ := B1.out.rg hr
    obtain ⟨cs, cl, ctx⟩ := ct
    obtain ⟨rs, rgl, ra, rn, rc⟩ := r
    obtain ⟨e1, e2, hT, hn⟩ := hrd k _ _ hr hc
    dsimp only at e1 e2 hT hn c0 c1 c2 ⊢
    subst e1 e2
    have HT := Hid.mk' hT
    clear hT hrd hr hc hPk hk hL hP HR
    cases rs with
    | false =>
      rw [if_neg (by simp)]
      have hlv := ld24 (((B2.out.set (j := 0) (.bool false)).set (j := 1) (.bool false)).set (j := 2) (.slice none 0 0))
      go_enter Try.func11, Try.ntmps11
      go_wp2_with fail
      refine CR.out.mono ?_
      rintro e w3 ⟨rfl, hw⟩
      have hq := hw.symm
      subst hq
      clear hw CR hW2
      go_wp2
      exact bodyPost_ret (v := .tuple #[.agg #[.bool false, .bool false, .slice none 0 0], .int .i64 151]) (by simp [results, Try.results11, asAddr, hlv]) rfl ⟨_, _, _, rfl, rfl, World.ownsRow_nil _ _ _ _, bset3' BE.out _ _ _⟩
    | true =>
      rw [if_pos rfl]
      have CA := Hid.mk' (alone_any true rgl ra rn rc ctx W2 (HT.out.keep BE.out) (by omega))
      have hlen := Hid.mk' HT.out.len
      go_enter Try.func11, Try.ntmps11
      go_wp2_with fail
      refine CR.out.mono ?_
      rintro e w3 ⟨rfl, hw⟩
      have hq := hw.symm
      subst hq
      clear hw CR hW2
      go_wp2_with fail
      refine CA.out.mono ?_
      rintro e w4 ⟨a4, n4, rfl, hO4, hb4⟩
      have O4 := Hid.mk' hO4
      rw [hz2] at O4
      have K2 := Hid.mk' (B2.out.keep hb4)
      have BF := Hid.mk' (bT BE.out hb4)
      clear hO4 hb4 r0 r1 r2 g0 g1 g2 c0 c1 c2 CA BE B1 B2 hz2
      have r0 : w4.cell? ⟨w.heap.size + 1, 0, none⟩ = some (.bool false) := K2.out.cell rfl
      have r1 : w4.cell? ⟨w.heap.size + 1, 1, none⟩ = some (.bool false) := K2.out.cell rfl
      have r2 : w4.cell? ⟨w.heap.size + 1, 2, none⟩ = some (.slice none 0 0) := K2.out.cell rfl
      have g0 := K2.out.frozen 0
      have g1 := K2.out.frozen 1
      have g2 := K2.out.frozen 2
      have hlv := ld24 (((K2.out.set (j := 0) (.bool true)).set (j := 1) (.bool rgl)).set (j := 2) (.slice a4 rn n4))
      go_wp2
      exact bodyPost_ret (v := .tuple #[.agg #[.bool true, .bool rgl, .slice a4 rn n4], .int .i64 0]) (by simp [results, Try.results11, asAddr, hlv]) rfl ⟨_, _, _, hlen.out.symm, rfl, own_set3 O4.out, bset3' BF.out _ _ _⟩
theorem valid_any (x : Nat) (w : World) (hx : x < 256) :
    Calls Try.prog 13 #[.int .u8 (x : Int)] w fun e w' => e = .returned (.bool (rix x).isSome) ∧ Below w.heap.size w w' := by
  have hz := z28
  have hbz := b28
  have CR := Hid.mk' (register_any w.heap.size x (w.alloc (.cells (bk zb) 28)) hx)
  generalize bk zb = Z at *
  cases hk : rix x with
  | none =>
    rw [hk, rgp_none] at CR
    go_enter Try.func13, Try.ntmps13
    go_wp2_with fail
    refine CR.out.mono ?_
    rintro e w3 ⟨rfl, hw⟩
    have hq := hw.symm
    subst hq
    clear hw CR
    go_wp2
    go_ret
    exact ⟨rfl, bAlloc (Below.refl _ _) _⟩
  | some k =>
    rw [hk, rgp_some] at CR
    go_enter Try.func13, Try.ntmps13
    go_wp2_with fail
    refine CR.out.mono ?_
    rintro e w3 ⟨rfl, hw⟩
    have hq := hw.symm
    subst hq
    clear hw CR
    go_wp2
    go_ret
    exact ⟨rfl, bAlloc (Below.refl _ _) _⟩
end Go.Proofs.Ytienamngmalkaaa
