/- quoinref15.Get. -/
import Derived.Test.YtienamngmalkaaaRg0
namespace Go.Proofs.Ytienamngmalkaaa
open Go.RowKit

set_option maxRecDepth 8000
/-- what Get answers of a register -/
def getQ (P : List Ct) (k : Nat) : Ct × Int := if (P.getD k zc).s then (P.getD k zc, 0) else (zc, 151)
set_option maxHeartbeats 4000000 in
theorem rget_z (L : List Rg) (P : List Ct) (w : World) (HR : Hid (Rdb w L P)) :
    Calls Try.prog 10 #[.agg (bk L), .int .u8 ((0 : Nat) : Int)] w fun e w' => ∃ a c n, n = (getQ P (0)).1.t.length ∧ e = .returned (.tuple #[.agg #[.bool (getQ P (0)).1.s, .bool (getQ P (0)).1.l, .slice a n c], .int .i64 (getQ P (0)).2]) ∧ w'.ownsRow w.heap.size 5 1 (.slice a n c) n (bv (getQ P (0)).1.t) ∧ Below w.heap.size w w' := by
  obtain ⟨hL, hP, hrd⟩ := HR.out
  obtain ⟨r, hr⟩ : ∃ r, L[0]? = some r := ⟨_, List.getElem?_eq_getElem (by omega)⟩
  obtain ⟨ct, hc⟩ : ∃ c, P[0]? = some c := ⟨_, List.getElem?_eq_getElem (by omega)⟩
  have hPk : P.getD (0) zc = ct := by rw [List.getD_eq_getElem?_getD, hc]; rfl
  unfold getQ
  rw [hPk]
  generalize hW2 : (w.alloc (.cells (bk L) 28)).alloc (.cells #[.bool false, .bool false, .slice none 0 0] 24) = W2
  have hz2 : W2.heap.size = w.heap.size + 1 + 1 := by subst hW2; simp
  have BE : Hid (Below w.heap.size w W2) := by subst hW2; exact bAlloc (bAlloc (Below.refl _ _) _) _
  have B1 : Hid (Blk W2 w.heap.size 28 (bk L)) := by subst hW2; exact (Blk.new w 28 _).keep (bAlloc (Below.refl _ _) _)
  have B2 : Hid (Blk W2 (w.heap.size + 1) 24 #[.bool false, .bool false, .slice none 0 0]) := by
    subst hW2
    have := Blk.new (w.alloc (.cells (bk L) 28)) 24 #[.bool false, .bool false, .slice none 0 0]
    rwa [World.size_alloc] at this
  obtain ⟨c0, c1, c2⟩ := B1.out.rg hr
  change W2.cell? ⟨w.heap.size, 0, none⟩ = _ at c0
  change W2.cell? ⟨w.heap.size, 1, none⟩ = _ at c1
  change W2.cell? ⟨w.heap.size, 2, none⟩ = _ at c2
  have CV := Hid.mk' (rvalid_any (0) W2 (by omega))
  rw [show (rix (0)).isSome = true from by rfl] at CV
  have CLT := Hid.mk' (fun W => letter_any (0) W (by omega))
  rw [show ltr (0) = -1 from by rfl] at CLT
  obtain ⟨cs, cl, ctx⟩ := ct
  obtain ⟨rs, rgl, ra, rn, rc⟩ := r
  obtain ⟨e1, e2, hT, hn⟩ := hrd _ _ _ hr hc
  dsimp only at e1 e2 hT hn c0 c1 c2 ⊢
  subst e1 e2
  have HT := Hid.mk' hT
  clear hT hrd hr hc hPk hL hP HR
  have r0 : W2.cell? ⟨w.heap.size + 1, 0, none⟩ = some (.bool false) := B2.out.cell rfl
  have r1 : W2.cell? ⟨w.heap.size + 1, 1, none⟩ = some (.bool false) := B2.out.cell rfl
  have r2 : W2.cell? ⟨w.heap.size + 1, 2, none⟩ = some (.slice none 0 0) := B2.out.cell rfl
  have g0 := B2.out.frozen 0
  have g1 := B2.out.frozen 1
  have g2 := B2.out.frozen 2
  obtain ⟨W3, hW3⟩ : ∃ W, W2.alloc (.cells #[.bool rs, .bool rgl, .slice ra rn rc] 24) = W := ⟨_, rfl⟩
  have K3 : Hid (Blk W3 (w.heap.size + 1 + 1) 24 #[.bool rs, .bool rgl, .slice ra rn rc]) := by rw [← hW3, ← hz2]; exact Blk.new W2 24 _
  have hb3 : Below W2.heap.size W2 W3 := by rw [← hW3]; exact bAlloc (Below.refl _ _) _
  have hz3 : W3.heap.size = w.heap.size + 1 + 1 + 1 := by rw [← hW3]; simp [hz2]
  have BF := Hid.mk' (bT BE.out hb3)
  have K2 := Hid.mk' (B2.out.keep hb3)
  have K1 := Hid.mk' (B1.out.keep hb3)
  clear hb3
  cases rs with
  | false =>
    rw [if_neg (by simp)]
    have hlv := ld24 (((K2.out.set (j := 0) (.bool false)).set (j := 1) (.bool false)).set (j := 2) (.slice none 0 0))
    have t0 : W3.cell? ⟨w.heap.size + 1, 0, none⟩ = some (.bool false) := K2.out.cell rfl
    have t1 : W3.cell? ⟨w.heap.size + 1, 1, none⟩ = some (.bool false) := K2.out.cell rfl
    have t2 : W3.cell? ⟨w.heap.size + 1, 2, none⟩ = some (.slice none 0 0) := K2.out.cell rfl
    have k0 : W3.cell? ⟨w.heap.size + 1 + 1, 0, none⟩ = some (.bool false) := K3.out.cell rfl
    have h0 := K2.out.frozen 0
    have h1 := K2.out.frozen 1
    have h2 := K2.out.frozen 2
    go_enter Try.func10, Try.ntmps10
    go_wp2_with (first | (go_at_call 14; refine CV.out.mono ?_; rintro e w5 ⟨rfl, hw⟩; have hq := hw.symm; subst hq; clear hw) | (go_at_call 24; refine (CLT.out _).mono ?_; rintro e w6 ⟨rfl, hw⟩; have hq := hw.symm; subst hq; clear hw))
    exact bodyPost_ret (v := .tuple #[.agg #[.bool false, .bool false, .slice none 0 0], .int .i64 151]) (by simp [results, Try.results10, asAddr, hlv]) rfl ⟨_, _, _, rfl, rfl, World.ownsRow_nil _ _ _ _, bset3' BF.out _ _ _⟩
  | true =>
    rw [if_pos rfl]
    have CC := Hid.mk' (copy_any true rgl ra rn rc ctx W3 (HT.out.keep BF.out) (by omega))
    have k0 : W3.cell? ⟨w.heap.size + 1 + 1, 0, none⟩ = some (.bool true) := K3.out.cell rfl
    have k1 : W3.cell? ⟨w.heap.size + 1 + 1, 1, none⟩ = some (.bool rgl) := K3.out.cell rfl
    have k2 : W3.cell? ⟨w.heap.size + 1 + 1, 2, none⟩ = some (.slice ra rn rc) := K3.out.cell rfl
    have hlen := Hid.mk' HT.out.len
    go_enter Try.func10, Try.ntmps10
    go_wp2_with (first | (go_at_call 14; refine CV.out.mono ?_; rintro e w5 ⟨rfl, hw⟩; have hq := hw.symm; subst hq; clear hw) | (go_at_call 24; refine (CLT.out _).mono ?_; rintro e w6 ⟨rfl, hw⟩; have hq := hw.symm; subst hq; clear hw))
    clear hW3 hW2
    refine CC.out.mono ?_
    rintro e w4 ⟨a4, n4, rfl, hO4, hb4⟩
    have O4 := Hid.mk' hO4
    rw [hz3] at O4
    have Q2 := Hid.mk' (K2.out.keep hb4)
    have BG := Hid.mk' (bT BF.out hb4)
    clear hO4 hb4 r0 r1 r2 g0 g1 g2 c0 c1 c2 CC BE B1 B2 hz2 k0 k1 k2
    have r0 : w4.cell? ⟨w.heap.size + 1, 0, none⟩ = some (.bool false) := Q2.out.cell rfl
    have r1 : w4.cell? ⟨w.heap.size + 1, 1, none⟩ = some (.bool false) := Q2.out.cell rfl
    have r2 : w4.cell? ⟨w.heap.size + 1, 2, none⟩ = some (.slice none 0 0) := Q2.out.cell rfl
    have g0 := Q2.out.frozen 0
    have g1 := Q2.out.frozen 1
    have g2 := Q2.out.frozen 2
    have hlv := ld24 (((Q2.out.set (j := 0) (.bool true)).set (j := 1) (.bool rgl)).set (j := 2) (.slice a4 rn n4))
    go_wp2
    exact bodyPost_ret (v := .tuple #[.agg #[.bool true, .bool rgl, .slice a4 rn n4], .int .i64 0]) (by simp [results, Try.results10, asAddr, hlv]) rfl ⟨_, _, _, hlen.out.symm, rfl, own_lower (own_set (own_set (own_set O4.out (by omega)) (by omega)) (by omega)) (by omega), bset3' BG.out _ _ _⟩
set_option maxHeartbeats 4000000 in
theorem rget_q (L : List Rg) (P : List Ct) (w : World) (HR : Hid (Rdb w L P)) :
    Calls Try.prog 10 #[.agg (bk L), .int .u8 ((34 : Nat) : Int)] w fun e w' => ∃ a c n, n = (getQ P (0)).1.t.length ∧ e = .returned (.tuple #[.agg #[.bool (getQ P (0)).1.s, .bool (getQ P (0)).1.l, .slice a n c], .int .i64 (getQ P (0)).2]) ∧ w'.ownsRow w.heap.size 5 1 (.slice a n c) n (bv (getQ P (0)).1.t) ∧ Below w.heap.size w w' := by
  obtain ⟨hL, hP, hrd⟩ := HR.out
  obtain ⟨r, hr⟩ : ∃ r, L[0]? = some r := ⟨_, List.getElem?_eq_getElem (by omega)⟩
  obtain ⟨ct, hc⟩ : ∃ c, P[0]? = some c := ⟨_, List.getElem?_eq_getElem (by omega)⟩
  have hPk : P.getD (0) zc = ct := by rw [List.getD_eq_getElem?_getD, hc]; rfl
  unfold getQ
  rw [hPk]
  generalize hW2 : (w.alloc (.cells (bk L) 28)).alloc (.cells #[.bool false, .bool false, .slice none 0 0] 24) = W2
  have hz2 : W2.heap.size = w.heap.size + 1 + 1 := by subst hW2; simp
  have BE : Hid (Below w.heap.size w W2) := by subst hW2; exact bAlloc (bAlloc (Below.refl _ _) _) _
  have B1 : Hid (Blk W2 w.heap.size 28 (bk L)) := by subst hW2; exact (Blk.new w 28 _).keep (bAlloc (Below.refl _ _) _)
  have B2 : Hid (Blk W2 (w.heap.size + 1) 24 #[.bool false, .bool false, .slice none 0 0]) := by
    subst hW2
    have := Blk.new (w.alloc (.cells (bk L) 28)) 24 #[.bool false, .bool false, .slice none 0 0]
    rwa [World.size_alloc] at this
  obtain ⟨c0, c1, c2⟩ := B1.out.rg hr
  change W2.cell? ⟨w.heap.size, 0, none⟩ = _ at c0
  change W2.cell? ⟨w.heap.size, 1, none⟩ = _ at c1
  change W2.cell? ⟨w.heap.size, 2, none⟩ = _ at c2
  have CV := Hid.mk' (rvalid_any (34) W2 (by omega))
  rw [show (rix (34)).isSome = true from by rfl] at CV
  have CLT := Hid.mk' (fun W => letter_any (34) W (by omega))
  rw [show ltr (34) = -1 from by rfl] at CLT
  obtain ⟨cs, cl, ctx⟩ := ct
  obtain ⟨rs, rgl, ra, rn, rc⟩ := r
  obtain ⟨e1, e2, hT, hn⟩ := hrd _ _ _ hr hc
  dsimp only at e1 e2 hT hn c0 c1 c2 ⊢
  subst e1 e2
  have HT := Hid.mk' hT
  clear hT hrd hr hc hPk hL hP HR
  have r0 : W2.cell? ⟨w.heap.size + 1, 0, none⟩ = some (.bool false) := B2.out.cell rfl
  have r1 : W2.cell? ⟨w.heap.size + 1, 1, none⟩ = some (.bool false) := B2.out.cell rfl
  have r2 : W2.cell? ⟨w.heap.size + 1, 2, none⟩ = some (.slice none 0 0) := B2.out.cell rfl
  have g0 := B2.out.frozen 0
  have g1 := B2.out.frozen 1
  have g2 := B2.out.frozen 2
  obtain ⟨W3, hW3⟩ : ∃ W, W2.alloc (.cells #[.bool rs, .bool rgl, .slice ra rn rc] 24) = W := ⟨_, rfl⟩
  have K3 : Hid (Blk W3 (w.heap.size + 1 + 1) 24 #[.bool rs, .bool rgl, .slice ra rn rc]) := by rw [← hW3, ← hz2]; exact Blk.new W2 24 _
  have hb3 : Below W2.heap.size W2 W3 := by rw [← hW3]; exact bAlloc (Below.refl _ _) _
  have hz3 : W3.heap.size = w.heap.size + 1 + 1 + 1 := by rw [← hW3]; simp [hz2]
  have BF := Hid.mk' (bT BE.out hb3)
  have K2 := Hid.mk' (B2.out.keep hb3)
  have K1 := Hid.mk' (B1.out.keep hb3)
  clear hb3
  cases rs with
  | false =>
    rw [if_neg (by simp)]
    have hlv := ld24 (((K2.out.set (j := 0) (.bool false)).set (j := 1) (.bool false)).set (j := 2) (.slice none 0 0))
    have t0 : W3.cell? ⟨w.heap.size + 1, 0, none⟩ = some (.bool false) := K2.out.cell rfl
    have t1 : W3.cell? ⟨w.heap.size + 1, 1, none⟩ = some (.bool false) := K2.out.cell rfl
    have t2 : W3.cell? ⟨w.heap.size + 1, 2, none⟩ = some (.slice none 0 0) := K2.out.cell rfl
    have k0 : W3.cell? ⟨w.heap.size + 1 + 1, 0, none⟩ = some (.bool false) := K3.out.cell rfl
    have h0 := K2.out.frozen 0
    have h1 := K2.out.frozen 1
    have h2 := K2.out.frozen 2
    go_enter Try.func10, Try.ntmps10
    go_wp2_with (first | (go_at_call 14; refine CV.out.mono ?_; rintro e w5 ⟨rfl, hw⟩; have hq := hw.symm; subst hq; clear hw) | (go_at_call 24; refine (CLT.out _).mono ?_; rintro e w6 ⟨rfl, hw⟩; have hq := hw.symm; subst hq; clear hw))
    exact bodyPost_ret (v := .tuple #[.agg #[.bool false, .bool false, .slice none 0 0], .int .i64 151]) (by simp [results, Try.results10, asAddr, hlv]) rfl ⟨_, _, _, rfl, rfl, World.ownsRow_nil _ _ _ _, bset3' BF.out _ _ _⟩
  | true =>
    rw [if_pos rfl]
    have CC := Hid.mk' (copy_any true rgl ra rn rc ctx W3 (HT.out.keep BF.out) (by omega))
    have k0 : W3.cell? ⟨w.heap.size + 1 + 1, 0, none⟩ = some (.bool true) := K3.out.cell rfl
    have k1 : W3.cell? ⟨w.heap.size + 1 + 1, 1, none⟩ = some (.bool rgl) := K3.out.cell rfl
    have k2 : W3.cell? ⟨w.heap.size + 1 + 1, 2, none⟩ = some (.slice ra rn rc) := K3.out.cell rfl
    have hlen := Hid.mk' HT.out.len
    go_enter Try.func10, Try.ntmps10
    go_wp2_with (first | (go_at_call 14; refine CV.out.mono ?_; rintro e w5 ⟨rfl, hw⟩; have hq := hw.symm; subst hq; clear hw) | (go_at_call 24; refine (CLT.out _).mono ?_; rintro e w6 ⟨rfl, hw⟩; have hq := hw.symm; subst hq; clear hw))
    clear hW3 hW2
    refine CC.out.mono ?_
    rintro e w4 ⟨a4, n4, rfl, hO4, hb4⟩
    have O4 := Hid.mk' hO4
    rw [hz3] at O4
    have Q2 := Hid.mk' (K2.out.keep hb4)
    have BG := Hid.mk' (bT BF.out hb4)
    clear hO4 hb4 r0 r1 r2 g0 g1 g2 c0 c1 c2 CC BE B1 B2 hz2 k0 k1 k2
    have r0 : w4.cell? ⟨w.heap.size + 1, 0, none⟩ = some (.bool false) := Q2.out.cell rfl
    have r1 : w4.cell? ⟨w.heap.size + 1, 1, none⟩ = some (.bool false) := Q2.out.cell rfl
    have r2 : w4.cell? ⟨w.heap.size + 1, 2, none⟩ = some (.slice none 0 0) := Q2.out.cell rfl
    have g0 := Q2.out.frozen 0
    have g1 := Q2.out.frozen 1
    have g2 := Q2.out.frozen 2
    have hlv := ld24 (((Q2.out.set (j := 0) (.bool true)).set (j := 1) (.bool rgl)).set (j := 2) (.slice a4 rn n4))
    go_wp2
    exact bodyPost_ret (v := .tuple #[.agg #[.bool true, .bool rgl, .slice a4 rn n4], .int .i64 0]) (by simp [results, Try.results10, asAddr, hlv]) rfl ⟨_, _, _, hlen.out.symm, rfl, own_lower (own_set (own_set (own_set O4.out (by omega)) (by omega)) (by omega)) (by omega), bset3' BG.out _ _ _⟩
set_option maxHeartbeats 4000000 in
theorem rget_s (L : List Rg) (P : List Ct) (w : World) (HR : Hid (Rdb w L P)) :
    Calls Try.prog 10 #[.agg (bk L), .int .u8 ((45 : Nat) : Int)] w fun e w' => ∃ a c n, n = (getQ P (1)).1.t.length ∧ e = .returned (.tuple #[.agg #[.bool (getQ P (1)).1.s, .bool (getQ P (1)).1.l, .slice a n c], .int .i64 (getQ P (1)).2]) ∧ w'.ownsRow w.heap.size 5 1 (.slice a n c) n (bv (getQ P (1)).1.t) ∧ Below w.heap.size w w' := by
  obtain ⟨hL, hP, hrd⟩ := HR.out
  obtain ⟨r, hr⟩ : ∃ r, L[1]? = some r := ⟨_, List.getElem?_eq_getElem (by omega)⟩
  obtain ⟨ct, hc⟩ : ∃ c, P[1]? = some c := ⟨_, List.getElem?_eq_getElem (by omega)⟩
  obtain ⟨u, hu⟩ : ∃ r, L[0]? = some r := ⟨_, List.getElem?_eq_getElem (by omega)⟩
  have hPk : P.getD (1) zc = ct := by rw [List.getD_eq_getElem?_getD, hc]; rfl
  unfold getQ
  rw [hPk]
  generalize hW2 : (w.alloc (.cells (bk L) 28)).alloc (.cells #[.bool false, .bool false, .slice none 0 0] 24) = W2
  have hz2 : W2.heap.size = w.heap.size + 1 + 1 := by subst hW2; simp
  have BE : Hid (Below w.heap.size w W2) := by subst hW2; exact bAlloc (bAlloc (Below.refl _ _) _) _
  have B1 : Hid (Blk W2 w.heap.size 28 (bk L)) := by subst hW2; exact (Blk.new w 28 _).keep (bAlloc (Below.refl _ _) _)
  have B2 : Hid (Blk W2 (w.heap.size + 1) 24 #[.bool false, .bool false, .slice none 0 0]) := by
    subst hW2
    have := Blk.new (w.alloc (.cells (bk L) 28)) 24 #[.bool false, .bool false, .slice none 0 0]
    rwa [World.size_alloc] at this
  obtain ⟨c0, c1, c2⟩ := B1.out.rg hr
  obtain ⟨u0, u1, u2⟩ := B1.out.rg hu
  change W2.cell? ⟨w.heap.size, 0, none⟩ = _ at u0
  change W2.cell? ⟨w.heap.size, 1, none⟩ = _ at u1
  change W2.cell? ⟨w.heap.size, 2, none⟩ = _ at u2
  change W2.cell? ⟨w.heap.size, 3, none⟩ = _ at c0
  change W2.cell? ⟨w.heap.size, 4, none⟩ = _ at c1
  change W2.cell? ⟨w.heap.size, 5, none⟩ = _ at c2
  have CV := Hid.mk' (rvalid_any (45) W2 (by omega))
  rw [show (rix (45)).isSome = true from by rfl] at CV
  have CLT := Hid.mk' (fun W => letter_any (45) W (by omega))
  rw [show ltr (45) = -1 from by rfl] at CLT
  obtain ⟨cs, cl, ctx⟩ := ct
  obtain ⟨rs, rgl, ra, rn, rc⟩ := r
  obtain ⟨us, ul, ua, un, uc⟩ := u
  obtain ⟨e1, e2, hT, hn⟩ := hrd _ _ _ hr hc
  dsimp only at e1 e2 hT hn c0 c1 c2 u0 u1 u2 ⊢
  subst e1 e2
  have HT := Hid.mk' hT
  clear hT hrd hr hc hPk hL hP HR hu
  have r0 : W2.cell? ⟨w.heap.size + 1, 0, none⟩ = some (.bool false) := B2.out.cell rfl
  have r1 : W2.cell? ⟨w.heap.size + 1, 1, none⟩ = some (.bool false) := B2.out.cell rfl
  have r2 : W2.cell? ⟨w.heap.size + 1, 2, none⟩ = some (.slice none 0 0) := B2.out.cell rfl
  have g0 := B2.out.frozen 0
  have g1 := B2.out.frozen 1
  have g2 := B2.out.frozen 2
  obtain ⟨W3, hW3⟩ : ∃ W, W2.alloc (.cells #[.bool rs, .bool rgl, .slice ra rn rc] 24) = W := ⟨_, rfl⟩
  have K3 : Hid (Blk W3 (w.heap.size + 1 + 1) 24 #[.bool rs, .bool rgl, .slice ra rn rc]) := by rw [← hW3, ← hz2]; exact Blk.new W2 24 _
  have hb3 : Below W2.heap.size W2 W3 := by rw [← hW3]; exact bAlloc (Below.refl _ _) _
  have hz3 : W3.heap.size = w.heap.size + 1 + 1 + 1 := by rw [← hW3]; simp [hz2]
  have BF := Hid.mk' (bT BE.out hb3)
  have K2 := Hid.mk' (B2.out.keep hb3)
  have K1 := Hid.mk' (B1.out.keep hb3)
  clear hb3
  cases rs with
  | false =>
    rw [if_neg (by simp)]
    have hlv := ld24 (((K2.out.set (j := 0) (.bool false)).set (j := 1) (.bool false)).set (j := 2) (.slice none 0 0))
    have t0 : W3.cell? ⟨w.heap.size + 1, 0, none⟩ = some (.bool false) := K2.out.cell rfl
    have t1 : W3.cell? ⟨w.heap.size + 1, 1, none⟩ = some (.bool false) := K2.out.cell rfl
    have t2 : W3.cell? ⟨w.heap.size + 1, 2, none⟩ = some (.slice none 0 0) := K2.out.cell rfl
    have k0 : W3.cell? ⟨w.heap.size + 1 + 1, 0, none⟩ = some (.bool false) := K3.out.cell rfl
    have h0 := K2.out.frozen 0
    have h1 := K2.out.frozen 1
    have h2 := K2.out.frozen 2
    go_enter Try.func10, Try.ntmps10
    go_wp2_with (first | (go_at_call 14; refine CV.out.mono ?_; rintro e w5 ⟨rfl, hw⟩; have hq := hw.symm; subst hq; clear hw) | (go_at_call 24; refine (CLT.out _).mono ?_; rintro e w6 ⟨rfl, hw⟩; have hq := hw.symm; subst hq; clear hw))
    exact bodyPost_ret (v := .tuple #[.agg #[.bool false, .bool false, .slice none 0 0], .int .i64 151]) (by simp [results, Try.results10, asAddr, hlv]) rfl ⟨_, _, _, rfl, rfl, World.ownsRow_nil _ _ _ _, bset3' BF.out _ _ _⟩
  | true =>
    rw [if_pos rfl]
    have CC := Hid.mk' (copy_any true rgl ra rn rc ctx W3 (HT.out.keep BF.out) (by omega))
    have k0 : W3.cell? ⟨w.heap.size + 1 + 1, 0, none⟩ = some (.bool true) := K3.out.cell rfl
    have k1 : W3.cell? ⟨w.heap.size + 1 + 1, 1, none⟩ = some (.bool rgl) := K3.out.cell rfl
    have k2 : W3.cell? ⟨w.heap.size + 1 + 1, 2, none⟩ = some (.slice ra rn rc) := K3.out.cell rfl
    have hlen := Hid.mk' HT.out.len
    go_enter Try.func10, Try.ntmps10
    go_wp2_with (first | (go_at_call 14; refine CV.out.mono ?_; rintro e w5 ⟨rfl, hw⟩; have hq := hw.symm; subst hq; clear hw) | (go_at_call 24; refine (CLT.out _).mono ?_; rintro e w6 ⟨rfl, hw⟩; have hq := hw.symm; subst hq; clear hw))
    clear hW3 hW2
    refine CC.out.mono ?_
    rintro e w4 ⟨a4, n4, rfl, hO4, hb4⟩
    have O4 := Hid.mk' hO4
    rw [hz3] at O4
    have Q2 := Hid.mk' (K2.out.keep hb4)
    have BG := Hid.mk' (bT BF.out hb4)
    clear hO4 hb4 r0 r1 r2 g0 g1 g2 c0 c1 c2 u0 u1 u2 CC BE B1 B2 hz2 k0 k1 k2
    have r0 : w4.cell? ⟨w.heap.size + 1, 0, none⟩ = some (.bool false) := Q2.out.cell rfl
    have r1 : w4.cell? ⟨w.heap.size + 1, 1, none⟩ = some (.bool false) := Q2.out.cell rfl
    have r2 : w4.cell? ⟨w.heap.size + 1, 2, none⟩ = some (.slice none 0 0) := Q2.out.cell rfl
    have g0 := Q2.out.frozen 0
    have g1 := Q2.out.frozen 1
    have g2 := Q2.out.frozen 2
    have hlv := ld24 (((Q2.out.set (j := 0) (.bool true)).set (j := 1) (.bool rgl)).set (j := 2) (.slice a4 rn n4))
    go_wp2
    exact bodyPost_ret (v := .tuple #[.agg #[.bool true, .bool rgl, .slice a4 rn n4], .int .i64 0]) (by simp [results, Try.results10, asAddr, hlv]) rfl ⟨_, _, _, hlen.out.symm, rfl, own_lower (own_set (own_set (own_set O4.out (by omega)) (by omega)) (by omega)) (by omega), bset3' BG.out _ _ _⟩
set_option maxHeartbeats 4000000 in
theorem rget_n (L : List Rg) (P : List Ct) (j : Nat) (hk : j < 9) (w : World) (HR : Hid (Rdb w L P)) :
    Calls Try.prog 10 #[.agg (bk L), .int .u8 ((49 + j : Nat) : Int)] w fun e w' => ∃ a c n, n = (getQ P (2 + j)).1.t.length ∧ e = .returned (.tuple #[.agg #[.bool (getQ P (2 + j)).1.s, .bool (getQ P (2 + j)).1.l, .slice a n c], .int .i64 (getQ P (2 + j)).2]) ∧ w'.ownsRow w.heap.size 5 1 (.slice a n c) n (bv (getQ P (2 + j)).1.t) ∧ Below w.heap.size w w' := by
  obtain ⟨hL, hP, hrd⟩ := HR.out
  obtain ⟨r, hr⟩ : ∃ r, L[2 + j]? = some r := ⟨_, List.getElem?_eq_getElem (by omega)⟩
  obtain ⟨ct, hc⟩ : ∃ c, P[2 + j]? = some c := ⟨_, List.getElem?_eq_getElem (by omega)⟩
  obtain ⟨u, hu⟩ : ∃ r, L[0]? = some r := ⟨_, List.getElem?_eq_getElem (by omega)⟩
  have hPk : P.getD (2 + j) zc = ct := by rw [List.getD_eq_getElem?_getD, hc]; rfl
  unfold getQ
  rw [hPk]
  generalize hW2 : (w.alloc (.cells (bk L) 28)).alloc (.cells #[.bool false, .bool false, .slice none 0 0] 24) = W2
  have hz2 : W2.heap.size = w.heap.size + 1 + 1 := by subst hW2; simp
  have BE : Hid (Below w.heap.size w W2) := by subst hW2; exact bAlloc (bAlloc (Below.refl _ _) _) _
  have B1 : Hid (Blk W2 w.heap.size 28 (bk L)) := by subst hW2; exact (Blk.new w 28 _).keep (bAlloc (Below.refl _ _) _)
  have B2 : Hid (Blk W2 (w.heap.size + 1) 24 #[.bool false, .bool false, .slice none 0 0]) := by
    subst hW2
    have := Blk.new (w.alloc (.cells (bk L) 28)) 24 #[.bool false, .bool false, .slice none 0 0]
    rwa [World.size_alloc] at this
  obtain ⟨c0, c1, c2⟩ := B1.out.rg hr
  obtain ⟨u0, u1, u2⟩ := B1.out.rg hu
  change W2.cell? ⟨w.heap.size, 0, none⟩ = _ at u0
  change W2.cell? ⟨w.heap.size, 1, none⟩ = _ at u1
  change W2.cell? ⟨w.heap.size, 2, none⟩ = _ at u2
  rw [show 3 * (2 + j) = 6 + j * 3 by omega] at c0 c1 c2
  have CV := Hid.mk' (rvalid_any (49 + j) W2 (by omega))
  rw [show (rix (49 + j)).isSome = true from by rw [rix_num hk]; rfl] at CV
  have CLT := Hid.mk' (fun W => letter_any (49 + j) W (by omega))
  rw [show ltr (49 + j) = -1 from by unfold ltr; rw [if_neg (by omega), if_neg (by omega)]] at CLT
  obtain ⟨cs, cl, ctx⟩ := ct
  obtain ⟨rs, rgl, ra, rn, rc⟩ := r
  obtain ⟨us, ul, ua, un, uc⟩ := u
  obtain ⟨e1, e2, hT, hn⟩ := hrd _ _ _ hr hc
  dsimp only at e1 e2 hT hn c0 c1 c2 u0 u1 u2 ⊢
  subst e1 e2
  have HT := Hid.mk' hT
  clear hT hrd hr hc hPk hL hP HR hu
  have j1 : ((49 + j : Nat) : Int) = 49 + (j : Int) := by omega
  have u9 : ((49 + (j : Int)) == 45) = false := by simp; omega
  have j2 : (j : Int) < 9 := by omega
  have j0 : (0 : Int) ≤ (j : Int) := by omega
  have j3 : IntKind.u8.wrap (49 + (j : Int) - 49) = (j : Int) := by rw [IntKind.wrap_u8]; omega
  have j4 : (49 : Int) ≤ 49 + (j : Int) := by omega
  have j5 : (49 + (j : Int)) ≤ 57 := by omega
  rw [j1] at CV CLT ⊢
  have r0 : W2.cell? ⟨w.heap.size + 1, 0, none⟩ = some (.bool false) := B2.out.cell rfl
  have r1 : W2.cell? ⟨w.heap.size + 1, 1, none⟩ = some (.bool false) := B2.out.cell rfl
  have r2 : W2.cell? ⟨w.heap.size + 1, 2, none⟩ = some (.slice none 0 0) := B2.out.cell rfl
  have g0 := B2.out.frozen 0
  have g1 := B2.out.frozen 1
  have g2 := B2.out.frozen 2
  obtain ⟨W3, hW3⟩ : ∃ W, W2.alloc (.cells #[.bool rs, .bool rgl, .slice ra rn rc] 24) = W := ⟨_, rfl⟩
  have K3 : Hid (Blk W3 (w.heap.size + 1 + 1) 24 #[.bool rs, .bool rgl, .slice ra rn rc]) := by rw [← hW3, ← hz2]; exact Blk.new W2 24 _
  have hb3 : Below W2.heap.size W2 W3 := by rw [← hW3]; exact bAlloc (Below.refl _ _) _
  have hz3 : W3.heap.size = w.heap.size + 1 + 1 + 1 := by rw [← hW3]; simp [hz2]
  have BF := Hid.mk' (bT BE.out hb3)
  have K2 := Hid.mk' (B2.out.keep hb3)
  have K1 := Hid.mk' (B1.out.keep hb3)
  clear hb3
  cases rs with
  | false =>
    rw [if_neg (by simp)]
    have hlv := ld24 (((K2.out.set (j := 0) (.bool false)).set (j := 1) (.bool false)).set (j := 2) (.slice none 0 0))
    have t0 : W3.cell? ⟨w.heap.size + 1, 0, none⟩ = some (.bool false) := K2.out.cell rfl
    have t1 : W3.cell? ⟨w.heap.size + 1, 1, none⟩ = some (.bool false) := K2.out.cell rfl
    have t2 : W3.cell? ⟨w.heap.size + 1, 2, none⟩ = some (.slice none 0 0) := K2.out.cell rfl
    have k0 : W3.cell? ⟨w.heap.size + 1 + 1, 0, none⟩ = some (.bool false) := K3.out.cell rfl
    have h0 := K2.out.frozen 0
    have h1 := K2.out.frozen 1
    have h2 := K2.out.frozen 2
    go_enter Try.func10, Try.ntmps10
    go_wp2_with (first | (go_at_call 14; refine CV.out.mono ?_; rintro e w5 ⟨rfl, hw⟩; have hq := hw.symm; subst hq; clear hw) | (go_at_call 24; refine (CLT.out _).mono ?_; rintro e w6 ⟨rfl, hw⟩; have hq := hw.symm; subst hq; clear hw))
    exact bodyPost_ret (v := .tuple #[.agg #[.bool false, .bool false, .slice none 0 0], .int .i64 151]) (by simp [results, Try.results10, asAddr, hlv]) rfl ⟨_, _, _, rfl, rfl, World.ownsRow_nil _ _ _ _, bset3' BF.out _ _ _⟩
  | true =>
    rw [if_pos rfl]
    have CC := Hid.mk' (copy_any true rgl ra rn rc ctx W3 (HT.out.keep BF.out) (by omega))
    have k0 : W3.cell? ⟨w.heap.size + 1 + 1, 0, none⟩ = some (.bool true) := K3.out.cell rfl
    have k1 : W3.cell? ⟨w.heap.size + 1 + 1, 1, none⟩ = some (.bool rgl) := K3.out.cell rfl
    have k2 : W3.cell? ⟨w.heap.size + 1 + 1, 2, none⟩ = some (.slice ra rn rc) := K3.out.cell rfl
    have hlen := Hid.mk' HT.out.len
    go_enter Try.func10, Try.ntmps10
    go_wp2_with (first | (go_at_call 14; refine CV.out.mono ?_; rintro e w5 ⟨rfl, hw⟩; have hq := hw.symm; subst hq; clear hw) | (go_at_call 24; refine (CLT.out _).mono ?_; rintro e w6 ⟨rfl, hw⟩; have hq := hw.symm; subst hq; clear hw))
    clear hW3 hW2
    refine CC.out.mono ?_
    rintro e w4 ⟨a4, n4, rfl, hO4, hb4⟩
    have O4 := Hid.mk' hO4
    rw [hz3] at O4
    have Q2 := Hid.mk' (K2.out.keep hb4)
    have BG := Hid.mk' (bT BF.out hb4)
    clear hO4 hb4 r0 r1 r2 g0 g1 g2 c0 c1 c2 u0 u1 u2 CC BE B1 B2 hz2 k0 k1 k2
    have r0 : w4.cell? ⟨w.heap.size + 1, 0, none⟩ = some (.bool false) := Q2.out.cell rfl
    have r1 : w4.cell? ⟨w.heap.size + 1, 1, none⟩ = some (.bool false) := Q2.out.cell rfl
    have r2 : w4.cell? ⟨w.heap.size + 1, 2, none⟩ = some (.slice none 0 0) := Q2.out.cell rfl
    have g0 := Q2.out.frozen 0
    have g1 := Q2.out.frozen 1
    have g2 := Q2.out.frozen 2
    have hlv := ld24 (((Q2.out.set (j := 0) (.bool true)).set (j := 1) (.bool rgl)).set (j := 2) (.slice a4 rn n4))
    go_wp2
    exact bodyPost_ret (v := .tuple #[.agg #[.bool true, .bool rgl, .slice a4 rn n4], .int .i64 0]) (by simp [results, Try.results10, asAddr, hlv]) rfl ⟨_, _, _, hlen.out.symm, rfl, own_lower (own_set (own_set (own_set O4.out (by omega)) (by omega)) (by omega)) (by omega), bset3' BG.out _ _ _⟩
set_option maxHeartbeats 4000000 in
theorem rget_l (L : List Rg) (P : List Ct) (j : Nat) (hk : j < 26) (w : World) (HR : Hid (Rdb w L P)) :
    Calls Try.prog 10 #[.agg (bk L), .int .u8 ((97 + j : Nat) : Int)] w fun e w' => ∃ a c n, n = (getQ P (11 + j)).1.t.length ∧ e = .returned (.tuple #[.agg #[.bool (getQ P (11 + j)).1.s, .bool (getQ P (11 + j)).1.l, .slice a n c], .int .i64 (getQ P (11 + j)).2]) ∧ w'.ownsRow w.heap.size 5 1 (.slice a n c) n (bv (getQ P (11 + j)).1.t) ∧ Below w.heap.size w w' := by
  obtain ⟨hL, hP, hrd⟩ := HR.out
  obtain ⟨r, hr⟩ : ∃ r, L[11 + j]? = some r := ⟨_, List.getElem?_eq_getElem (by omega)⟩
  obtain ⟨ct, hc⟩ : ∃ c, P[11 + j]? = some c := ⟨_, List.getElem?_eq_getElem (by omega)⟩
  obtain ⟨u, hu⟩ : ∃ r, L[0]? = some r := ⟨_, List.getElem?_eq_getElem (by omega)⟩
  have hPk : P.getD (11 + j) zc = ct := by rw [List.getD_eq_getElem?_getD, hc]; rfl
  unfold getQ
  rw [hPk]
  generalize hW2 : (w.alloc (.cells (bk L) 28)).alloc (.cells #[.bool false, .bool false, .slice none 0 0] 24) = W2
  have hz2 : W2.heap.size = w.heap.size + 1 + 1 := by subst hW2; simp
  have BE : Hid (Below w.heap.size w W2) := by subst hW2; exact bAlloc (bAlloc (Below.refl _ _) _) _
  have B1 : Hid (Blk W2 w.heap.size 28 (bk L)) := by subst hW2; exact (Blk.new w 28 _).keep (bAlloc (Below.refl _ _) _)
  have B2 : Hid (Blk W2 (w.heap.size + 1) 24 #[.bool false, .bool false, .slice none 0 0]) := by
    subst hW2
    have := Blk.new (w.alloc (.cells (bk L) 28)) 24 #[.bool false, .bool false, .slice none 0 0]
    rwa [World.size_alloc] at this
  obtain ⟨c0, c1, c2⟩ := B1.out.rg hr
  obtain ⟨u0, u1, u2⟩ := B1.out.rg hu
  change W2.cell? ⟨w.heap.size, 0, none⟩ = _ at u0
  change W2.cell? ⟨w.heap.size, 1, none⟩ = _ at u1
  change W2.cell? ⟨w.heap.size, 2, none⟩ = _ at u2
  rw [show 3 * (11 + j) = 33 + j * 3 by omega] at c0 c1 c2
  have CV := Hid.mk' (rvalid_any (97 + j) W2 (by omega))
  rw [show (rix (97 + j)).isSome = true from by unfold rix; rw [if_neg (by omega), if_neg (by omega), if_neg (by omega), if_pos (by omega)]; rfl] at CV
  have CLT := Hid.mk' (fun W => letter_any (97 + j) W (by omega))
  rw [show ltr (97 + j) = (j : Int) from by unfold ltr; rw [if_pos (by omega)]; omega] at CLT
  obtain ⟨cs, cl, ctx⟩ := ct
  obtain ⟨rs, rgl, ra, rn, rc⟩ := r
  obtain ⟨us, ul, ua, un, uc⟩ := u
  obtain ⟨e1, e2, hT, hn⟩ := hrd _ _ _ hr hc
  dsimp only at e1 e2 hT hn c0 c1 c2 u0 u1 u2 ⊢
  subst e1 e2
  have HT := Hid.mk' hT
  clear hT hrd hr hc hPk hL hP HR hu
  have j1 : ((97 + j : Nat) : Int) = 97 + (j : Int) := by omega
  have u9 : ((97 + (j : Int)) == 45) = false := by simp; omega
  have j2 : (j : Int) < 26 := by omega
  have j0 : (0 : Int) ≤ (j : Int) := by omega
  have j3 : IntKind.u8.wrap (97 + (j : Int) - 97) = (j : Int) := by rw [IntKind.wrap_u8]; omega
  have j4 : (49 : Int) ≤ 97 + (j : Int) := by omega
  have j5 : ¬ (97 + (j : Int)) ≤ 57 := by omega
  rw [j1] at CV CLT ⊢
  have r0 : W2.cell? ⟨w.heap.size + 1, 0, none⟩ = some (.bool false) := B2.out.cell rfl
  have r1 : W2.cell? ⟨w.heap.size + 1, 1, none⟩ = some (.bool false) := B2.out.cell rfl
  have r2 : W2.cell? ⟨w.heap.size + 1, 2, none⟩ = some (.slice none 0 0) := B2.out.cell rfl
  have g0 := B2.out.frozen 0
  have g1 := B2.out.frozen 1
  have g2 := B2.out.frozen 2
  obtain ⟨W3, hW3⟩ : ∃ W, W2.alloc (.cells #[.bool rs, .bool rgl, .slice ra rn rc] 24) = W := ⟨_, rfl⟩
  have K3 : Hid (Blk W3 (w.heap.size + 1 + 1) 24 #[.bool rs, .bool rgl, .slice ra rn rc]) := by rw [← hW3, ← hz2]; exact Blk.new W2 24 _
  have hb3 : Below W2.heap.size W2 W3 := by rw [← hW3]; exact bAlloc (Below.refl _ _) _
  have hz3 : W3.heap.size = w.heap.size + 1 + 1 + 1 := by rw [← hW3]; simp [hz2]
  have BF := Hid.mk' (bT BE.out hb3)
  have K2 := Hid.mk' (B2.out.keep hb3)
  have K1 := Hid.mk' (B1.out.keep hb3)
  clear hb3
  cases rs with
  | false =>
    rw [if_neg (by simp)]
    have hlv := ld24 (((K2.out.set (j := 0) (.bool false)).set (j := 1) (.bool false)).set (j := 2) (.slice none 0 0))
    have t0 : W3.cell? ⟨w.heap.size + 1, 0, none⟩ = some (.bool false) := K2.out.cell rfl
    have t1 : W3.cell? ⟨w.heap.size + 1, 1, none⟩ = some (.bool false) := K2.out.cell rfl
    have t2 : W3.cell? ⟨w.heap.size + 1, 2, none⟩ = some (.slice none 0 0) := K2.out.cell rfl
    have k0 : W3.cell? ⟨w.heap.size + 1 + 1, 0, none⟩ = some (.bool false) := K3.out.cell rfl
    have h0 := K2.out.frozen 0
    have h1 := K2.out.frozen 1
    have h2 := K2.out.frozen 2
    go_enter Try.func10, Try.ntmps10
    go_wp2_with (first | (go_at_call 14; refine CV.out.mono ?_; rintro e w5 ⟨rfl, hw⟩; have hq := hw.symm; subst hq; clear hw) | (go_at_call 24; refine (CLT.out _).mono ?_; rintro e w6 ⟨rfl, hw⟩; have hq := hw.symm; subst hq; clear hw))
    exact bodyPost_ret (v := .tuple #[.agg #[.bool false, .bool false, .slice none 0 0], .int .i64 151]) (by simp [results, Try.results10, asAddr, hlv]) rfl ⟨_, _, _, rfl, rfl, World.ownsRow_nil _ _ _ _, bset3' BF.out _ _ _⟩
  | true =>
    rw [if_pos rfl]
    have CC := Hid.mk' (copy_any true rgl ra rn rc ctx W3 (HT.out.keep BF.out) (by omega))
    have k0 : W3.cell? ⟨w.heap.size + 1 + 1, 0, none⟩ = some (.bool true) := K3.out.cell rfl
    have k1 : W3.cell? ⟨w.heap.size + 1 + 1, 1, none⟩ = some (.bool rgl) := K3.out.cell rfl
    have k2 : W3.cell? ⟨w.heap.size + 1 + 1, 2, none⟩ = some (.slice ra rn rc) := K3.out.cell rfl
    have hlen := Hid.mk' HT.out.len
    go_enter Try.func10, Try.ntmps10
    go_wp2_with (first | (go_at_call 14; refine CV.out.mono ?_; rintro e w5 ⟨rfl, hw⟩; have hq := hw.symm; subst hq; clear hw) | (go_at_call 24; refine (CLT.out _).mono ?_; rintro e w6 ⟨rfl, hw⟩; have hq := hw.symm; subst hq; clear hw))
    clear hW3 hW2
    refine CC.out.mono ?_
    rintro e w4 ⟨a4, n4, rfl, hO4, hb4⟩
    have O4 := Hid.mk' hO4
    rw [hz3] at O4
    have Q2 := Hid.mk' (K2.out.keep hb4)
    have BG := Hid.mk' (bT BF.out hb4)
    clear hO4 hb4 r0 r1 r2 g0 g1 g2 c0 c1 c2 u0 u1 u2 CC BE B1 B2 hz2 k0 k1 k2
    have r0 : w4.cell? ⟨w.heap.size + 1, 0, none⟩ = some (.bool false) := Q2.out.cell rfl
    have r1 : w4.cell? ⟨w.heap.size + 1, 1, none⟩ = some (.bool false) := Q2.out.cell rfl
    have r2 : w4.cell? ⟨w.heap.size + 1, 2, none⟩ = some (.slice none 0 0) := Q2.out.cell rfl
    have g0 := Q2.out.frozen 0
    have g1 := Q2.out.frozen 1
    have g2 := Q2.out.frozen 2
    have hlv := ld24 (((Q2.out.set (j := 0) (.bool true)).set (j := 1) (.bool rgl)).set (j := 2) (.slice a4 rn n4))
    go_wp2
    exact bodyPost_ret (v := .tuple #[.agg #[.bool true, .bool rgl, .slice a4 rn n4], .int .i64 0]) (by simp [results, Try.results10, asAddr, hlv]) rfl ⟨_, _, _, hlen.out.symm, rfl, own_lower (own_set (own_set (own_set O4.out (by omega)) (by omega)) (by omega)) (by omega), bset3' BG.out _ _ _⟩
set_option maxHeartbeats 4000000 in
theorem rget_g (L : List Rg) (P : List Ct) (j : Nat) (hk : j < 26) (w : World) (HR : Hid (Rdb w L P)) :
    Calls Try.prog 10 #[.agg (bk L), .int .u8 ((65 + j : Nat) : Int)] w fun e w' => ∃ a c n, n = (getQ P (11 + j)).1.t.length ∧ e = .returned (.tuple #[.agg #[.bool (getQ P (11 + j)).1.s, .bool (getQ P (11 + j)).1.l, .slice a n c], .int .i64 (getQ P (11 + j)).2]) ∧ w'.ownsRow w.heap.size 5 1 (.slice a n c) n (bv (getQ P (11 + j)).1.t) ∧ Below w.heap.size w w' := by
  obtain ⟨hL, hP, hrd⟩ := HR.out
  obtain ⟨r, hr⟩ : ∃ r, L[11 + j]? = some r := ⟨_, List.getElem?_eq_getElem (by omega)⟩
  obtain ⟨ct, hc⟩ : ∃ c, P[11 + j]? = some c := ⟨_, List.getElem?_eq_getElem (by omega)⟩
  obtain ⟨u, hu⟩ : ∃ r, L[0]? = some r := ⟨_, List.getElem?_eq_getElem (by omega)⟩
  have hPk : P.getD (11 + j) zc = ct := by rw [List.getD_eq_getElem?_getD, hc]; rfl
  unfold getQ
  rw [hPk]
  generalize hW2 : (w.alloc (.cells (bk L) 28)).alloc (.cells #[.bool false, .bool false, .slice none 0 0] 24) = W2
  have hz2 : W2.heap.size = w.heap.size + 1 + 1 := by subst hW2; simp
  have BE : Hid (Below w.heap.size w W2) := by subst hW2; exact bAlloc (bAlloc (Below.refl _ _) _) _
  have B1 : Hid (Blk W2 w.heap.size 28 (bk L)) := by subst hW2; exact (Blk.new w 28 _).keep (bAlloc (Below.refl _ _) _)
  have B2 : Hid (Blk W2 (w.heap.size + 1) 24 #[.bool false, .bool false, .slice none 0 0]) := by
    subst hW2
    have := Blk.new (w.alloc (.cells (bk L) 28)) 24 #[.bool false, .bool false, .slice none 0 0]
    rwa [World.size_alloc] at this
  obtain ⟨c0, c1, c2⟩ := B1.out.rg hr
  obtain ⟨u0, u1, u2⟩ := B1.out.rg hu
  change W2.cell? ⟨w.heap.size, 0, none⟩ = _ at u0
  change W2.cell? ⟨w.heap.size, 1, none⟩ = _ at u1
  change W2.cell? ⟨w.heap.size, 2, none⟩ = _ at u2
  rw [show 3 * (11 + j) = 33 + j * 3 by omega] at c0 c1 c2
  have CV := Hid.mk' (rvalid_any (65 + j) W2 (by omega))
  rw [show (rix (65 + j)).isSome = true from by unfold rix; rw [if_neg (by omega), if_neg (by omega), if_neg (by omega), if_neg (by omega), if_pos (by omega)]; rfl] at CV
  have CLT := Hid.mk' (fun W => letter_any (65 + j) W (by omega))
  rw [show ltr (65 + j) = (j : Int) from by unfold ltr; rw [if_neg (by omega), if_pos (by omega)]; omega] at CLT
  obtain ⟨cs, cl, ctx⟩ := ct
  obtain ⟨rs, rgl, ra, rn, rc⟩ := r
  obtain ⟨us, ul, ua, un, uc⟩ := u
  obtain ⟨e1, e2, hT, hn⟩ := hrd _ _ _ hr hc
  dsimp only at e1 e2 hT hn c0 c1 c2 u0 u1 u2 ⊢
  subst e1 e2
  have HT := Hid.mk' hT
  clear hT hrd hr hc hPk hL hP HR hu
  have j1 : ((65 + j : Nat) : Int) = 65 + (j : Int) := by omega
  have u9 : ((65 + (j : Int)) == 45) = false := by simp; omega
  have j2 : (j : Int) < 26 := by omega
  have j0 : (0 : Int) ≤ (j : Int) := by omega
  have j3 : IntKind.u8.wrap (65 + (j : Int) - 65) = (j : Int) := by rw [IntKind.wrap_u8]; omega
  have j4 : (49 : Int) ≤ 65 + (j : Int) := by omega
  have j5 : ¬ (65 + (j : Int)) ≤ 57 := by omega
  rw [j1] at CV CLT ⊢
  have r0 : W2.cell? ⟨w.heap.size + 1, 0, none⟩ = some (.bool false) := B2.out.cell rfl
  have r1 : W2.cell? ⟨w.heap.size + 1, 1, none⟩ = some (.bool false) := B2.out.cell rfl
  have r2 : W2.cell? ⟨w.heap.size + 1, 2, none⟩ = some (.slice none 0 0) := B2.out.cell rfl
  have g0 := B2.out.frozen 0
  have g1 := B2.out.frozen 1
  have g2 := B2.out.frozen 2
  obtain ⟨W3, hW3⟩ : ∃ W, W2.alloc (.cells #[.bool rs, .bool rgl, .slice ra rn rc] 24) = W := ⟨_, rfl⟩
  have K3 : Hid (Blk W3 (w.heap.size + 1 + 1) 24 #[.bool rs, .bool rgl, .slice ra rn rc]) := by rw [← hW3, ← hz2]; exact Blk.new W2 24 _
  have hb3 : Below W2.heap.size W2 W3 := by rw [← hW3]; exact bAlloc (Below.refl _ _) _
  have hz3 : W3.heap.size = w.heap.size + 1 + 1 + 1 := by rw [← hW3]; simp [hz2]
  have BF := Hid.mk' (bT BE.out hb3)
  have K2 := Hid.mk' (B2.out.keep hb3)
  have K1 := Hid.mk' (B1.out.keep hb3)
  clear hb3
  cases rs with
  | false =>
    rw [if_neg (by simp)]
    have hlv := ld24 (((K2.out.set (j := 0) (.bool false)).set (j := 1) (.bool false)).set (j := 2) (.slice none 0 0))
    have t0 : W3.cell? ⟨w.heap.size + 1, 0, none⟩ = some (.bool false) := K2.out.cell rfl
    have t1 : W3.cell? ⟨w.heap.size + 1, 1, none⟩ = some (.bool false) := K2.out.cell rfl
    have t2 : W3.cell? ⟨w.heap.size + 1, 2, none⟩ = some (.slice none 0 0) := K2.out.cell rfl
    have k0 : W3.cell? ⟨w.heap.size + 1 + 1, 0, none⟩ = some (.bool false) := K3.out.cell rfl
    have h0 := K2.out.frozen 0
    have h1 := K2.out.frozen 1
    have h2 := K2.out.frozen 2
    go_enter Try.func10, Try.ntmps10
    go_wp2_with (first | (go_at_call 14; refine CV.out.mono ?_; rintro e w5 ⟨rfl, hw⟩; have hq := hw.symm; subst hq; clear hw) | (go_at_call 24; refine (CLT.out _).mono ?_; rintro e w6 ⟨rfl, hw⟩; have hq := hw.symm; subst hq; clear hw))
    exact bodyPost_ret (v := .tuple #[.agg #[.bool false, .bool false, .slice none 0 0], .int .i64 151]) (by simp [results, Try.results10, asAddr, hlv]) rfl ⟨_, _, _, rfl, rfl, World.ownsRow_nil _ _ _ _, bset3' BF.out _ _ _⟩
  | true =>
    rw [if_pos rfl]
    have CC := Hid.mk' (copy_any true rgl ra rn rc ctx W3 (HT.out.keep BF.out) (by omega))
    have k0 : W3.cell? ⟨w.heap.size + 1 + 1, 0, none⟩ = some (.bool true) := K3.out.cell rfl
    have k1 : W3.cell? ⟨w.heap.size + 1 + 1, 1, none⟩ = some (.bool rgl) := K3.out.cell rfl
    have k2 : W3.cell? ⟨w.heap.size + 1 + 1, 2, none⟩ = some (.slice ra rn rc) := K3.out.cell rfl
    have hlen := Hid.mk' HT.out.len
    go_enter Try.func10, Try.ntmps10
    go_wp2_with (first | (go_at_call 14; refine CV.out.mono ?_; rintro e w5 ⟨rfl, hw⟩; have hq := hw.symm; subst hq; clear hw) | (go_at_call 24; refine (CLT.out _).mono ?_; rintro e w6 ⟨rfl, hw⟩; have hq := hw.symm; subst hq; clear hw))
    clear hW3 hW2
    refine CC.out.mono ?_
    rintro e w4 ⟨a4, n4, rfl, hO4, hb4⟩
    have O4 := Hid.mk' hO4
    rw [hz3] at O4
    have Q2 := Hid.mk' (K2.out.keep hb4)
    have BG := Hid.mk' (bT BF.out hb4)
    clear hO4 hb4 r0 r1 r2 g0 g1 g2 c0 c1 c2 u0 u1 u2 CC BE B1 B2 hz2 k0 k1 k2
    have r0 : w4.cell? ⟨w.heap.size + 1, 0, none⟩ = some (.bool false) := Q2.out.cell rfl
    have r1 : w4.cell? ⟨w.heap.size + 1, 1, none⟩ = some (.bool false) := Q2.out.cell rfl
    have r2 : w4.cell? ⟨w.heap.size + 1, 2, none⟩ = some (.slice none 0 0) := Q2.out.cell rfl
    have g0 := Q2.out.frozen 0
    have g1 := Q2.out.frozen 1
    have g2 := Q2.out.frozen 2
    have hlv := ld24 (((Q2.out.set (j := 0) (.bool true)).set (j := 1) (.bool rgl)).set (j := 2) (.slice a4 rn n4))
    go_wp2
    exact bodyPost_ret (v := .tuple #[.agg #[.bool true, .bool rgl, .slice a4 rn n4], .int .i64 0]) (by simp [results, Try.results10, asAddr, hlv]) rfl ⟨_, _, _, hlen.out.symm, rfl, own_lower (own_set (own_set (own_set O4.out (by omega)) (by omega)) (by omega)) (by omega), bset3' BG.out _ _ _⟩
end Go.Proofs.Ytienamngmalkaaa
