/- The reference: Move; pins.Cross. -/
import Derived.Test.YtaahklapoppgaaaQm05
namespace Go.Proofs.Ytaahklapoppgaaa
open Go.RowKit

set_option maxRecDepth 8000
set_option maxHeartbeats 4000000 in
set_option linter.unusedSimpArgs false in
theorem rmove_any (L : List Int) (ao : Option Addr) (n c : Nat) (E : List Er) (w : World) (hL : L.length = 27) (HE : Hid (Edr w ao E)) (hn : E.length = n) (hb : n ≤ 140737488355328) :
    Calls Try.prog 87 #[.agg (mk L), .slice ao n c] w fun e w' => e = .returned (.agg (mk (mvL L (E.map Er.t)))) ∧ Below w.heap.size w w' := by
  have hz := z24
  generalize hW2 : (w.alloc (.cells (mk L) 41)).alloc (.cells (mk zm) 41) = W2
  have BE : Hid (Below w.heap.size w W2) := by subst hW2; exact bAlloc (bAlloc (Below.refl _ _) _) _
  have B1 : Hid (Blk W2 w.heap.size 41 (mk L)) := by subst hW2; exact (Blk.new w 41 _).keep (bAlloc (Below.refl _ _) _)
  have B2 : Hid (Blk W2 (w.heap.size + 1) 41 (mk zm)) := by
    subst hW2
    have := Blk.new (w.alloc (.cells (mk L) 41)) 41 (mk zm)
    rwa [World.size_alloc] at this
  have HN := mkH hn
  clear hn
  go_enter Try.func87, Try.ntmps87
  go_wp2_with fail
  clear hW2
  go_loopg [5] n (fun m x5 wx => ∃ i : Nat, x5 = .int .i64 (i : Int) ∧ i + m = n ∧ ∃ X, X.length = 27 ∧ Hid (X = mvL L ((E.take i).map Er.t)) ∧ Hid (Blk wx w.heap.size 41 (mk X)) ∧ Hid (Blk wx (w.heap.size + 1) 41 (mk zm)) ∧ Hid (Below w.heap.size w wx))
  case atStart => exact ⟨0, rfl, by omega, L, hL, rfl, B1.out, B2.out, BE.out⟩
  case round =>
    obtain ⟨i, rfl, him, X, hX, HX, K1, K2, KB⟩ := hrel
    obtain ⟨go, hgo⟩ : ∃ g, g = gk - 1 := ⟨_, rfl⟩
    clear B1 B2 BE
    by_cases hi : i < n
    · have hi' : (i : Int) < (n : Int) := by omega
      have hi0 : (0 : Int) ≤ (i : Int) := by omega
      obtain ⟨r, hr⟩ : ∃ r, E[i]? = some r := ⟨_, List.getElem?_eq_getElem (by have := HN.out; omega)⟩
      obtain ⟨g, o, rfl, h3⟩ := HE.out.ed3 hr
      have HG : Hid (g < w.heap.size) := h3.lt
      have HR := mkH hr
      obtain ⟨ra, rp1, ro, rc1, _rO, rp2, rn, rc2, _rN⟩ := r
      dsimp only at h3
      have Z3 := mkH (h3.keep KB.out)
      clear hr h3
      go_upto_region 4 with fail
      have C20 := mkH (fun W => rshift_any X ra rp1 rp2 ro rc1 rn rc2 W hX)
      have HS : Hid (shl X ra ro rn = mvL L ((E.take (i + 1)).map Er.t)) := by unfold Hid; rw [mvL_take HR.out, HX.out]
      have hS : Hid ((shl X ra ro rn).length = 27) := by unfold Hid; rw [shl_len]; exact hX
      generalize shl X ra ro rn = X' at *
      have XD : Hid (Blk wr.drew w.heap.size 41 (mk X)) := K1.out
      have YD : Hid (Ed3 wr.drew g (o + i * 3) ra rp1 ro rc1 rp2 rn rc2) := Z3.out.keep (Below.refl _ _).drew
      have UD : Hid (Blk wr.drew (w.heap.size + 1) 41 (mk zm)) := K2.out
      have LD : Hid (Below w.heap.size w wr.drew) := KB.out.drew
      clear K1 K2 KB HX HR Z3
      refine wp_region_held (S := fun w' => Ed3 w' g (o + i * 3) ra rp1 ro rc1 rp2 rn rc2) (by kernel_rfl) ?_
      change wpAnyH _ _ _ _ _ _ _ _ (World.drew _)
      generalize wr.drew = V3 at *
      refine tk 1 (.slice (some ⟨g, o, none⟩) n c) YD.out ?_
      refine tk 2 (.int .i64 (i : Int)) YD.out ?_
      refine tk 3 (.pointer (some ⟨g, o + i * 3, none⟩)) YD.out ?_
      refine ta 4 (.agg #[.int .i64 ra, .slice rp1 ro rc1, .slice rp2 rn rc2]) rfl (Or.inl ⟨by rfl, fun w9 h9 => by obtain ⟨h5, h6, h7⟩ := h9; go_simp⟩) YD.out ?_
      try simp only [Act.put, jj1, jj2, jj3, jj4, jj5, jj6]
      refine wpAnyH_all (rs := [0]) (by kernel_rfl) (by simp) (AllH.cons rfl (fun K hK => ?_) AllH.nil)
      refine do24 rfl (.tmp 2) rfl rfl hX XD.out ?_
      refine hK _ _ ⟨YD.out, ?_⟩
      clear hK K
      try simp only [Act.put, jj1, jj2, jj3, jj4, jj5, jj6]
      refine wpAnyH_all (rs := [5]) (by kernel_rfl) (by simp) (AllH.cons rfl (fun K hK => ?_) AllH.nil)
      go_simp
      refine (C20.out V3).mono ?_
      rintro e w4 ⟨rfl, hb9⟩
      have X4 := mkH (XD.out.keep hb9)
      have Y4 := mkH (YD.out.keep hb9)
      have U4 := mkH (UD.out.keep hb9)
      have L4 := mkH (bT LD.out hb9)
      clear hb9
      dsimp only
      refine hK _ _ ⟨Y4.out, ?_⟩
      clear hK K
      try simp only [Act.put, jj1, jj2, jj3, jj4, jj5, jj6]
      refine wpAnyH_all (rs := [6]) (by kernel_rfl) (by simp) (AllH.cons rfl (fun K hK => ?_) AllH.nil)
      refine st24 rfl (.tmp 2) (.tmp 17) rfl rfl rfl hS.out hX X4.out ?_
      have Y5 := mkH (Y4.out.off (grown_put24 w4 w.heap.size X') (by have := HG.out; simp; omega))
      refine hK _ _ ⟨Y5.out, ?_⟩
      clear hK K
      try simp only [Act.put, jj1, jj2, jj3, jj4, jj5, jj6]
      refine wpAnyH_done (by kernel_rfl) ?_ _
      go_wp2
      go_roundg go
      case measure => omega
      case rel => exact ⟨i + 1, by go_num, by omega, X', hS.out, HS.out, X4.out.put24 hS.out hX, U4.out.put24_off (by omega) _, below_put24 L4.out (Nat.le_refl _) _⟩
    · have hi' : ¬ (i : Int) < (n : Int) := by omega
      have HF : Hid (X = mvL L (E.map Er.t)) := by
        have h1 := HX.out
        rw [List.take_of_length_le (by have := HN.out; omega)] at h1
        exact h1
      have hlv := mkH (ld24 hX (K2.out.put24 hX rfl))
      clear HX hgo
      go_wp2_with (first | refine wl_load24 (B := w.heap.size) (.tmp 2) rfl rfl rfl hX K1.out ?_ | refine wl_store24 (B := w.heap.size + 1) (.tmp 4) (.tmp 18) rfl rfl rfl rfl hX (by rfl) K2.out ?_)
      exact bodyPost_ret (v := .agg (mk X)) (by simp [results, Try.results87, asAddr, hlv.out]) rfl ⟨by rw [← HF.out], below_put24 KB.out (by omega) _⟩
/-- marks boxed -/
theorem boxed24 {w : World} {L : List Int} (hL : L.length = 27) : Blk (put24 (w.alloc (.cells (mk zm) 41)) w.heap.size L) w.heap.size 41 (mk L) ∧ Below w.heap.size w (put24 (w.alloc (.cells (mk zm) 41)) w.heap.size L) :=
  ⟨(Blk.new w 41 (mk zm)).put24 hL rfl, below_put24 (bAlloc (Below.refl _ _) _) (Nat.le_refl _) _⟩
/-- the first i crossed -/
def crL (A W M V : List Int) (i : Nat) : List Int := (List.range 27).map fun j => if j < i ∧ A.getD j 0 = M.getD j 0 then W.getD j 0 else V.getD j 0
theorem crL_len (A W M V : List Int) (i : Nat) : (crL A W M V i).length = 27 := by simp [crL]
theorem crL_zero (A W M V : List Int) (hV : V.length = 27) : crL A W M V 0 = V := by
  apply List.ext_getElem?
  intro j
  unfold crL
  rw [List.getElem?_map]
  by_cases hj : j < 27
  · rw [List.getElem?_range hj, List.getElem?_eq_getElem (by omega)]
    simp [List.getD, List.getElem?_eq_getElem (show j < V.length by omega)]
  · rw [List.getElem?_eq_none (by simp; omega), List.getElem?_eq_none (by omega)]; rfl
theorem crL_at (A W M V : List Int) (i : Nat) (hi : i < 27) : (crL A W M V i)[i]? = some (V.getD i 0) := by
  unfold crL
  rw [List.getElem?_map, List.getElem?_range hi]
  simp
theorem crL_eq (A W M V : List Int) (i : Nat) (hi : i < 27) {x y : Int} (hA : A[i]? = some x) (hM : M[i]? = some x) (hW : W[i]? = some y) : (crL A W M V i).set i y = crL A W M V (i + 1) := by
  apply List.ext_getElem?
  intro j
  rw [List.getElem?_set]
  unfold crL
  by_cases hij : i = j
  · subst hij
    rw [if_pos rfl, if_pos (by simpa using hi), List.getElem?_map, List.getElem?_range hi]
    simp [List.getD, hA, hM, hW]
  · rw [if_neg hij, List.getElem?_map, List.getElem?_map]
    by_cases hj : j < 27
    · rw [List.getElem?_range hj]
      simp [show j < i + 1 ↔ j < i by omega]
    · rw [List.getElem?_eq_none (by simp; omega)]; rfl
theorem crL_ne (A W M V : List Int) (i : Nat) {x z : Int} (hA : A[i]? = some x) (hM : M[i]? = some z) (hne : x ≠ z) : crL A W M V i = crL A W M V (i + 1) := by
  apply List.ext_getElem?
  intro j
  unfold crL
  rw [List.getElem?_map, List.getElem?_map]
  by_cases hj : j < 27
  · rw [List.getElem?_range hj]
    by_cases hij : i = j
    · subst hij
      simp [List.getD, hA, hM, hne]
    · simp [show j < i + 1 ↔ j < i by omega]
  · rw [List.getElem?_eq_none (by simp; omega)]; rfl
/-- three marks boxed, and a fourth -/
structure B4 (w W : World) (A C M : List Int) : Prop where
  b1 : Blk W w.heap.size 41 (mk A)
  b2 : Blk W (w.heap.size + 1) 41 (mk C)
  b3 : Blk W (w.heap.size + 1 + 1) 41 (mk M)
  b4 : Blk W (w.heap.size + 1 + 1 + 1) 41 (mk zm)
  bel : Below w.heap.size w W
theorem B4.keep {w W W' : World} {A C M : List Int} (h : B4 w W A C M) (hb : Below W.heap.size W W') : B4 w W' A C M := ⟨h.b1.keep hb, h.b2.keep hb, h.b3.keep hb, h.b4.keep hb, bT h.bel hb⟩
theorem b4_new (w : World) (A C M : List Int) : B4 w ((((w.alloc (.cells (mk A) 41)).alloc (.cells (mk C) 41)).alloc (.cells (mk M) 41)).alloc (.cells (mk zm) 41)) A C M := by
  have b1 := Blk.new w 41 (mk A)
  have b2 := Blk.new (w.alloc (.cells (mk A) 41)) 41 (mk C)
  have b3 := Blk.new ((w.alloc (.cells (mk A) 41)).alloc (.cells (mk C) 41)) 41 (mk M)
  have b4 := Blk.new (((w.alloc (.cells (mk A) 41)).alloc (.cells (mk C) 41)).alloc (.cells (mk M) 41)) 41 (mk zm)
  rw [World.size_alloc] at b2
  rw [World.size_alloc, World.size_alloc] at b3
  rw [World.size_alloc, World.size_alloc, World.size_alloc] at b4
  exact ⟨b1.keep (bAlloc (bAlloc (bAlloc (Below.refl _ _) _) _) _), b2.keep (bAlloc (bAlloc (Below.refl _ _) _) _), b3.keep (bAlloc (Below.refl _ _) _), b4, bAlloc (bAlloc (bAlloc (bAlloc (Below.refl _ _) _) _) _) _⟩
theorem B4.put {w W : World} {A C M : List Int} {p : Nat} (h : B4 w W A C M) (hp : w.heap.size + 1 + 1 + 1 < p) (L : List Int) : B4 w (put24 W p L) A C M := ⟨h.b1.put24_off (by omega) _, h.b2.put24_off (by omega) _, h.b3.put24_off (by omega) _, h.b4.put24_off (by omega) _, below_put24 h.bel (by omega) _⟩
theorem B4.set {w W : World} {A C M : List Int} {p : Nat} (h : B4 w W A C M) (hp : w.heap.size + 1 + 1 + 1 < p) (j : Nat) (v : Value) : B4 w (W.setCell ⟨p, j, none⟩ v) A C M := ⟨h.b1.off (by omega) _, h.b2.off (by omega) _, h.b3.off (by omega) _, h.b4.off (by omega) _, h.bel.setCell (show w.heap.size ≤ p by omega) _⟩
set_option maxHeartbeats 4000000 in
theorem cross_any (A C M : List Int) (ao : Option Addr) (n c : Nat) (E : List Er) (w : World) (hA : A.length = 27) (hC : C.length = 27) (hM : M.length = 27) (HE : Hid (Edr w ao E)) (hn : E.length = n) (hb : n ≤ 140737488355328) :
    Calls Try.prog 90 #[.agg (mk A), .agg (mk C), .agg (mk M), .slice ao n c] w fun e w' => e = .returned (.agg (mk (crL A C M (mvL A (E.map Er.t)) 27))) ∧ Below w.heap.size w w' := by
  have hz := z24
  generalize hW2 : (((w.alloc (.cells (mk A) 41)).alloc (.cells (mk C) 41)).alloc (.cells (mk M) 41)).alloc (.cells (mk zm) 41) = W2
  have B0 : Hid (B4 w W2 A C M) := by subst hW2; exact b4_new w A C M
  have hV : Hid ((mvL A (E.map Er.t)).length = 27) := by unfold Hid; rw [mvL_len]; exact hA
  have CM := mkH (move_any A ao n c E W2 hA (HE.out.keep B0.out.bel) hn hb)
  generalize mvL A (E.map Er.t) = V at *
  obtain ⟨A0, aq, hAA, hA0⟩ := parts24 hA
  have HAA := mkH hAA
  have haq : Hid (A[26]? = some aq) := by unfold Hid; rw [hAA, List.getElem?_append_right (by omega), hA0]; rfl
  clear hAA hn
  go_enter Try.func90, Try.ntmps90
  go_upto_region 1 with fail
  clear hW2
  go_wp2_with (first | refine wl_load24 (B := w.heap.size) (.tmp 4) rfl rfl rfl hA B0.out.b1 ?_ | fail)
  refine CM.out.mono ?_
  rintro e w3 ⟨rfl, hb3⟩
  have B1 := mkH (B0.out.keep hb3)
  have HP : Hid (w.heap.size + 1 + 1 + 1 < w3.heap.size) := B1.out.b4.lt
  have BZ := mkH (Blk.new w3 41 (mk zm))
  have BN : Hid (Blk (put24 (w3.alloc (.cells (mk zm) 41)) w3.heap.size V) w3.heap.size 41 (mk V)) := BZ.out.put24 hV.out rfl
  have BB : Hid (B4 w (put24 (w3.alloc (.cells (mk zm) 41)) w3.heap.size V) A C M) := (B1.out.keep (bAlloc (Below.refl _ _) _)).put HP.out V
  clear CM B0 B1 hb3
  go_upto_region 2 with (refine wl_store24 (B := w3.heap.size) (L := V) (.tmp 9) (.tmp 14) rfl rfl rfl rfl hV.out (by rfl) BZ.out ?_)
  generalize put24 (w3.alloc (.cells (mk zm) 41)) w3.heap.size V = w4 at *
  generalize w3.heap.size = p at *
  clear BZ
  go_wp2_with (refine wl_load22 (B := w.heap.size) (.tmp 15) rfl rfl rfl A0 aq hA0 (HAA.out ▸ BB.out.b1) ?_)
  go_loopg [10, 11, 17] 26 (fun m x10 x11 x17 wx => ∃ i : Nat, x17 = .int .i64 (i : Int) ∧ i + m = 26 ∧ ∃ X, Hid (X = crL A C M V i) ∧ Hid (Blk wx p 41 (mk X)) ∧ Hid (B4 w wx A C M))
  case atStart => exact ⟨0, rfl, rfl, V, by rw [crL_zero _ _ _ _ hV.out]; exact rfl, BN.out, BB.out⟩
  case round =>
    obtain ⟨i, rfl, him, X, HX, K1, K2⟩ := hrel
    clear BN BB
    by_cases hi : i < 26
    · have hi' : (i : Int) < 26 := by omega
      have hi0 : (0 : Int) ≤ (i : Int) := by omega
      obtain ⟨x, hx⟩ : ∃ x, A0[i]? = some x := ⟨_, List.getElem?_eq_getElem (by omega)⟩
      obtain ⟨y, hy⟩ : ∃ y, C[i]? = some y := ⟨_, List.getElem?_eq_getElem (by omega)⟩
      obtain ⟨z, hzz⟩ : ∃ y, M[i]? = some y := ⟨_, List.getElem?_eq_getElem (by omega)⟩
      have hxi := ix22 hA0 hx
      have hxA : A[i]? = some x := by rw [HAA.out, List.getElem?_append_left (by omega)]; exact hx
      have cz : wr.cell? ⟨w.heap.size + 1 + 1, i, none⟩ = some (.int .i64 z) := K2.out.b3.mkAt hzz
      have cy : wr.cell? ⟨w.heap.size + 1, i, none⟩ = some (.int .i64 y) := K2.out.b2.mkAt hy
      have cx : wr.cell? ⟨p, i, none⟩ = some (.int .i64 (V.getD i 0)) := K1.out.mkAt (by rw [HX.out]; exact crL_at A C M V i (by omega))
      have f1 := K1.out.frozen i
      have hw1 : IntKind.i64.wrap ((i : Int) + 1) = ((i + 1 : Nat) : Int) := by rw [IntKind.wrap_i64]; omega
      generalize V.getD i 0 = vi at *
      by_cases hxz : x = z
      · subst hxz
        have HX1 : Hid (X.set i y = crL A C M V (i + 1)) := by unfold Hid; rw [HX.out]; exact crL_eq A C M V i (by omega) hxA hzz hy
        have I1 := mkH (K1.out.mkSet (k := i) y)
        have I2 := mkH (K2.out.set HP.out i (.int .i64 y))
        clear hx hy hzz hxA K1 K2 HX
        go_wp2
        go_roundg (26 - (i + 1))
        case measure => omega
        case rel => exact ⟨i + 1, rfl, by omega, _, HX1.out, I1.out, I2.out⟩
      · have hne : (x == z) = false := by simpa using hxz
        have HX1 : Hid (X = crL A C M V (i + 1)) := by unfold Hid; rw [HX.out]; exact crL_ne A C M V i hxA hzz hxz
        clear hx hy hzz hxA HX
        go_wp2
        go_roundg (26 - (i + 1))
        case measure => omega
        case rel => exact ⟨i + 1, rfl, by omega, _, HX1.out, K1.out, K2.out⟩
    · have hi' : ¬ (i : Int) < 26 := by omega
      obtain rfl : i = 26 := by omega
      obtain ⟨y, hy⟩ : ∃ y, C[26]? = some y := ⟨_, List.getElem?_eq_getElem (by omega)⟩
      obtain ⟨z, hzz⟩ : ∃ y, M[26]? = some y := ⟨_, List.getElem?_eq_getElem (by omega)⟩
      have cx0 : wr.cell? ⟨w.heap.size, 26, none⟩ = some (.int .i64 aq) := K2.out.b1.mkAt haq.out
      have cz : wr.cell? ⟨w.heap.size + 1 + 1, 26, none⟩ = some (.int .i64 z) := K2.out.b3.mkAt hzz
      have cy : wr.cell? ⟨w.heap.size + 1, 26, none⟩ = some (.int .i64 y) := K2.out.b2.mkAt hy
      have cx : wr.cell? ⟨p, 26, none⟩ = some (.int .i64 (V.getD 26 0)) := K1.out.mkAt (by rw [HX.out]; exact crL_at A C M V 26 (by omega))
      have f1 := K1.out.frozen 26
      generalize V.getD 26 0 = vi at *
      by_cases hxz : aq = z
      · subst hxz
        have HX1 : Hid (X.set 26 y = crL A C M V 27) := by unfold Hid; rw [HX.out]; exact crL_eq A C M V 26 (by omega) haq.out hzz hy
        have I1 := mkH (K1.out.mkSet (k := 26) y)
        have I2 := mkH (K2.out.set HP.out 26 (.int .i64 y))
        have hX' : Hid ((X.set 26 y).length = 27) := by unfold Hid; rw [HX1.out, crL_len]
        generalize X.set 26 y = X' at *
        clear hy hzz K1 K2 HX
        go_upto_region 10 with fail
        generalize wr.setCell ⟨p, 26, none⟩ (.int .i64 y) = w5 at *
        have hlv := mkH (ld24 hX'.out (I2.out.b4.put24 hX'.out rfl))
        go_wp2_with (first | refine wl_load24 (B := p) (.tmp 9) rfl rfl rfl hX'.out I1.out ?_ | refine wl_store24 (B := w.heap.size + 1 + 1 + 1) (.tmp 8) (.tmp 43) rfl rfl rfl rfl hX'.out (by rfl) I2.out.b4 ?_)
        exact bodyPost_ret (v := .agg (mk X')) (by simp [results, Try.results90, asAddr, hlv.out]) rfl ⟨by rw [← HX1.out], below_put24 I2.out.bel (by omega) _⟩
      · have hne : (aq == z) = false := by simpa using hxz
        have HX1 : Hid (X = crL A C M V 27) := by unfold Hid; rw [HX.out]; exact crL_ne A C M V 26 haq.out hzz hxz
        have hX' : Hid (X.length = 27) := by unfold Hid; rw [HX1.out, crL_len]
        clear hy hzz HX
        have hlv := mkH (ld24 hX'.out (K2.out.b4.put24 hX'.out rfl))
        go_upto_region 10 with fail
        go_wp2_with (first | refine wl_load24 (B := p) (.tmp 9) rfl rfl rfl hX'.out K1.out ?_ | refine wl_store24 (B := w.heap.size + 1 + 1 + 1) (.tmp 8) (.tmp 43) rfl rfl rfl rfl hX'.out (by rfl) K2.out.b4 ?_)
        exact bodyPost_ret (v := .agg (mk X)) (by simp [results, Try.results90, asAddr, hlv.out]) rfl ⟨by rw [← HX1.out], below_put24 K2.out.bel (by omega) _⟩
end Go.Proofs.Ytaahklapoppgaaa

/- The reference: Cross. -/
namespace Go.Proofs.Ytaahklapoppgaaa
open Go.RowKit

set_option maxRecDepth 8000
set_option maxHeartbeats 4000000 in
set_option linter.unusedSimpArgs false in
theorem rcross_any (A C M : List Int) (ao : Option Addr) (n c : Nat) (E : List Er) (w : World) (hA : A.length = 27) (hC : C.length = 27) (hM : M.length = 27) (HE : Hid (Edr w ao E)) (hn : E.length = n) (hb : n ≤ 140737488355328) :
    Calls Try.prog 73 #[.agg (mk A), .agg (mk C), .agg (mk M), .slice ao n c] w fun e w' => e = .returned (.agg (mk (crL A C M (mvL A (E.map Er.t)) 27))) ∧ Below w.heap.size w w' := by
  have hz := z24
  generalize hW2 : (((w.alloc (.cells (mk A) 41)).alloc (.cells (mk C) 41)).alloc (.cells (mk M) 41)).alloc (.cells (mk zm) 41) = W2
  have B0 : Hid (B4 w W2 A C M) := by subst hW2; exact b4_new w A C M
  have hV : Hid ((mvL A (E.map Er.t)).length = 27) := by unfold Hid; rw [mvL_len]; exact hA
  have CV := mkH (rmove_any A ao n c E W2 hA (HE.out.keep B0.out.bel) hn hb)
  generalize mvL A (E.map Er.t) = V at *
  clear hn
  go_enter Try.func73, Try.ntmps73
  go_upto_region 1 with fail
  clear hW2
  go_wp2_with (first | refine wl_load24 (B := w.heap.size) (.tmp 4) rfl rfl rfl hA B0.out.b1 ?_ | fail)
  refine CV.out.mono ?_
  rintro e w3 ⟨rfl, hb3⟩
  have B1 := mkH (B0.out.keep hb3)
  have HP : Hid (w.heap.size + 1 + 1 + 1 < w3.heap.size) := B1.out.b4.lt
  have BZ := mkH (Blk.new w3 41 (mk zm))
  have BN : Hid (Blk (put24 (w3.alloc (.cells (mk zm) 41)) w3.heap.size V) w3.heap.size 41 (mk V)) := BZ.out.put24 hV.out rfl
  have BB : Hid (B4 w (put24 (w3.alloc (.cells (mk zm) 41)) w3.heap.size V) A C M) := (B1.out.keep (bAlloc (Below.refl _ _) _)).put HP.out V
  clear CV B0 B1 hb3
  go_upto_region 2 with (refine wl_store24 (B := w3.heap.size) (L := V) (.tmp 9) (.tmp 14) rfl rfl rfl rfl hV.out (by rfl) BZ.out ?_)
  generalize put24 (w3.alloc (.cells (mk zm) 41)) w3.heap.size V = w4 at *
  generalize w3.heap.size = p at *
  clear BZ
  go_wp2_with fail
  go_loopg [10, 11] 27 (fun m x10 x11 wx => ∃ i : Nat, x10 = .int .i64 (i : Int) ∧ i + m = 27 ∧ ∃ X, X.length = 27 ∧ Hid (X = crL A C M V i) ∧ Hid (Blk wx p 41 (mk X)) ∧ Hid (B4 w wx A C M))
  case atStart => exact ⟨0, rfl, rfl, V, hV.out, by rw [crL_zero _ _ _ _ hV.out]; exact rfl, BN.out, BB.out⟩
  case round =>
    obtain ⟨i, rfl, him, X, hX, HX, K1, K2⟩ := hrel
    obtain ⟨go, hgo⟩ : ∃ g, g = gk - 1 := ⟨_, rfl⟩
    clear BN BB
    by_cases hi : i < 27
    · have hi' : (i : Int) ≤ 26 := by omega
      have hi0 : (0 : Int) ≤ (i : Int) := by omega
      obtain ⟨x, hx⟩ : ∃ x, A[i]? = some x := ⟨_, List.getElem?_eq_getElem (by omega)⟩
      obtain ⟨y, hy⟩ : ∃ y, C[i]? = some y := ⟨_, List.getElem?_eq_getElem (by omega)⟩
      obtain ⟨z, hzz⟩ : ∃ y, M[i]? = some y := ⟨_, List.getElem?_eq_getElem (by omega)⟩
      have CA := mkH (fun W => at_any A i x W hA hx)
      have CM := mkH (fun W => at_any M i z W hM hzz)
      have CC := mkH (fun W => at_any C i y W hC hy)
      have CW := mkH (fun W => with_any X i y W hX hi)
      by_cases hxz : x = z
      · subst hxz
        have HX1 : Hid (X.set i y = crL A C M V (i + 1)) := by unfold Hid; rw [HX.out]; exact crL_eq A C M V i hi hx hzz hy
        have hX' : Hid ((X.set i y).length = 27) := by unfold Hid; simpa using hX
        generalize X.set i y = X' at *
        clear hx hy hzz HX
        go_upto_region 5 with fail
        have KD : Hid (Blk wr.drew p 41 (mk X)) := K1.out
        have FD : Hid (B4 w wr.drew A C M) := K2.out.keep (Below.refl _ _).drew
        clear K1 K2
        refine wp_region_held (S := fun w' => Blk w' w.heap.size 41 (mk A) ∧ Blk w' (w.heap.size + 1 + 1) 41 (mk M)) (by kernel_rfl) ?_
        change wpAnyH _ _ _ _ _ _ _ _ (World.drew _)
        generalize wr.drew = V3 at *
        refine ta 0 (.agg (mk A)) rfl (yi24 rfl (.tmp 4) rfl rfl hA (fun _ h => h.1)) ⟨FD.out.b1, FD.out.b3⟩ ?_
        try simp only [Act.put, jj1, jj2, jj3, jj4, jj5, jj6]
        refine tk 1 (.int .i64 (i : Int)) ⟨FD.out.b1, FD.out.b3⟩ ?_
        refine ta 3 (.agg (mk M)) rfl (yi24 rfl (.tmp 6) rfl rfl hM (fun _ h => h.2)) ⟨FD.out.b1, FD.out.b3⟩ ?_
        refine tk 4 (.int .i64 (i : Int)) ⟨FD.out.b1, FD.out.b3⟩ ?_
        try simp only [Act.put, jj1, jj2, jj3, jj4, jj5, jj6]
        refine wpAnyH_all (rs := [2]) (by kernel_rfl) (by simp) (AllH.cons rfl (fun K hK => ?_) AllH.nil)
        go_simp
        refine (CA.out V3).mono ?_
        rintro e w4 ⟨rfl, hb9⟩
        have K4 := mkH (KD.out.keep hb9)
        have F4 := mkH (FD.out.keep hb9)
        clear hb9
        dsimp only
        refine hK _ _ ⟨⟨F4.out.b1, F4.out.b3⟩, ?_⟩
        clear hK K
        try simp only [Act.put, jj1, jj2, jj3, jj4, jj5, jj6]
        refine wpAnyH_all (rs := [5]) (by kernel_rfl) (by simp) (AllH.cons rfl (fun K hK => ?_) AllH.nil)
        go_simp
        refine (CM.out w4).mono ?_
        rintro e w5 ⟨rfl, hb9⟩
        have K5 := mkH (K4.out.keep hb9)
        have F5 := mkH (F4.out.keep hb9)
        clear hb9
        dsimp only
        refine hK _ _ ⟨⟨F5.out.b1, F5.out.b3⟩, ?_⟩
        clear hK K
        refine tk 6 (.bool true) ⟨F5.out.b1, F5.out.b3⟩ ?_
        try simp only [Act.put, jj1, jj2, jj3, jj4, jj5, jj6]
        refine wpAnyH_done (by kernel_rfl) ?_ _
        go_wp2_with (first | refine wl_load24 (B := w.heap.size + 1) (.tmp 5) rfl rfl rfl hC F5.out.b2 ?_ | fail)
        refine (CC.out w5).mono ?_
        rintro e w7 ⟨rfl, hb9⟩
        have K7 := mkH (K5.out.keep hb9)
        have F7 := mkH (F5.out.keep hb9)
        clear hb9
        go_wp2_with (first | refine wl_load24 (B := p) (.tmp 9) rfl rfl rfl hX K7.out ?_ | fail)
        refine (CW.out w7).mono ?_
        rintro e w8 ⟨rfl, hb9⟩
        have K8 := mkH (K7.out.keep hb9)
        have F8 := mkH (F7.out.keep hb9)
        clear hb9
        go_wp2_with (refine wl_store24 (B := p) (L := X') (.tmp 9) (.tmp 32) rfl rfl rfl rfl hX'.out hX K8.out ?_)
        go_roundg go
        case measure => omega
        case rel => exact ⟨i + 1, by go_num, by omega, X', hX'.out, HX1.out, K8.out.put24 hX'.out hX, F8.out.put HP.out X'⟩
      · have hne : (x == z) = false := by simpa using hxz
        have HX1 : Hid (X = crL A C M V (i + 1)) := by unfold Hid; rw [HX.out]; exact crL_ne A C M V i hx hzz hxz
        clear hx hy hzz HX CC CW
        go_upto_region 5 with fail
        have KD : Hid (Blk wr.drew p 41 (mk X)) := K1.out
        have FD : Hid (B4 w wr.drew A C M) := K2.out.keep (Below.refl _ _).drew
        clear K1 K2
        refine wp_region_held (S := fun w' => Blk w' w.heap.size 41 (mk A) ∧ Blk w' (w.heap.size + 1 + 1) 41 (mk M)) (by kernel_rfl) ?_
        change wpAnyH _ _ _ _ _ _ _ _ (World.drew _)
        generalize wr.drew = V3 at *
        refine ta 0 (.agg (mk A)) rfl (yi24 rfl (.tmp 4) rfl rfl hA (fun _ h => h.1)) ⟨FD.out.b1, FD.out.b3⟩ ?_
        try simp only [Act.put, jj1, jj2, jj3, jj4, jj5, jj6]
        refine tk 1 (.int .i64 (i : Int)) ⟨FD.out.b1, FD.out.b3⟩ ?_
        refine ta 3 (.agg (mk M)) rfl (yi24 rfl (.tmp 6) rfl rfl hM (fun _ h => h.2)) ⟨FD.out.b1, FD.out.b3⟩ ?_
        refine tk 4 (.int .i64 (i : Int)) ⟨FD.out.b1, FD.out.b3⟩ ?_
        try simp only [Act.put, jj1, jj2, jj3, jj4, jj5, jj6]
        refine wpAnyH_all (rs := [2]) (by kernel_rfl) (by simp) (AllH.cons rfl (fun K hK => ?_) AllH.nil)
        go_simp
        refine (CA.out V3).mono ?_
        rintro e w4 ⟨rfl, hb9⟩
        have K4 := mkH (KD.out.keep hb9)
        have F4 := mkH (FD.out.keep hb9)
        clear hb9
        dsimp only
        refine hK _ _ ⟨⟨F4.out.b1, F4.out.b3⟩, ?_⟩
        clear hK K
        try simp only [Act.put, jj1, jj2, jj3, jj4, jj5, jj6]
        refine wpAnyH_all (rs := [5]) (by kernel_rfl) (by simp) (AllH.cons rfl (fun K hK => ?_) AllH.nil)
        go_simp
        refine (CM.out w4).mono ?_
        rintro e w5 ⟨rfl, hb9⟩
        have K5 := mkH (K4.out.keep hb9)
        have F5 := mkH (F4.out.keep hb9)
        clear hb9
        dsimp only
        refine hK _ _ ⟨⟨F5.out.b1, F5.out.b3⟩, ?_⟩
        clear hK K
        refine tk 6 (.bool false) ⟨F5.out.b1, F5.out.b3⟩ ?_
        try simp only [Act.put, jj1, jj2, jj3, jj4, jj5, jj6]
        refine wpAnyH_done (by kernel_rfl) ?_ _
        go_wp2
        go_roundg go
        case measure => omega
        case rel => exact ⟨i + 1, by go_num, by omega, X, hX, HX1.out, K5.out, F5.out⟩
    · have hi' : ¬ (i : Int) ≤ 26 := by omega
      obtain rfl : i = 27 := by omega
      have hlv := mkH (ld24 hX (K2.out.b4.put24 hX rfl))
      go_wp2_with (first | refine wl_load24 (B := p) (.tmp 9) rfl rfl rfl hX K1.out ?_ | refine wl_store24 (B := w.heap.size + 1 + 1 + 1) (.tmp 8) (.tmp 33) rfl rfl rfl rfl hX (by rfl) K2.out.b4 ?_)
      exact bodyPost_ret (v := .agg (mk X)) (by simp [results, Try.results73, asAddr, hlv.out]) rfl ⟨by rw [← HX.out], below_put24 K2.out.bel (by omega) _⟩
end Go.Proofs.Ytaahklapoppgaaa

