/- BankGets, walked. -/
import Derived.Test.YtienamngmalkaaaRg1
namespace Go.Proofs.Ytienamngmalkaaa
open Go.RowKit

set_option maxRecDepth 8000
theorem rix_kinds {x k : Nat} (h : rix x = some k) : (x = 0 ∧ k = 0) ∨ (x = 34 ∧ k = 0) ∨ (x = 45 ∧ k = 1) ∨ (∃ j, j < 9 ∧ x = 49 + j ∧ k = 2 + j) ∨ (∃ j, j < 26 ∧ x = 97 + j ∧ k = 11 + j) ∨ (∃ j, j < 26 ∧ x = 65 + j ∧ k = 11 + j) := by
  unfold rix at h
  split at h
  · injection h with h; omega
  · split at h
    · injection h with h; omega
    · split at h
      · injection h with h; exact .inr (.inr (.inr (.inl ⟨x - 49, by omega, by omega, by omega⟩)))
      · split at h
        · injection h with h; exact .inr (.inr (.inr (.inr (.inl ⟨x - 97, by omega, by omega, by omega⟩))))
        · split at h
          · injection h with h; exact .inr (.inr (.inr (.inr (.inr ⟨x - 65, by omega, by omega, by omega⟩))))
          · cases h
set_option maxHeartbeats 2000000 in
theorem rget_none (L : List Rg) (x : Nat) (w : World) (hx : x < 256) (hk : rix x = none) :
    Calls Try.prog 10 #[.agg (bk L), .int .u8 (x : Int)] w fun e w' => e = .returned (.tuple #[.agg #[.bool false, .bool false, .slice none 0 0], .int .i64 150]) ∧ Below w.heap.size w w' := by
  generalize hW2 : (w.alloc (.cells (bk L) 28)).alloc (.cells #[.bool false, .bool false, .slice none 0 0] 24) = W2
  have BE : Hid (Below w.heap.size w W2) := by subst hW2; exact bAlloc (bAlloc (Below.refl _ _) _) _
  have B2 : Hid (Blk W2 (w.heap.size + 1) 24 #[.bool false, .bool false, .slice none 0 0]) := by
    subst hW2
    have := Blk.new (w.alloc (.cells (bk L) 28)) 24 #[.bool false, .bool false, .slice none 0 0]
    rwa [World.size_alloc] at this
  have CV := Hid.mk' (rvalid_any x W2 hx)
  rw [hk] at CV
  have r0 : W2.cell? ⟨w.heap.size + 1, 0, none⟩ = some (.bool false) := B2.out.cell rfl
  have r1 : W2.cell? ⟨w.heap.size + 1, 1, none⟩ = some (.bool false) := B2.out.cell rfl
  have r2 : W2.cell? ⟨w.heap.size + 1, 2, none⟩ = some (.slice none 0 0) := B2.out.cell rfl
  have g0 := B2.out.frozen 0
  have g1 := B2.out.frozen 1
  have g2 := B2.out.frozen 2
  have hlv := ld24 (((B2.out.set (j := 0) (.bool false)).set (j := 1) (.bool false)).set (j := 2) (.slice none 0 0))
  go_enter Try.func10, Try.ntmps10
  go_wp2_with (go_at_call 14; refine CV.out.mono ?_; rintro e w5 ⟨rfl, hw⟩; have hq := hw.symm; subst hq; clear hw)
  exact bodyPost_ret (v := .tuple #[.agg #[.bool false, .bool false, .slice none 0 0], .int .i64 150]) (by simp [results, Try.results10, asAddr, hlv]) rfl ⟨rfl, bset3' BE.out _ _ _⟩
theorem rget_any (L : List Rg) (P : List Ct) (x : Nat) (w : World) (hx : x < 256) (HR : Hid (Rdb w L P)) :
    Calls Try.prog 10 #[.agg (bk L), .int .u8 (x : Int)] w fun e w' => ∃ a c n, n = (getP P x).1.t.length ∧ e = gE (getP P x).1.s (getP P x).1.l (.slice a n c) (getP P x).2 ∧ w'.ownsRow w.heap.size 5 1 (.slice a n c) n (bv (getP P x).1.t) ∧ Below w.heap.size w w' := by
  unfold gE
  cases hk : rix x with
  | none =>
    have e : getP P x = (zc, 150) := by unfold getP; rw [hk]
    rw [e]
    refine (rget_none L x w hx hk).mono ?_
    rintro e w' ⟨rfl, hb⟩
    exact ⟨none, 0, 0, rfl, rfl, World.ownsRow_nil _ _ _ _, hb⟩
  | some k =>
    have e : getP P x = getQ P k := by unfold getP getQ; rw [hk]
    rw [e]
    rcases rix_kinds hk with ⟨rfl, rfl⟩ | ⟨rfl, rfl⟩ | ⟨rfl, rfl⟩ | ⟨j, hj, rfl, rfl⟩ | ⟨j, hj, rfl, rfl⟩ | ⟨j, hj, rfl, rfl⟩
    · exact rget_z L P w HR
    · exact rget_q L P w HR
    · exact rget_s L P w HR
    · exact rget_n L P j hj w HR
    · exact rget_l L P j hj w HR
    · exact rget_g L P j hj w HR
theorem getP_le {W : World} {L : List Rg} {P : List Ct} (R0 : Rdb W L P) (Y : Nat) : (getP P Y).1.t.length ≤ 140737488351232 := by
  unfold getP
  cases hk : rix Y with
  | none => exact Nat.zero_le _
  | some k =>
    dsimp only
    have hk37 := rix_lt hk
    have hP := R0.2.1
    have hkl : k < P.length := by omega
    have h5 := rdb_short R0 k P[k] (List.getElem?_eq_getElem hkl)
    have e5 : P.getD k zc = P[k] := by rw [List.getD_eq_getElem?_getD, List.getElem?_eq_getElem hkl]; rfl
    rw [e5]
    split
    · exact h5
    · exact Nat.zero_le _
set_option maxHeartbeats 4000000 in
theorem bankGets_walk (L : List Rg) (P : List Ct) (x : Nat) (w : World) (hx : x < 256) (R0 : Hid (Rdb w L P)) :
    Calls Try.prog 3 #[.agg (bk L), .int .u8 (x : Int)] w fun e w' => e = .returned (.bool true) ∧ Below w.heap.size w w' := by
  have hL := R0.out.1
  generalize hW1 : w.alloc (.cells (bk L) 28) = W1
  have B0 : Hid (Blk W1 w.heap.size 28 (bk L)) := by rw [← hW1]; exact Blk.new w 28 _
  have BE : Hid (Below w.heap.size w W1) := by rw [← hW1]; exact bAlloc (Below.refl _ _) _
  have CA := Hid.mk' (awake_any W1)
  have GA := Hid.mk' (fun W (h : Rdb W L P) => rget_any L P x W hx h)
  have GB := Hid.mk' (fun W (h : Rdb W L P) => get_any L P x W hx h)
  have hgl := getP_le R0.out x
  generalize hGP : getP P x = GP at GA GB hgl
  clear hGP
  obtain ⟨⟨gs, gl, gt⟩, gE1⟩ := GP
  unfold gE at GA GB
  try dsimp only at GA
  try dsimp only at GB
  have hgt : gt.length ≤ 140737488351232 := hgl
  clear hgl
  have V1 := Hid.mk' (fun W => valid_any x W hx)
  have V2 := Hid.mk' (fun W => rvalid_any x W hx)
  generalize (rix x).isSome = vb at *
  go_enter Try.func3, Try.ntmps3
  go_wp2_with fail
  clear hW1
  refine CA.out.mono ?_
  rintro e w3 ⟨rfl, hb3⟩
  have K0 := Hid.mk' (B0.out.keep hb3)
  have BL := Hid.mk' (bT BE.out hb3)
  clear hb3 CA B0 BE
  go_wp2_with (refine wl_load28 (.tmp 2) rfl rfl rfl hL K0.out ?_)
  refine (GA.out _ (R0.out.keep BL.out)).mono ?_
  rintro e w4 ⟨a4, c4, n4, hn4, rfl, hO4, hb4⟩
  obtain ⟨a9, c9, hv9, hT9⟩ := own_txl hO4 (by omega)
  obtain ⟨ea, ec⟩ : a4 = a9 ∧ c4 = c9 := by simpa using hv9
  subst ea ec
  have hba := bAlloc (Below.refl _ w4) (.cells #[.bool gs, .bool gl, .slice a4 n4 c4] 24)
  have X4 := Hid.mk' (Blk.new w4 24 #[.bool gs, .bool gl, .slice a4 n4 c4])
  have T4 := Hid.mk' (hT9.keep hba)
  have K4 := Hid.mk' ((K0.out.keep hb4).keep hba)
  have L4 := Hid.mk' (bT BL.out (bT hb4 hba))
  clear hn4 hO4 hb4 hv9 hT9 hba K0 BL
  go_wp2_with (refine wl_load28 (.tmp 2) rfl rfl rfl hL K4.out ?_)
  generalize w4.alloc (.cells #[.bool gs, .bool gl, .slice a4 n4 c4] 24) = w5 at *
  refine (GB.out _ (R0.out.keep L4.out)).mono ?_
  rintro e w6 ⟨a6, c6, n6, hn6, rfl, hO6, hb6⟩
  obtain ⟨a9, c9, hv9, hT9⟩ := own_txl hO6 (by omega)
  obtain ⟨ea, ec⟩ : a6 = a9 ∧ c6 = c9 := by simpa using hv9
  subst ea ec
  have hba := bAlloc (Below.refl _ w6) (.cells #[.bool gs, .bool gl, .slice a6 n6 c6] 24)
  have X6 := Hid.mk' (Blk.new w6 24 #[.bool gs, .bool gl, .slice a6 n6 c6])
  have T6 := Hid.mk' (hT9.keep hba)
  have X5 := Hid.mk' ((X4.out.keep hb6).keep hba)
  have T5 := Hid.mk' ((T4.out.keep hb6).keep hba)
  have L6 := Hid.mk' (bT L4.out (bT hb6 hba))
  clear hn6 hO6 hb6 hv9 hT9 hba K4 L4 X4 T4
  generalize hWB : w6.alloc (.cells #[.bool gs, .bool gl, .slice a6 n6 c6] 24) = w7 at *
  have y0 : w7.cell? ⟨w4.heap.size, 0, none⟩ = some (.bool gs) := X5.out.cell rfl
  have y1 : w7.cell? ⟨w4.heap.size, 1, none⟩ = some (.bool gl) := X5.out.cell rfl
  have y2 : w7.cell? ⟨w4.heap.size, 2, none⟩ = some (.slice a4 n4 c4) := X5.out.cell rfl
  have z0 : w7.cell? ⟨w6.heap.size, 0, none⟩ = some (.bool gs) := X6.out.cell rfl
  have z1 : w7.cell? ⟨w6.heap.size, 1, none⟩ = some (.bool gl) := X6.out.cell rfl
  have z2 : w7.cell? ⟨w6.heap.size, 2, none⟩ = some (.slice a6 n6 c6) := X6.out.cell rfl
  have CS := Hid.mk' (same_yes gs gl a6 a4 n6 n4 c6 c4 gt w7 T6.out T5.out)
  go_wp2_with fail
  refine CS.out.mono ?_
  rintro e w8 ⟨rfl, hb8⟩
  have L8 := Hid.mk' (bT L6.out hb8)
  clear hb8 hWB y0 y1 y2 z0 z1 z2
  go_wp2_with fail
  refine (V1.out _).mono ?_
  rintro e w9 ⟨rfl, hb9⟩
  have L9 := Hid.mk' (bT L8.out hb9)
  clear hb9
  go_wp2_with fail
  refine (V2.out _).mono ?_
  rintro e wa ⟨rfl, hw⟩
  have hq := hw.symm
  subst hq
  clear hw
  go_wp2
  go_ret
  exact ⟨rfl, L9.out⟩
end Go.Proofs.Ytienamngmalkaaa
