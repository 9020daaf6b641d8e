/- pins.Fit, the reference: None, Fit, Clip. -/
import Derived.Test.YtdoheblkhnmmiaaRef
namespace Go.Proofs.Ytdoheblkhnmmiaa
open Go.RowKit

set_option maxRecDepth 8000
/-- a mark fits a text of so many bytes -/
def ft (s x : Int) : Bool := decide (x = -1 ∨ (0 ≤ x ∧ x ≤ s))
theorem fits_any (x s : Int) (w : World) : Calls Try.prog 42 #[.int .i64 x, .int .i64 s] w fun e w' => e = .returned (.bool (ft s x)) ∧ w' = w := by
  unfold ft
  by_cases h : x = -1
  · subst h
    rw [decide_eq_true (.inl rfl)]
    go_enter Try.func42, Try.ntmps42
    go_wp2
    go_ret
    exact ⟨rfl, rfl⟩
  have h1 : (x == -1) = false := by simpa using h
  by_cases h2 : 0 ≤ x
  · by_cases h3 : x ≤ s
    · rw [decide_eq_true (.inr ⟨h2, h3⟩)]
      go_enter Try.func42, Try.ntmps42
      go_wp2
      go_ret
      exact ⟨rfl, rfl⟩
    · rw [decide_eq_false (by omega)]
      go_enter Try.func42, Try.ntmps42
      go_wp2
      go_ret
      exact ⟨rfl, rfl⟩
  · rw [decide_eq_false (by omega)]
    go_enter Try.func42, Try.ntmps42
    go_wp2
    go_ret
    exact ⟨rfl, rfl⟩
/-- all marks fit -/
def fitL (L : List Int) (s : Int) : Bool := L.all (ft s)
theorem fitL_no {L : List Int} {s x : Int} {i : Nat} (h : L[i]? = some x) (hf : ft s x = false) : fitL L s = false := by
  unfold fitL
  rw [List.all_eq_false]
  exact ⟨x, List.mem_of_getElem? h, by simp [hf]⟩
theorem fitL_take {L : List Int} {s x : Int} {i : Nat} (h : L[i]? = some x) (hf : fitL (L.take i) s = true) (hx : ft s x = true) : fitL (L.take (i + 1)) s = true := by
  obtain ⟨hi, rfl⟩ := List.getElem?_eq_some_iff.1 h
  unfold fitL at *
  rw [List.take_succ_eq_append_getElem hi, List.all_append, hf]
  simpa using hx
set_option maxHeartbeats 2000000 in
theorem fit_any (L : List Int) (s : Int) (w : World) (hL : L.length = 27) :
    Calls Try.prog 26 #[.agg (mk L), .int .i64 s] w fun e w' => e = .returned (.bool (fitL L s)) ∧ Below w.heap.size w w' := by
  generalize hW2 : w.alloc (.cells (mk L) 24) = W2
  have BE : Hid (Below w.heap.size w W2) := by subst hW2; exact bAlloc (Below.refl _ _) _
  have B1 : Hid (Blk W2 w.heap.size 24 (mk L)) := by subst hW2; exact Blk.new w 24 _
  obtain ⟨M, q, hLM, hM⟩ := parts24 hL
  have HLM := Hid.mk' hLM
  clear hLM
  have c26 : W2.cell? ⟨w.heap.size, 26, none⟩ = some (.int .i64 q) := B1.out.mkAt (by rw [HLM.out, List.getElem?_append_right (by omega), hM]; rfl)
  go_enter Try.func26, Try.ntmps26
  go_wp2_with (refine wl_load22 (B := w.heap.size) (.tmp 7) rfl rfl rfl M q hM (HLM.out ▸ B1.out) ?_)
  clear hW2
  go_loopg [6, 9] 26 (fun m x6 x9 wx => ∃ i : Nat, x9 = .int .i64 (i : Int) ∧ i + m = 26 ∧ Hid (fitL (L.take i) s = true) ∧ wx = W2)
  case atStart => exact ⟨0, rfl, rfl, rfl, rfl⟩
  case round =>
    obtain ⟨i, rfl, him, HF, hw⟩ := hrel
    subst hw
    by_cases hi : i < 26
    · have hi' : (i : Int) < 26 := by omega
      obtain ⟨x, hx⟩ : ∃ x, M[i]? = some x := ⟨_, List.getElem?_eq_getElem (by omega)⟩
      have hxi := ix22 hM hx
      have HX : Hid (L[i]? = some x) := by unfold Hid; rw [HLM.out, List.getElem?_append_left (by omega)]; exact hx
      have C := Hid.mk' (fits_any x s wr)
      have hw1 : IntKind.i64.wrap ((i : Int) + 1) = ((i + 1 : Nat) : Int) := by rw [IntKind.wrap_i64]; omega
      clear hx
      cases hb : ft s x with
      | true =>
        rw [hb] at C
        have HT := Hid.mk' (fitL_take HX.out HF.out hb)
        clear hb
        go_wp2_with (go_at_call 42; refine C.out.mono ?_; rintro e w2 ⟨rfl, hw⟩; have hq := hw.symm; subst hq; clear hw)
        go_roundg (26 - (i + 1))
        case measure => omega
        case rel => exact ⟨i + 1, rfl, by omega, HT.out, rfl⟩
      | false =>
        rw [hb] at C
        have HT := Hid.mk' (fitL_no HX.out hb)
        clear hb
        go_wp2_with (go_at_call 42; refine C.out.mono ?_; rintro e w2 ⟨rfl, hw⟩; have hq := hw.symm; subst hq; clear hw)
        go_ret
        exact ⟨by rw [HT.out]; rfl, BE.out⟩
    · have hi' : ¬ (i : Int) < 26 := by omega
      obtain rfl : i = 26 := by omega
      have C := Hid.mk' (fits_any q s wr)
      have HQ : Hid (ft s q = fitL L s) := by
        have h1 := HF.out
        rw [HLM.out] at h1 ⊢
        rw [List.take_append_of_le_length (by omega), List.take_of_length_le (by omega)] at h1
        unfold fitL at *
        rw [List.all_append, h1]
        show ft s q = (true && [q].all (ft s))
        simp
      rw [HQ.out] at C
      go_wp2_with (go_at_call 42; refine C.out.mono ?_; rintro e w2 ⟨rfl, hw⟩; have hq := hw.symm; subst hq; clear hw)
      go_ret
      exact ⟨rfl, BE.out⟩
set_option maxHeartbeats 2000000 in
theorem rfit_any (L : List Int) (s : Int) (w : World) (hL : L.length = 27) :
    Calls Try.prog 27 #[.agg (mk L), .int .i64 s] w fun e w' => e = .returned (.bool (fitL L s)) ∧ Below w.heap.size w w' := by
  generalize hW2 : w.alloc (.cells (mk L) 24) = W2
  have BE : Hid (Below w.heap.size w W2) := by subst hW2; exact bAlloc (Below.refl _ _) _
  have B1 : Hid (Blk W2 w.heap.size 24 (mk L)) := by subst hW2; exact Blk.new w 24 _
  go_enter Try.func27, Try.ntmps27
  go_wp2_with fail
  clear hW2
  go_loopg [5, 6] 27 (fun m x5 x6 wx => ∃ i : Nat, x5 = .int .i64 (i : Int) ∧ i + m = 27 ∧ Hid (fitL (L.take i) s = true) ∧ Hid (Blk wx w.heap.size 24 (mk L)) ∧ Hid (Below w.heap.size w wx))
  case atStart => exact ⟨0, rfl, rfl, rfl, B1.out, BE.out⟩
  case round =>
    obtain ⟨i, rfl, him, HF, K1, KB⟩ := hrel
    clear B1 BE
    by_cases hi : i < 27
    · have hi' : (i : Int) ≤ 26 := by omega
      obtain ⟨x, hx⟩ : ∃ x, L[i]? = some x := ⟨_, List.getElem?_eq_getElem (by omega)⟩
      have HX := Hid.mk' hx
      have C := Hid.mk' (at_any L i x wr hL hx)
      have hw1 : IntKind.i64.wrap ((i : Int) + 1) = ((i + 1 : Nat) : Int) := by rw [IntKind.wrap_i64]; omega
      clear hx
      go_wp2_with (first | refine wl_load24 (B := w.heap.size) (.tmp 2) rfl rfl rfl hL K1.out ?_ | fail)
      refine C.out.mono ?_
      rintro e w3 ⟨rfl, hb3⟩
      have J1 := Hid.mk' (K1.out.keep hb3)
      have JB := Hid.mk' (bT KB.out hb3)
      clear hb3 K1 KB C
      cases hb : ft s x with
      | true =>
        have HT := Hid.mk' (fitL_take HX.out HF.out hb)
        unfold ft at hb
        have hb' := of_decide_eq_true hb
        clear hb
        by_cases h1 : x = -1
        · subst h1
          clear hb'
          go_wp2
          go_roundg (27 - (i + 1))
          case measure => omega
          case rel => exact ⟨i + 1, rfl, by omega, HT.out, J1.out, JB.out⟩
        · have h2 : ¬ x < 0 := by omega
          have h3 : ¬ s < x := by omega
          have h4 : (x != -1) = true := by simpa using h1
          have h5 : (x == -1) = false := by simpa using h1
          clear hb'
          go_wp2
          go_roundg (27 - (i + 1))
          case measure => omega
          case rel => exact ⟨i + 1, rfl, by omega, HT.out, J1.out, JB.out⟩
      | false =>
        have HT := Hid.mk' (fitL_no HX.out hb)
        unfold ft at hb
        have hb' := of_decide_eq_false hb
        clear hb
        have h1 : ¬ x = -1 := by omega
        have h4 : (x != -1) = true := by simpa using h1
        have h5 : (x == -1) = false := by simpa using h1
        by_cases h2 : x < 0
        · clear hb'
          go_wp2
          go_ret
          exact ⟨by rw [HT.out]; rfl, JB.out⟩
        · have h3 : s < x := by omega
          clear hb'
          go_wp2
          go_ret
          exact ⟨by rw [HT.out]; rfl, JB.out⟩
    · have hi' : ¬ (i : Int) ≤ 26 := by omega
      obtain rfl : i = 27 := by omega
      have HQ : Hid (fitL L s = true) := by
        have h1 := HF.out
        rw [List.take_of_length_le (by omega)] at h1
        exact h1
      go_wp2
      go_ret
      exact ⟨by rw [HQ.out]; rfl, KB.out⟩
/-- the first i turned to -1 -/
def nmL (i : Nat) : List Int := List.replicate i (-1) ++ List.replicate (26 - i) 0 ++ [-1]
theorem nmL_set {i : Nat} (hi : i < 26) : (nmL i).set i (-1) = nmL (i + 1) := by
  unfold nmL
  obtain ⟨k, hk⟩ : ∃ k, 26 - i = k + 1 := ⟨25 - i, by omega⟩
  rw [hk, show 26 - (i + 1) = k by omega, List.append_assoc, List.set_append_right _ _ (by simp), List.length_replicate, Nat.sub_self, List.replicate_succ, List.cons_append, List.set_cons_zero, List.replicate_succ']
  simp
theorem nmL_at {i : Nat} (hi : i < 26) : (nmL i)[i]? = some 0 := by
  unfold nmL
  rw [List.append_assoc, List.getElem?_append_right (by simp), List.length_replicate, Nat.sub_self, List.getElem?_append_left (by simp; omega)]
  rw [List.getElem?_replicate, if_pos (by omega)]
set_option maxHeartbeats 2000000 in
theorem rnone_walk (w : World) (Z Y O : List Int) (hz : ∀ w, (zeroValue 24).run Try.prog w = .ok (.agg (mk Z)) w) (hZ : Z.length = 27) (hY : Y.length = 27) (hO : O.length = 27) (HY : Hid (Y = nmL 0)) (HYZ : Hid (Z.set 26 (-1) = Y)) (HO : Hid (O = nmL 26)) :
    Calls Try.prog 12 #[] w fun e w' => e = .returned (.agg (mk O)) ∧ Below w.heap.size w w' := by
  generalize hW1 : w.alloc (.cells (mk Z) 24) = W1
  have hs1 : W1.heap.size = w.heap.size + 1 := by subst hW1; simp
  have B0 : Hid (Blk W1 w.heap.size 24 (mk Z)) := by subst hW1; exact Blk.new w 24 _
  have BE0 : Hid (Below w.heap.size w W1) := by subst hW1; exact bAlloc (Below.refl _ _) _
  have BZ := Hid.mk' (Blk.new W1 24 (mk Z))
  rw [hs1] at BZ
  have BN : Hid (Blk (put24 (W1.alloc (.cells (mk Z) 24)) (w.heap.size + 1) Y) (w.heap.size + 1) 24 (mk Y)) := BZ.out.put24 hY hZ
  have BO : Hid (Blk (put24 (W1.alloc (.cells (mk Z) 24)) (w.heap.size + 1) Y) w.heap.size 24 (mk Z)) := (B0.out.keep (bAlloc (Below.refl _ _) _)).put24_off (by omega) _
  have BE : Hid (Below w.heap.size w (put24 (W1.alloc (.cells (mk Z) 24)) (w.heap.size + 1) Y)) := below_put24 (bAlloc BE0.out _) (by omega) _
  have hzs : (mk Z).size = 27 := by rw [mk_size, hZ]
  go_enter Try.func12, Try.ntmps12
  go_upto_region 2 with (first | refine wl_store24 (B := w.heap.size + 1) (L := Y) (.tmp 1) (.tmp 3) rfl rfl rfl (by show Value.agg ((mk Z).setIfInBounds 26 (.int .i64 (-1))) = _; rw [mk_set, HYZ.out]) hY hZ BZ.out ?_ | fail)
  generalize put24 (W1.alloc (.cells (mk Z) 24)) (w.heap.size + 1) Y = W2 at *
  clear hW1 BZ B0 BE0
  go_wp2_with fail
  go_loopg [2] 26 (fun m x2 wx => ∃ i : Nat, x2 = .int .i64 (i : Int) ∧ i + m = 26 ∧ ∃ X, Hid (X = nmL i) ∧ Hid (Blk wx (w.heap.size + 1) 24 (mk X)) ∧ Hid (Blk wx w.heap.size 24 (mk Z)) ∧ Hid (Below w.heap.size w wx))
  case atStart => exact ⟨0, rfl, rfl, Y, HY.out, BN.out, BO.out, BE.out⟩
  case round =>
    obtain ⟨i, rfl, him, X, HX, K1, K0, KB⟩ := hrel
    clear BN BO BE
    by_cases hi : i < 26
    · have hi' : (i : Int) < 26 := by omega
      have hi0 : (0 : Int) ≤ (i : Int) := by omega
      have c1 : wr.cell? ⟨w.heap.size + 1, i, none⟩ = some (.int .i64 0) := K1.out.mkAt (by rw [HX.out]; exact nmL_at hi)
      have f1 := K1.out.frozen i
      have I1 : Hid (Blk (wr.setCell ⟨w.heap.size + 1, i, none⟩ (.int .i64 (-1))) (w.heap.size + 1) 24 (mk (X.set i (-1)))) := K1.out.mkSet (k := i) (-1)
      have HX1 : Hid (X.set i (-1) = nmL (i + 1)) := by unfold Hid; rw [HX.out, nmL_set hi]
      have I0 : Hid (Blk (wr.setCell ⟨w.heap.size + 1, i, none⟩ (.int .i64 (-1))) w.heap.size 24 (mk Z)) := K0.out.off (by omega) _
      have IB : Hid (Below w.heap.size w (wr.setCell ⟨w.heap.size + 1, i, none⟩ (.int .i64 (-1)))) := KB.out.setCell (Nat.le_succ _) _
      have hw1 : IntKind.i64.wrap ((i : Int) + 1) = ((i + 1 : Nat) : Int) := by rw [IntKind.wrap_i64]; omega
      clear K1 K0 KB
      go_wp2
      go_roundg (26 - (i + 1))
      case measure => omega
      case rel => exact ⟨i + 1, rfl, by omega, _, HX1.out, I1.out, I0.out, IB.out⟩
    · have hi' : ¬ (i : Int) < 26 := by omega
      obtain rfl : i = 26 := by omega
      have K2 : Hid (Blk wr (w.heap.size + 1) 24 (mk O)) := by rw [HO.out, ← HX.out]; exact K1.out
      clear K1
      go_wp2_with (first | refine wl_load24 (B := w.heap.size + 1) (L := O) (.tmp 1) rfl rfl rfl hO K2.out ?_ | refine wl_store24 (B := w.heap.size) (L := O) (.tmp 0) (.tmp 11) rfl rfl rfl rfl hO hZ K0.out ?_)
      exact bodyPost_ret (v := .agg (mk O)) (by simp [results, Try.results12, asAddr, ld24 hO (K0.out.put24 hO hZ)]) rfl ⟨rfl, below_put24 KB.out (Nat.le_refl _) _⟩
theorem rnone_any (w : World) : Calls Try.prog 12 #[] w fun e w' => e = .returned (.agg (mk nm)) ∧ Below w.heap.size w w' :=
  rnone_walk w zm (nmL 0) nm z24 rfl rfl rfl rfl rfl rfl
set_option maxHeartbeats 2000000 in
theorem rclip_any (L : List Int) (s : Int) (w : World) (hL : L.length = 27) :
    Calls Try.prog 29 #[.agg (mk L), .int .i64 s] w fun e w' => e = .returned (.agg (mk (L.map (clp s)))) ∧ Below w.heap.size w w' := by
  have hz := z24
  generalize hW2 : (w.alloc (.cells (mk L) 24)).alloc (.cells (mk zm) 24) = W2
  have BE : Hid (Below w.heap.size w W2) := by subst hW2; exact bAlloc (bAlloc (Below.refl _ _) _) _
  have B1 : Hid (Blk W2 w.heap.size 24 (mk L)) := by subst hW2; exact (Blk.new w 24 _).keep (bAlloc (Below.refl _ _) _)
  have B2 : Hid (Blk W2 (w.heap.size + 1) 24 (mk zm)) := by
    subst hW2
    have := Blk.new (w.alloc (.cells (mk L) 24)) 24 (mk zm)
    rwa [World.size_alloc] at this
  go_enter Try.func29, Try.ntmps29
  go_wp2_with fail
  clear hW2
  go_loopg [5, 6] 27 (fun m x5 x6 wx => ∃ i : Nat, x5 = .int .i64 (i : Int) ∧ i + m = 27 ∧ Hid (Blk wx w.heap.size 24 (mk (eL (clp s) L i))) ∧ Hid (Blk wx (w.heap.size + 1) 24 (mk zm)) ∧ Hid (Below w.heap.size w wx))
  case atStart => exact ⟨0, rfl, rfl, by rw [eL_zero]; exact B1.out, B2.out, BE.out⟩
  case round =>
    obtain ⟨i, rfl, him, K1, K2, KB⟩ := hrel
    clear B1 B2 BE
    have hle : Hid ((eL (clp s) L i).length = 27) := by unfold Hid; rw [eL_len]; exact hL
    by_cases hi : i < 27
    · have hi' : (i : Int) ≤ 26 := by omega
      obtain ⟨x, hx⟩ : ∃ x, L[i]? = some x := ⟨_, List.getElem?_eq_getElem (by omega)⟩
      have HX := Hid.mk' hx
      have C := Hid.mk' (at_any _ i x wr hle.out (eL_at (clp s) L i x hx))
      have hw1 : IntKind.i64.wrap ((i : Int) + 1) = ((i + 1 : Nat) : Int) := by rw [IntKind.wrap_i64]; omega
      clear hx
      go_wp2_with (first | refine wl_load24 (B := w.heap.size) (.tmp 2) rfl rfl rfl hle.out K1.out ?_ | fail)
      refine C.out.mono ?_
      rintro e w3 ⟨rfl, hb3⟩
      have J1 := Hid.mk' (K1.out.keep hb3)
      have J2 := Hid.mk' (K2.out.keep hb3)
      have JB := Hid.mk' (bT KB.out hb3)
      clear hb3 K1 K2 KB C
      have CW := Hid.mk' (with_any _ i (clp s x) w3 hle.out hi)
      rw [eL_set (clp s) L i x HX.out] at CW
      unfold clp at CW
      have hle2 : Hid ((eL (clp s) L (i + 1)).length = 27) := by unfold Hid; rw [eL_len]; exact hL
      go_wp2_with (first | refine wl_load24 (B := w.heap.size) (.tmp 2) rfl rfl rfl hle.out J1.out ?_ | fail)
      refine CW.out.mono ?_
      rintro e w4 ⟨rfl, hb4⟩
      have G1 := Hid.mk' (J1.out.keep hb4)
      have G2 := Hid.mk' (J2.out.keep hb4)
      have GB := Hid.mk' (bT JB.out hb4)
      clear hb4 J1 J2 JB CW
      go_wp2_with (refine wl_store24 (B := w.heap.size) (L := eL (clp s) L (i + 1)) (.tmp 2) (.tmp 22) rfl rfl rfl rfl hle2.out hle.out G1.out ?_)
      go_roundg (27 - (i + 1))
      case measure => omega
      case rel => exact ⟨i + 1, rfl, by omega, G1.out.put24 hle2.out hle.out, G2.out.put24_off (by omega) _, below_put24 GB.out (Nat.le_refl _) _⟩
    · have hi' : ¬ (i : Int) ≤ 26 := by omega
      obtain rfl : i = 27 := by omega
      have hml : Hid ((L.map (clp s)).length = 27) := by unfold Hid; simpa using hL
      rw [eL_all _ _ _ (by omega)] at K1
      have hlv := Hid.mk' (ld24 hml.out (K2.out.put24 hml.out rfl))
      go_wp2_with (first | refine wl_load24 (B := w.heap.size) (.tmp 2) rfl rfl rfl hml.out K1.out ?_ | refine wl_store24 (B := w.heap.size + 1) (.tmp 4) (.tmp 23) rfl rfl rfl rfl hml.out (by rfl) K2.out ?_)
      exact bodyPost_ret (v := .agg (mk (L.map (clp s)))) (by simp [results, Try.results29, asAddr, hlv.out]) rfl ⟨rfl, below_put24 KB.out (by omega) _⟩
end Go.Proofs.Ytdoheblkhnmmiaa
