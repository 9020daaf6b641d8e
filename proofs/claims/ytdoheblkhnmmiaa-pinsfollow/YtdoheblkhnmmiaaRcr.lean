/- The reference: Cross. -/
import Derived.Test.YtdoheblkhnmmiaaCrs
namespace Go.Proofs.Ytdoheblkhnmmiaa
open Go.RowKit

set_option maxRecDepth 8000
set_option maxHeartbeats 4000000 in
set_option linter.unusedSimpArgs false in
theorem rcross_any (A C M : List Int) (ao : Option Addr) (n c : Nat) (E : List Er) (w : World) (hA : A.length = 27) (hC : C.length = 27) (hM : M.length = 27) (HE : Hid (Edr w ao E)) (hn : E.length = n) (hb : n ≤ 140737488355328) :
    Calls Try.prog 25 #[.agg (mk A), .agg (mk C), .agg (mk M), .slice ao n c] w fun e w' => e = .returned (.agg (mk (crL A C M (mvL A (E.map Er.t)) 27))) ∧ Below w.heap.size w w' := by
  have hz := z24
  generalize hW2 : (((w.alloc (.cells (mk A) 24)).alloc (.cells (mk C) 24)).alloc (.cells (mk M) 24)).alloc (.cells (mk zm) 24) = W2
  have B0 : Hid (B4 w W2 A C M) := by subst hW2; exact b4_new w A C M
  have hV : Hid ((mvL A (E.map Er.t)).length = 27) := by unfold Hid; rw [mvL_len]; exact hA
  have CV := Hid.mk' (rmove_any A ao n c E W2 hA (HE.out.keep B0.out.bel) hn hb)
  generalize mvL A (E.map Er.t) = V at *
  clear hn
  go_enter Try.func25, Try.ntmps25
  go_upto_region 1 with fail
  clear hW2
  go_wp2_with (first | refine wl_load24 (B := w.heap.size) (.tmp 4) rfl rfl rfl hA B0.out.b1 ?_ | fail)
  refine CV.out.mono ?_
  rintro e w3 ⟨rfl, hb3⟩
  have B1 := Hid.mk' (B0.out.keep hb3)
  have HP : Hid (w.heap.size + 1 + 1 + 1 < w3.heap.size) := B1.out.b4.lt
  have BZ := Hid.mk' (Blk.new w3 24 (mk zm))
  have BN : Hid (Blk (put24 (w3.alloc (.cells (mk zm) 24)) w3.heap.size V) w3.heap.size 24 (mk V)) := BZ.out.put24 hV.out rfl
  have BB : Hid (B4 w (put24 (w3.alloc (.cells (mk zm) 24)) w3.heap.size V) A C M) := (B1.out.keep (bAlloc (Below.refl _ _) _)).put HP.out V
  clear CV B0 B1 hb3
  go_upto_region 2 with (refine wl_store24 (B := w3.heap.size) (L := V) (.tmp 9) (.tmp 14) rfl rfl rfl rfl hV.out (by rfl) BZ.out ?_)
  generalize put24 (w3.alloc (.cells (mk zm) 24)) w3.heap.size V = w4 at *
  generalize w3.heap.size = p at *
  clear BZ
  go_wp2_with fail
  go_loopg [10, 11] 27 (fun m x10 x11 wx => ∃ i : Nat, x10 = .int .i64 (i : Int) ∧ i + m = 27 ∧ ∃ X, X.length = 27 ∧ Hid (X = crL A C M V i) ∧ Hid (Blk wx p 24 (mk X)) ∧ Hid (B4 w wx A C M))
  case atStart => exact ⟨0, rfl, rfl, V, hV.out, by rw [crL_zero _ _ _ _ hV.out]; exact rfl, BN.out, BB.out⟩
  case round =>
    obtain ⟨i, rfl, him, X, hX, HX, K1, K2⟩ := hrel
    obtain ⟨go, hgo⟩ : ∃ g, g = gk - 1 := ⟨_, rfl⟩
    clear BN BB
    by_cases hi : i < 27
    · have hi' : (i : Int) ≤ 26 := by omega
      have hi0 : (0 : Int) ≤ (i : Int) := by omega
      obtain ⟨x, hx⟩ : ∃ x, A[i]? = some x := ⟨_, List.getElem?_eq_getElem (by omega)⟩
      obtain ⟨y, hy⟩ : ∃ y, C[i]? = some y := ⟨_, List.getElem?_eq_getElem (by omega)⟩
      obtain ⟨z, hzz⟩ : ∃ y, M[i]? = some y := ⟨_, List.getElem?_eq_getElem (by omega)⟩
      have CA := Hid.mk' (fun W => at_any A i x W hA hx)
      have CM := Hid.mk' (fun W => at_any M i z W hM hzz)
      have CC := Hid.mk' (fun W => at_any C i y W hC hy)
      have CW := Hid.mk' (fun W => with_any X i y W hX hi)
      by_cases hxz : x = z
      · subst hxz
        have HX1 : Hid (X.set i y = crL A C M V (i + 1)) := by unfold Hid; rw [HX.out]; exact crL_eq A C M V i hi hx hzz hy
        have hX' : Hid ((X.set i y).length = 27) := by unfold Hid; simpa using hX
        generalize X.set i y = X' at *
        clear hx hy hzz HX
        go_upto_region 5 with fail
        have KD : Hid (Blk wr.drew p 24 (mk X)) := K1.out
        have FD : Hid (B4 w wr.drew A C M) := K2.out.keep (Below.refl _ _).drew
        clear K1 K2
        refine wp_region_held (S := fun w' => Blk w' w.heap.size 24 (mk A) ∧ Blk w' (w.heap.size + 1 + 1) 24 (mk M)) (by kernel_rfl) ?_
        change wpAnyH _ _ _ _ _ _ _ _ (World.drew _)
        generalize wr.drew = V3 at *
        refine wpAnyH_take (i := 0) (v := .agg (mk A)) rfl (by kernel_rfl) (by kernel_rfl) (by kernel_rfl) (fun _ _ _ h => h) (yi24 rfl (.tmp 4) rfl rfl hA (fun _ h => h.1)) ⟨FD.out.b1, FD.out.b3⟩ ?_
        try simp only [Act.put, List.getElem_toArray, List.getElem_cons_zero, List.getElem_cons_succ, List.setIfInBounds_toArray, List.set_cons_zero, List.set_cons_succ]
        refine wpAnyH_take (i := 1) (v := .int .i64 (i : Int)) rfl (by kernel_rfl) (by kernel_rfl) (by kernel_rfl) (fun _ _ _ h => h) (Yields.yieldsIf (Or.inl ⟨by rfl, fun w => by go_simp⟩)) ⟨FD.out.b1, FD.out.b3⟩ ?_
        try simp only [Act.put, List.getElem_toArray, List.getElem_cons_zero, List.getElem_cons_succ, List.setIfInBounds_toArray, List.set_cons_zero, List.set_cons_succ]
        refine wpAnyH_take (i := 3) (v := .agg (mk M)) rfl (by kernel_rfl) (by kernel_rfl) (by kernel_rfl) (fun _ _ _ h => h) (yi24 rfl (.tmp 6) rfl rfl hM (fun _ h => h.2)) ⟨FD.out.b1, FD.out.b3⟩ ?_
        try simp only [Act.put, List.getElem_toArray, List.getElem_cons_zero, List.getElem_cons_succ, List.setIfInBounds_toArray, List.set_cons_zero, List.set_cons_succ]
        refine wpAnyH_take (i := 4) (v := .int .i64 (i : Int)) rfl (by kernel_rfl) (by kernel_rfl) (by kernel_rfl) (fun _ _ _ h => h) (Yields.yieldsIf (Or.inl ⟨by rfl, fun w => by go_simp⟩)) ⟨FD.out.b1, FD.out.b3⟩ ?_
        try simp only [Act.put, List.getElem_toArray, List.getElem_cons_zero, List.getElem_cons_succ, List.setIfInBounds_toArray, List.set_cons_zero, List.set_cons_succ]
        refine wpAnyH_all (rs := [2]) (by kernel_rfl) (by simp) (AllH.cons rfl (fun K hK => ?_) AllH.nil)
        go_simp
        refine (CA.out V3).mono ?_
        rintro e w4 ⟨rfl, hb9⟩
        have K4 := Hid.mk' (KD.out.keep hb9)
        have F4 := Hid.mk' (FD.out.keep hb9)
        clear hb9
        dsimp only
        refine hK _ _ ⟨⟨F4.out.b1, F4.out.b3⟩, ?_⟩
        clear hK K
        try simp only [Act.put, List.getElem_toArray, List.getElem_cons_zero, List.getElem_cons_succ, List.setIfInBounds_toArray, List.set_cons_zero, List.set_cons_succ]
        refine wpAnyH_all (rs := [5]) (by kernel_rfl) (by simp) (AllH.cons rfl (fun K hK => ?_) AllH.nil)
        go_simp
        refine (CM.out w4).mono ?_
        rintro e w5 ⟨rfl, hb9⟩
        have K5 := Hid.mk' (K4.out.keep hb9)
        have F5 := Hid.mk' (F4.out.keep hb9)
        clear hb9
        dsimp only
        refine hK _ _ ⟨⟨F5.out.b1, F5.out.b3⟩, ?_⟩
        clear hK K
        try simp only [Act.put, List.getElem_toArray, List.getElem_cons_zero, List.getElem_cons_succ, List.setIfInBounds_toArray, List.set_cons_zero, List.set_cons_succ]
        refine wpAnyH_take (i := 6) (v := .bool true) rfl (by kernel_rfl) (by kernel_rfl) (by kernel_rfl) (fun _ _ _ h => h) (Yields.yieldsIf (Or.inl ⟨by rfl, fun w => by go_simp⟩)) ⟨F5.out.b1, F5.out.b3⟩ ?_
        try simp only [Act.put, List.getElem_toArray, List.getElem_cons_zero, List.getElem_cons_succ, List.setIfInBounds_toArray, List.set_cons_zero, List.set_cons_succ]
        refine wpAnyH_done (by kernel_rfl) ?_ _
        go_wp2_with (first | refine wl_load24 (B := w.heap.size + 1) (.tmp 5) rfl rfl rfl hC F5.out.b2 ?_ | fail)
        refine (CC.out w5).mono ?_
        rintro e w7 ⟨rfl, hb9⟩
        have K7 := Hid.mk' (K5.out.keep hb9)
        have F7 := Hid.mk' (F5.out.keep hb9)
        clear hb9
        go_wp2_with (first | refine wl_load24 (B := p) (.tmp 9) rfl rfl rfl hX K7.out ?_ | fail)
        refine (CW.out w7).mono ?_
        rintro e w8 ⟨rfl, hb9⟩
        have K8 := Hid.mk' (K7.out.keep hb9)
        have F8 := Hid.mk' (F7.out.keep hb9)
        clear hb9
        go_wp2_with (refine wl_store24 (B := p) (L := X') (.tmp 9) (.tmp 32) rfl rfl rfl rfl hX'.out hX K8.out ?_)
        go_roundg go
        case measure => omega
        case rel => exact ⟨i + 1, by go_num, by omega, X', hX'.out, HX1.out, K8.out.put24 hX'.out hX, F8.out.put HP.out X'⟩
      · have hne : (x == z) = false := by simpa using hxz
        have HX1 : Hid (X = crL A C M V (i + 1)) := by unfold Hid; rw [HX.out]; exact crL_ne A C M V i hx hzz hxz
        clear hx hy hzz HX CC CW
        go_upto_region 5 with fail
        have KD : Hid (Blk wr.drew p 24 (mk X)) := K1.out
        have FD : Hid (B4 w wr.drew A C M) := K2.out.keep (Below.refl _ _).drew
        clear K1 K2
        refine wp_region_held (S := fun w' => Blk w' w.heap.size 24 (mk A) ∧ Blk w' (w.heap.size + 1 + 1) 24 (mk M)) (by kernel_rfl) ?_
        change wpAnyH _ _ _ _ _ _ _ _ (World.drew _)
        generalize wr.drew = V3 at *
        refine wpAnyH_take (i := 0) (v := .agg (mk A)) rfl (by kernel_rfl) (by kernel_rfl) (by kernel_rfl) (fun _ _ _ h => h) (yi24 rfl (.tmp 4) rfl rfl hA (fun _ h => h.1)) ⟨FD.out.b1, FD.out.b3⟩ ?_
        try simp only [Act.put, List.getElem_toArray, List.getElem_cons_zero, List.getElem_cons_succ, List.setIfInBounds_toArray, List.set_cons_zero, List.set_cons_succ]
        refine wpAnyH_take (i := 1) (v := .int .i64 (i : Int)) rfl (by kernel_rfl) (by kernel_rfl) (by kernel_rfl) (fun _ _ _ h => h) (Yields.yieldsIf (Or.inl ⟨by rfl, fun w => by go_simp⟩)) ⟨FD.out.b1, FD.out.b3⟩ ?_
        try simp only [Act.put, List.getElem_toArray, List.getElem_cons_zero, List.getElem_cons_succ, List.setIfInBounds_toArray, List.set_cons_zero, List.set_cons_succ]
        refine wpAnyH_take (i := 3) (v := .agg (mk M)) rfl (by kernel_rfl) (by kernel_rfl) (by kernel_rfl) (fun _ _ _ h => h) (yi24 rfl (.tmp 6) rfl rfl hM (fun _ h => h.2)) ⟨FD.out.b1, FD.out.b3⟩ ?_
        try simp only [Act.put, List.getElem_toArray, List.getElem_cons_zero, List.getElem_cons_succ, List.setIfInBounds_toArray, List.set_cons_zero, List.set_cons_succ]
        refine wpAnyH_take (i := 4) (v := .int .i64 (i : Int)) rfl (by kernel_rfl) (by kernel_rfl) (by kernel_rfl) (fun _ _ _ h => h) (Yields.yieldsIf (Or.inl ⟨by rfl, fun w => by go_simp⟩)) ⟨FD.out.b1, FD.out.b3⟩ ?_
        try simp only [Act.put, List.getElem_toArray, List.getElem_cons_zero, List.getElem_cons_succ, List.setIfInBounds_toArray, List.set_cons_zero, List.set_cons_succ]
        refine wpAnyH_all (rs := [2]) (by kernel_rfl) (by simp) (AllH.cons rfl (fun K hK => ?_) AllH.nil)
        go_simp
        refine (CA.out V3).mono ?_
        rintro e w4 ⟨rfl, hb9⟩
        have K4 := Hid.mk' (KD.out.keep hb9)
        have F4 := Hid.mk' (FD.out.keep hb9)
        clear hb9
        dsimp only
        refine hK _ _ ⟨⟨F4.out.b1, F4.out.b3⟩, ?_⟩
        clear hK K
        try simp only [Act.put, List.getElem_toArray, List.getElem_cons_zero, List.getElem_cons_succ, List.setIfInBounds_toArray, List.set_cons_zero, List.set_cons_succ]
        refine wpAnyH_all (rs := [5]) (by kernel_rfl) (by simp) (AllH.cons rfl (fun K hK => ?_) AllH.nil)
        go_simp
        refine (CM.out w4).mono ?_
        rintro e w5 ⟨rfl, hb9⟩
        have K5 := Hid.mk' (K4.out.keep hb9)
        have F5 := Hid.mk' (F4.out.keep hb9)
        clear hb9
        dsimp only
        refine hK _ _ ⟨⟨F5.out.b1, F5.out.b3⟩, ?_⟩
        clear hK K
        try simp only [Act.put, List.getElem_toArray, List.getElem_cons_zero, List.getElem_cons_succ, List.setIfInBounds_toArray, List.set_cons_zero, List.set_cons_succ]
        refine wpAnyH_take (i := 6) (v := .bool false) rfl (by kernel_rfl) (by kernel_rfl) (by kernel_rfl) (fun _ _ _ h => h) (Yields.yieldsIf (Or.inl ⟨by rfl, fun w => by go_simp⟩)) ⟨F5.out.b1, F5.out.b3⟩ ?_
        try simp only [Act.put, List.getElem_toArray, List.getElem_cons_zero, List.getElem_cons_succ, List.setIfInBounds_toArray, List.set_cons_zero, List.set_cons_succ]
        refine wpAnyH_done (by kernel_rfl) ?_ _
        go_wp2
        go_roundg go
        case measure => omega
        case rel => exact ⟨i + 1, by go_num, by omega, X, hX, HX1.out, K5.out, F5.out⟩
    · have hi' : ¬ (i : Int) ≤ 26 := by omega
      obtain rfl : i = 27 := by omega
      have hlv := Hid.mk' (ld24 hX (K2.out.b4.put24 hX rfl))
      go_wp2_with (first | refine wl_load24 (B := p) (.tmp 9) rfl rfl rfl hX K1.out ?_ | refine wl_store24 (B := w.heap.size + 1 + 1 + 1) (.tmp 8) (.tmp 33) rfl rfl rfl rfl hX (by rfl) K2.out.b4 ?_)
      exact bodyPost_ret (v := .agg (mk X)) (by simp [results, Try.results25, asAddr, hlv.out]) rfl ⟨by rw [← HX.out], below_put24 K2.out.bel (by omega) _⟩
end Go.Proofs.Ytdoheblkhnmmiaa
