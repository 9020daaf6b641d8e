/- pins.each: what a function makes of each mark. -/
import Derived.Test.YtdoheblkhnmmiaaMk
namespace Go.Proofs.Ytdoheblkhnmmiaa
open Go.RowKit

set_option maxRecDepth 8000
/-- the first i of L turned -/
def eL (g : Int → Int) (L : List Int) (i : Nat) : List Int := (L.take i).map g ++ L.drop i
theorem eL_zero (g : Int → Int) (L : List Int) : eL g L 0 = L := by simp [eL]
theorem eL_len (g : Int → Int) (L : List Int) (i : Nat) : (eL g L i).length = L.length := by simp [eL]; omega
theorem eL_all (g : Int → Int) (L : List Int) (i : Nat) (h : L.length ≤ i) : eL g L i = L.map g := by simp [eL, List.take_of_length_le h, List.drop_eq_nil_of_le h]
theorem eL_set (g : Int → Int) (L : List Int) (i : Nat) (x : Int) (h : L[i]? = some x) : (eL g L i).set i (g x) = eL g L (i + 1) := by
  obtain ⟨hi, hx⟩ := List.getElem?_eq_some_iff.1 h
  unfold eL
  rw [List.take_succ_eq_append_getElem hi, List.drop_eq_getElem_cons hi, hx, List.map_append]
  rw [List.set_append_right _ _ (by simp; omega)]
  simp [Nat.min_eq_left (Nat.le_of_lt hi)]
theorem eL_at (g : Int → Int) (L : List Int) (i : Nat) (x : Int) (h : L[i]? = some x) : (eL g L i)[i]? = some x := by
  obtain ⟨hi, hx⟩ := List.getElem?_eq_some_iff.1 h
  unfold eL
  rw [List.getElem?_append_right (by simp; omega)]
  simp [Nat.min_eq_left (Nat.le_of_lt hi), h]
set_option maxHeartbeats 4000000 in
theorem each_none (g : Int → Int) (L : List Int) (w : World) (hL : L.length = 27)
    (CF : Hid (∀ (W : World) (x : Int), Below w.heap.size w W → Calls Try.prog 32 #[.int .i64 x] W fun e w' => e = .returned (.int .i64 (g x)) ∧ Below W.heap.size W w')) :
    Calls Try.prog 31 #[.agg (mk L), .func (.func 32) #[] #[]] w fun e w' => e = .returned (.agg (mk (L.map g))) ∧ Below w.heap.size w w' := by
  have hz := z24
  generalize hW2 : (w.alloc (.cells (mk L) 24)).alloc (.cells (mk zm) 24) = W2
  have BE : Hid (Below w.heap.size w W2) := by subst hW2; exact bAlloc (bAlloc (Below.refl _ _) _) _
  have B1 : Hid (Blk W2 w.heap.size 24 (mk L)) := by subst hW2; exact (Blk.new w 24 _).keep (bAlloc (Below.refl _ _) _)
  have B2 : Hid (Blk W2 (w.heap.size + 1) 24 (mk zm)) := by
    subst hW2
    have := Blk.new (w.alloc (.cells (mk L) 24)) 24 (mk zm)
    rwa [World.size_alloc] at this
  obtain ⟨M, q, hLM, hM⟩ := parts24 hL
  have HLM := Hid.mk' hLM
  clear hLM
  go_enter Try.func31, Try.ntmps31
  go_wp2_with (refine wl_load22 (B := w.heap.size) (.tmp 7) rfl rfl rfl M q hM (HLM.out ▸ B1.out) ?_)
  clear hW2
  go_loopg [5, 6, 9] 26 (fun m x5 x6 x9 wx => ∃ i : Nat, x9 = .int .i64 (i : Int) ∧ i + m = 26 ∧ Hid (Blk wx w.heap.size 24 (mk (eL g L i))) ∧ Hid (Blk wx (w.heap.size + 1) 24 (mk zm)) ∧ Hid (Below w.heap.size w wx))
  case atStart => exact ⟨0, rfl, rfl, by rw [eL_zero]; exact B1.out, B2.out, BE.out⟩
  case round =>
    obtain ⟨i, rfl, him, K1, K2, KB⟩ := hrel
    clear B1 B2 BE
    by_cases hi : i < 26
    · have hi' : (i : Int) < 26 := by omega
      obtain ⟨x, hx⟩ : ∃ x, M[i]? = some x := ⟨_, List.getElem?_eq_getElem (by omega)⟩
      have hxi := ix22 hM hx
      have HX : Hid (L[i]? = some x) := by unfold Hid; rw [HLM.out, List.getElem?_append_left (by omega)]; exact hx
      have C := Hid.mk' (CF.out wr x KB.out)
      have hw1 : IntKind.i64.wrap ((i : Int) + 1) = ((i + 1 : Nat) : Int) := by rw [IntKind.wrap_i64]; omega
      clear hx
      go_wp2_with fail
      refine C.out.mono ?_
      rintro e w3 ⟨rfl, hb3⟩
      have J1 := Hid.mk' (K1.out.keep hb3)
      have J2 := Hid.mk' (K2.out.keep hb3)
      have JB := Hid.mk' (bT KB.out hb3)
      clear K1 K2 KB C hb3
      have c1 : w3.cell? ⟨w.heap.size, i, none⟩ = some (.int .i64 x) := J1.out.mkAt (eL_at g L i x HX.out)
      have f1 := J1.out.frozen i
      have I1 : Hid (Blk (w3.setCell ⟨w.heap.size, i, none⟩ (.int .i64 (g x))) w.heap.size 24 (mk (eL g L (i + 1)))) := by
        have := J1.out.mkSet (k := i) (g x)
        rwa [eL_set g L i x HX.out] at this
      go_wp2
      go_roundg (26 - (i + 1))
      case measure => omega
      case rel => exact ⟨i + 1, rfl, by omega, I1.out, J2.out.off (by omega) _, JB.out.setCell (Nat.le_refl _) _⟩
    · have hi' : ¬ (i : Int) < 26 := by omega
      obtain rfl : i = 26 := by omega
      obtain ⟨x, hx⟩ : ∃ x, L[26]? = some x := ⟨_, List.getElem?_eq_getElem (by omega)⟩
      have HX := Hid.mk' hx
      have c0 : wr.cell? ⟨w.heap.size, 26, none⟩ = some (.int .i64 x) := K1.out.mkAt (eL_at g L 26 x hx)
      have C := Hid.mk' (CF.out wr x KB.out)
      clear hx
      go_wp2_with fail
      refine C.out.mono ?_
      rintro e w3 ⟨rfl, hb3⟩
      have J1 := Hid.mk' (K1.out.keep hb3)
      have J2 := Hid.mk' (K2.out.keep hb3)
      have JB := Hid.mk' (bT KB.out hb3)
      clear K1 K2 KB C hb3
      have c1 : w3.cell? ⟨w.heap.size, 26, none⟩ = some (.int .i64 x) := J1.out.mkAt (eL_at g L 26 x HX.out)
      have f1 := J1.out.frozen 26
      have I1 : Hid (Blk (w3.setCell ⟨w.heap.size, 26, none⟩ (.int .i64 (g x))) w.heap.size 24 (mk (L.map g))) := by
        have := J1.out.mkSet (k := 26) (g x)
        rwa [eL_set g L 26 x HX.out, eL_all g L _ (by omega)] at this
      have I2 : Hid (Blk (w3.setCell ⟨w.heap.size, 26, none⟩ (.int .i64 (g x))) (w.heap.size + 1) 24 (mk zm)) := J2.out.off (by omega) _
      have IB : Hid (Below w.heap.size w (w3.setCell ⟨w.heap.size, 26, none⟩ (.int .i64 (g x)))) := JB.out.setCell (Nat.le_refl _) _
      have hml : (L.map g).length = 27 := by simpa using hL
      have hlv := ld24 hml (I2.out.put24 hml rfl)
      go_wp2_with (first | refine wl_load24 (B := w.heap.size) (.tmp 2) rfl rfl rfl hml I1.out ?_ | refine wl_store24 (B := w.heap.size + 1) (.tmp 4) (.tmp 25) rfl rfl rfl rfl hml (by rfl) I2.out ?_)
      exact bodyPost_ret (v := .agg (mk (L.map g))) (by simp [results, Try.results31, asAddr, Act.put, hlv]) rfl ⟨rfl, below_put24 IB.out (by omega) _⟩
set_option maxHeartbeats 4000000 in
theorem each_shift (g : Int → Int) (L : List Int) (fr : Value) (w : World) (hL : L.length = 27)
    (CF : Hid (∀ (W : World) (x : Int), Below w.heap.size w W → Calls Try.prog 38 #[.int .i64 x, fr] W fun e w' => e = .returned (.int .i64 (g x)) ∧ Below W.heap.size W w')) :
    Calls Try.prog 31 #[.agg (mk L), .func (.func 38) #[] #[fr]] w fun e w' => e = .returned (.agg (mk (L.map g))) ∧ Below w.heap.size w w' := by
  have hz := z24
  generalize hW2 : (w.alloc (.cells (mk L) 24)).alloc (.cells (mk zm) 24) = W2
  have BE : Hid (Below w.heap.size w W2) := by subst hW2; exact bAlloc (bAlloc (Below.refl _ _) _) _
  have B1 : Hid (Blk W2 w.heap.size 24 (mk L)) := by subst hW2; exact (Blk.new w 24 _).keep (bAlloc (Below.refl _ _) _)
  have B2 : Hid (Blk W2 (w.heap.size + 1) 24 (mk zm)) := by
    subst hW2
    have := Blk.new (w.alloc (.cells (mk L) 24)) 24 (mk zm)
    rwa [World.size_alloc] at this
  obtain ⟨M, q, hLM, hM⟩ := parts24 hL
  have HLM := Hid.mk' hLM
  clear hLM
  go_enter Try.func31, Try.ntmps31
  go_wp2_with (refine wl_load22 (B := w.heap.size) (.tmp 7) rfl rfl rfl M q hM (HLM.out ▸ B1.out) ?_)
  clear hW2
  go_loopg [5, 6, 9] 26 (fun m x5 x6 x9 wx => ∃ i : Nat, x9 = .int .i64 (i : Int) ∧ i + m = 26 ∧ Hid (Blk wx w.heap.size 24 (mk (eL g L i))) ∧ Hid (Blk wx (w.heap.size + 1) 24 (mk zm)) ∧ Hid (Below w.heap.size w wx))
  case atStart => exact ⟨0, rfl, rfl, by rw [eL_zero]; exact B1.out, B2.out, BE.out⟩
  case round =>
    obtain ⟨i, rfl, him, K1, K2, KB⟩ := hrel
    clear B1 B2 BE
    by_cases hi : i < 26
    · have hi' : (i : Int) < 26 := by omega
      obtain ⟨x, hx⟩ : ∃ x, M[i]? = some x := ⟨_, List.getElem?_eq_getElem (by omega)⟩
      have hxi := ix22 hM hx
      have HX : Hid (L[i]? = some x) := by unfold Hid; rw [HLM.out, List.getElem?_append_left (by omega)]; exact hx
      have C := Hid.mk' (CF.out wr x KB.out)
      have hw1 : IntKind.i64.wrap ((i : Int) + 1) = ((i + 1 : Nat) : Int) := by rw [IntKind.wrap_i64]; omega
      clear hx
      go_wp2_with fail
      refine C.out.mono ?_
      rintro e w3 ⟨rfl, hb3⟩
      have J1 := Hid.mk' (K1.out.keep hb3)
      have J2 := Hid.mk' (K2.out.keep hb3)
      have JB := Hid.mk' (bT KB.out hb3)
      clear K1 K2 KB C hb3
      have c1 : w3.cell? ⟨w.heap.size, i, none⟩ = some (.int .i64 x) := J1.out.mkAt (eL_at g L i x HX.out)
      have f1 := J1.out.frozen i
      have I1 : Hid (Blk (w3.setCell ⟨w.heap.size, i, none⟩ (.int .i64 (g x))) w.heap.size 24 (mk (eL g L (i + 1)))) := by
        have := J1.out.mkSet (k := i) (g x)
        rwa [eL_set g L i x HX.out] at this
      go_wp2
      go_roundg (26 - (i + 1))
      case measure => omega
      case rel => exact ⟨i + 1, rfl, by omega, I1.out, J2.out.off (by omega) _, JB.out.setCell (Nat.le_refl _) _⟩
    · have hi' : ¬ (i : Int) < 26 := by omega
      obtain rfl : i = 26 := by omega
      obtain ⟨x, hx⟩ : ∃ x, L[26]? = some x := ⟨_, List.getElem?_eq_getElem (by omega)⟩
      have HX := Hid.mk' hx
      have c0 : wr.cell? ⟨w.heap.size, 26, none⟩ = some (.int .i64 x) := K1.out.mkAt (eL_at g L 26 x hx)
      have C := Hid.mk' (CF.out wr x KB.out)
      clear hx
      go_wp2_with fail
      refine C.out.mono ?_
      rintro e w3 ⟨rfl, hb3⟩
      have J1 := Hid.mk' (K1.out.keep hb3)
      have J2 := Hid.mk' (K2.out.keep hb3)
      have JB := Hid.mk' (bT KB.out hb3)
      clear K1 K2 KB C hb3
      have c1 : w3.cell? ⟨w.heap.size, 26, none⟩ = some (.int .i64 x) := J1.out.mkAt (eL_at g L 26 x HX.out)
      have f1 := J1.out.frozen 26
      have I1 : Hid (Blk (w3.setCell ⟨w.heap.size, 26, none⟩ (.int .i64 (g x))) w.heap.size 24 (mk (L.map g))) := by
        have := J1.out.mkSet (k := 26) (g x)
        rwa [eL_set g L 26 x HX.out, eL_all g L _ (by omega)] at this
      have I2 : Hid (Blk (w3.setCell ⟨w.heap.size, 26, none⟩ (.int .i64 (g x))) (w.heap.size + 1) 24 (mk zm)) := J2.out.off (by omega) _
      have IB : Hid (Below w.heap.size w (w3.setCell ⟨w.heap.size, 26, none⟩ (.int .i64 (g x)))) := JB.out.setCell (Nat.le_refl _) _
      have hml : (L.map g).length = 27 := by simpa using hL
      have hlv := ld24 hml (I2.out.put24 hml rfl)
      go_wp2_with (first | refine wl_load24 (B := w.heap.size) (.tmp 2) rfl rfl rfl hml I1.out ?_ | refine wl_store24 (B := w.heap.size + 1) (.tmp 4) (.tmp 25) rfl rfl rfl rfl hml (by rfl) I2.out ?_)
      exact bodyPost_ret (v := .agg (mk (L.map g))) (by simp [results, Try.results31, asAddr, Act.put, hlv]) rfl ⟨rfl, below_put24 IB.out (by omega) _⟩
set_option maxHeartbeats 4000000 in
theorem each_clip (g : Int → Int) (L : List Int) (fr : Value) (w : World) (hL : L.length = 27)
    (CF : Hid (∀ (W : World) (x : Int), Below w.heap.size w W → Calls Try.prog 43 #[.int .i64 x, fr] W fun e w' => e = .returned (.int .i64 (g x)) ∧ Below W.heap.size W w')) :
    Calls Try.prog 31 #[.agg (mk L), .func (.func 43) #[] #[fr]] w fun e w' => e = .returned (.agg (mk (L.map g))) ∧ Below w.heap.size w w' := by
  have hz := z24
  generalize hW2 : (w.alloc (.cells (mk L) 24)).alloc (.cells (mk zm) 24) = W2
  have BE : Hid (Below w.heap.size w W2) := by subst hW2; exact bAlloc (bAlloc (Below.refl _ _) _) _
  have B1 : Hid (Blk W2 w.heap.size 24 (mk L)) := by subst hW2; exact (Blk.new w 24 _).keep (bAlloc (Below.refl _ _) _)
  have B2 : Hid (Blk W2 (w.heap.size + 1) 24 (mk zm)) := by
    subst hW2
    have := Blk.new (w.alloc (.cells (mk L) 24)) 24 (mk zm)
    rwa [World.size_alloc] at this
  obtain ⟨M, q, hLM, hM⟩ := parts24 hL
  have HLM := Hid.mk' hLM
  clear hLM
  go_enter Try.func31, Try.ntmps31
  go_wp2_with (refine wl_load22 (B := w.heap.size) (.tmp 7) rfl rfl rfl M q hM (HLM.out ▸ B1.out) ?_)
  clear hW2
  go_loopg [5, 6, 9] 26 (fun m x5 x6 x9 wx => ∃ i : Nat, x9 = .int .i64 (i : Int) ∧ i + m = 26 ∧ Hid (Blk wx w.heap.size 24 (mk (eL g L i))) ∧ Hid (Blk wx (w.heap.size + 1) 24 (mk zm)) ∧ Hid (Below w.heap.size w wx))
  case atStart => exact ⟨0, rfl, rfl, by rw [eL_zero]; exact B1.out, B2.out, BE.out⟩
  case round =>
    obtain ⟨i, rfl, him, K1, K2, KB⟩ := hrel
    clear B1 B2 BE
    by_cases hi : i < 26
    · have hi' : (i : Int) < 26 := by omega
      obtain ⟨x, hx⟩ : ∃ x, M[i]? = some x := ⟨_, List.getElem?_eq_getElem (by omega)⟩
      have hxi := ix22 hM hx
      have HX : Hid (L[i]? = some x) := by unfold Hid; rw [HLM.out, List.getElem?_append_left (by omega)]; exact hx
      have C := Hid.mk' (CF.out wr x KB.out)
      have hw1 : IntKind.i64.wrap ((i : Int) + 1) = ((i + 1 : Nat) : Int) := by rw [IntKind.wrap_i64]; omega
      clear hx
      go_wp2_with fail
      refine C.out.mono ?_
      rintro e w3 ⟨rfl, hb3⟩
      have J1 := Hid.mk' (K1.out.keep hb3)
      have J2 := Hid.mk' (K2.out.keep hb3)
      have JB := Hid.mk' (bT KB.out hb3)
      clear K1 K2 KB C hb3
      have c1 : w3.cell? ⟨w.heap.size, i, none⟩ = some (.int .i64 x) := J1.out.mkAt (eL_at g L i x HX.out)
      have f1 := J1.out.frozen i
      have I1 : Hid (Blk (w3.setCell ⟨w.heap.size, i, none⟩ (.int .i64 (g x))) w.heap.size 24 (mk (eL g L (i + 1)))) := by
        have := J1.out.mkSet (k := i) (g x)
        rwa [eL_set g L i x HX.out] at this
      go_wp2
      go_roundg (26 - (i + 1))
      case measure => omega
      case rel => exact ⟨i + 1, rfl, by omega, I1.out, J2.out.off (by omega) _, JB.out.setCell (Nat.le_refl _) _⟩
    · have hi' : ¬ (i : Int) < 26 := by omega
      obtain rfl : i = 26 := by omega
      obtain ⟨x, hx⟩ : ∃ x, L[26]? = some x := ⟨_, List.getElem?_eq_getElem (by omega)⟩
      have HX := Hid.mk' hx
      have c0 : wr.cell? ⟨w.heap.size, 26, none⟩ = some (.int .i64 x) := K1.out.mkAt (eL_at g L 26 x hx)
      have C := Hid.mk' (CF.out wr x KB.out)
      clear hx
      go_wp2_with fail
      refine C.out.mono ?_
      rintro e w3 ⟨rfl, hb3⟩
      have J1 := Hid.mk' (K1.out.keep hb3)
      have J2 := Hid.mk' (K2.out.keep hb3)
      have JB := Hid.mk' (bT KB.out hb3)
      clear K1 K2 KB C hb3
      have c1 : w3.cell? ⟨w.heap.size, 26, none⟩ = some (.int .i64 x) := J1.out.mkAt (eL_at g L 26 x HX.out)
      have f1 := J1.out.frozen 26
      have I1 : Hid (Blk (w3.setCell ⟨w.heap.size, 26, none⟩ (.int .i64 (g x))) w.heap.size 24 (mk (L.map g))) := by
        have := J1.out.mkSet (k := 26) (g x)
        rwa [eL_set g L 26 x HX.out, eL_all g L _ (by omega)] at this
      have I2 : Hid (Blk (w3.setCell ⟨w.heap.size, 26, none⟩ (.int .i64 (g x))) (w.heap.size + 1) 24 (mk zm)) := J2.out.off (by omega) _
      have IB : Hid (Below w.heap.size w (w3.setCell ⟨w.heap.size, 26, none⟩ (.int .i64 (g x)))) := JB.out.setCell (Nat.le_refl _) _
      have hml : (L.map g).length = 27 := by simpa using hL
      have hlv := ld24 hml (I2.out.put24 hml rfl)
      go_wp2_with (first | refine wl_load24 (B := w.heap.size) (.tmp 2) rfl rfl rfl hml I1.out ?_ | refine wl_store24 (B := w.heap.size + 1) (.tmp 4) (.tmp 25) rfl rfl rfl rfl hml (by rfl) I2.out ?_)
      exact bodyPost_ret (v := .agg (mk (L.map g))) (by simp [results, Try.results31, asAddr, Act.put, hlv]) rfl ⟨rfl, below_put24 IB.out (by omega) _⟩
end Go.Proofs.Ytdoheblkhnmmiaa
