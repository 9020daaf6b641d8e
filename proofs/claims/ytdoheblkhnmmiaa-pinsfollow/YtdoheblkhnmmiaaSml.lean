/- A mark behind an edit; pins.None, Shift and Clip. -/
import Derived.Test.YtdoheblkhnmmiaaEac
namespace Go.Proofs.Ytdoheblkhnmmiaa
open Go.RowKit

set_option maxRecDepth 8000
/-- a mark behind an edit -/
def bhd (x a : Int) (o n : Nat) : Int := if x < 0 ∨ x < a then x else if wrap64 (a + (o : Int)) ≤ x then wrap64 (wrap64 (x + (n : Int)) - (o : Int)) else wrap64 (a + min (wrap64 (x - a)) (n : Int))
set_option maxHeartbeats 2000000 in
theorem behind_any (x a : Int) (p1 p2 : Option Addr) (o c1 n c2 : Nat) (w : World) :
    Calls Try.prog 39 #[.int .i64 x, .agg #[.int .i64 a, .slice p1 o c1, .slice p2 n c2]] w fun e w' => e = .returned (.int .i64 (bhd x a o n)) ∧ Below w.heap.size w w' := by
  have BE := Hid.mk' (bAlloc (Below.refl _ w) (.cells #[.int .i64 a, .slice p1 o c1, .slice p2 n c2] 42))
  by_cases h0 : x < 0
  · rw [show bhd x a o n = x from by unfold bhd; rw [if_pos (.inl h0)]]
    go_enter Try.func39, Try.ntmps39
    go_wp2
    go_ret
    exact ⟨rfl, BE.out⟩
  by_cases h1 : x < a
  · rw [show bhd x a o n = x from by unfold bhd; rw [if_pos (.inr h1)]]
    go_enter Try.func39, Try.ntmps39
    go_wp2
    go_ret
    exact ⟨rfl, BE.out⟩
  by_cases h2 : wrap64 (a + (o : Int)) ≤ x
  · rw [show bhd x a o n = wrap64 (wrap64 (x + (n : Int)) - (o : Int)) from by unfold bhd; rw [if_neg (by omega), if_pos h2]]
    go_enter Try.func39, Try.ntmps39
    go_wp2
    go_ret
    exact ⟨rfl, BE.out⟩
  rw [show bhd x a o n = wrap64 (a + min (wrap64 (x - a)) (n : Int)) from by unfold bhd; rw [if_neg (by omega), if_neg h2]]
  go_enter Try.func39, Try.ntmps39
  go_wp2
  go_ret
  exact ⟨rfl, BE.out⟩
set_option maxHeartbeats 2000000 in
theorem rbehind_any (x a : Int) (p1 p2 : Option Addr) (o c1 n c2 : Nat) (w : World) :
    Calls Try.prog 40 #[.int .i64 x, .agg #[.int .i64 a, .slice p1 o c1, .slice p2 n c2]] w fun e w' => e = .returned (.int .i64 (bhd x a o n)) ∧ Below w.heap.size w w' := by
  have BE := Hid.mk' (bAlloc (Below.refl _ w) (.cells #[.int .i64 a, .slice p1 o c1, .slice p2 n c2] 42))
  by_cases h0 : x < 0
  · rw [show bhd x a o n = x from by unfold bhd; rw [if_pos (.inl h0)]]
    go_enter Try.func40, Try.ntmps40
    go_wp2
    go_ret
    exact ⟨rfl, BE.out⟩
  by_cases h1 : x < a
  · rw [show bhd x a o n = x from by unfold bhd; rw [if_pos (.inr h1)]]
    go_enter Try.func40, Try.ntmps40
    go_wp2
    go_ret
    exact ⟨rfl, BE.out⟩
  by_cases h2 : wrap64 (a + (o : Int)) ≤ x
  · rw [show bhd x a o n = wrap64 (wrap64 (x + (n : Int)) - (o : Int)) from by unfold bhd; rw [if_neg (by omega), if_pos h2]]
    go_enter Try.func40, Try.ntmps40
    go_wp2
    go_ret
    exact ⟨rfl, BE.out⟩
  rw [show bhd x a o n = wrap64 (a + min (wrap64 (x - a)) (n : Int)) from by unfold bhd; rw [if_neg (by omega), if_neg h2]]
  go_enter Try.func40, Try.ntmps40
  go_wp2
  go_ret
  exact ⟨rfl, BE.out⟩

theorem shiftf_any (x a : Int) (p1 p2 : Option Addr) (o c1 n c2 B : Nat) (w : World) (H : Hid (Blk w B 42 #[.int .i64 a, .slice p1 o c1, .slice p2 n c2])) :
    Calls Try.prog 38 #[.int .i64 x, .pointer (some ⟨B, 0, none⟩)] w fun e w' => e = .returned (.int .i64 (bhd x a o n)) ∧ Below w.heap.size w w' := by
  have q0 : w.cell? ⟨B, 0, none⟩ = some (.int .i64 a) := H.out.cell rfl
  have q1 : w.cell? ⟨B, 1, none⟩ = some (.slice p1 o c1) := H.out.cell rfl
  have q2 : w.cell? ⟨B, 2, none⟩ = some (.slice p2 n c2) := H.out.cell rfl
  have C := Hid.mk' (behind_any x a p1 p2 o c1 n c2 w)
  go_enter Try.func38, Try.ntmps38
  go_wp2_with fail
  refine C.out.mono ?_
  rintro e w3 ⟨rfl, hb3⟩
  have HB := Hid.mk' hb3
  clear hb3 C
  go_wp2
  go_ret
  exact ⟨rfl, HB.out⟩
/-- marks behind an edit -/
def shl (L : List Int) (a : Int) (o n : Nat) : List Int := L.map fun x => bhd x a o n
theorem shl_len (L : List Int) (a : Int) (o n : Nat) : (shl L a o n).length = L.length := by simp [shl]
set_option maxHeartbeats 2000000 in
theorem shift_any (L : List Int) (a : Int) (p1 p2 : Option Addr) (o c1 n c2 : Nat) (w : World) (hL : L.length = 27) :
    Calls Try.prog 19 #[.agg (mk L), .agg #[.int .i64 a, .slice p1 o c1, .slice p2 n c2]] w fun e w' => e = .returned (.agg (mk (shl L a o n))) ∧ Below w.heap.size w w' := by
  have hz := z24
  generalize hW2 : ((w.alloc (.cells (mk L) 24)).alloc (.cells #[.int .i64 a, .slice p1 o c1, .slice p2 n c2] 42)).alloc (.cells (mk zm) 24) = W2
  have BE : Hid (Below w.heap.size w W2) := by subst hW2; exact bAlloc (bAlloc (bAlloc (Below.refl _ _) _) _) _
  have B1 : Hid (Blk W2 w.heap.size 24 (mk L)) := by subst hW2; exact (Blk.new w 24 _).keep (bAlloc (bAlloc (Below.refl _ _) _) _)
  have B2 : Hid (Blk W2 (w.heap.size + 1) 42 #[.int .i64 a, .slice p1 o c1, .slice p2 n c2]) := by
    subst hW2
    have := (Blk.new (w.alloc (.cells (mk L) 24)) 42 #[.int .i64 a, .slice p1 o c1, .slice p2 n c2]).keep (bAlloc (Below.refl _ _) (.cells (mk zm) 24))
    rwa [World.size_alloc] at this
  have B3 : Hid (Blk W2 (w.heap.size + 1 + 1) 24 (mk zm)) := by
    subst hW2
    have := Blk.new ((w.alloc (.cells (mk L) 24)).alloc (.cells #[.int .i64 a, .slice p1 o c1, .slice p2 n c2] 42)) 24 (mk zm)
    rwa [World.size_alloc, World.size_alloc] at this
  have C := Hid.mk' (each_shift (fun x => bhd x a o n) L (.pointer (some ⟨w.heap.size + 1, 0, none⟩)) W2 hL (fun W x hb => shiftf_any x a p1 p2 o c1 n c2 _ W (B2.out.keep hb)))
  rw [show L.map (fun x => bhd x a o n) = shl L a o n from rfl] at C
  go_enter Try.func19, Try.ntmps19
  go_upto_region 1 with fail
  clear hW2
  go_wp2_with (first | refine wl_load24 (B := w.heap.size) (.tmp 2) rfl rfl rfl hL B1.out ?_ | fail)
  refine C.out.mono ?_
  rintro e w3 ⟨rfl, hb3⟩
  have K3 := Hid.mk' (B3.out.keep hb3)
  have KB := Hid.mk' (bT BE.out hb3)
  have hml : (shl L a o n).length = 27 := by rw [shl_len]; exact hL
  have hlv := ld24 hml (K3.out.put24 hml rfl)
  clear hb3 C B1 B2 B3 BE
  go_wp2_with (refine wl_store24 (B := w.heap.size + 1 + 1) (.tmp 4) (.tmp 7) rfl rfl rfl rfl hml (by rfl) K3.out ?_)
  exact bodyPost_ret (v := .agg (mk (shl L a o n))) (by simp [results, Try.results19, asAddr, Act.put, hlv]) rfl ⟨rfl, below_put24 KB.out (by omega) _⟩
theorem nonef_any (x : Int) (w : World) : Calls Try.prog 32 #[.int .i64 x] w fun e w' => e = .returned (.int .i64 (-1)) ∧ Below w.heap.size w w' := by
  go_enter Try.func32, Try.ntmps32
  go_wp2
  go_ret
  exact ⟨rfl, Below.refl _ _⟩
/-- no mark is set -/
def nm : List Int := List.replicate 27 (-1)
set_option maxHeartbeats 2000000 in
theorem none_any (w : World) : Calls Try.prog 11 #[] w fun e w' => e = .returned (.agg (mk nm)) ∧ Below w.heap.size w w' := by
  have hz := z24
  have hb := b24
  generalize hW2 : w.alloc (.cells (mk zm) 24) = W2
  have BE : Hid (Below w.heap.size w W2) := by subst hW2; exact bAlloc (Below.refl _ _) _
  have B1 : Hid (Blk W2 w.heap.size 24 (mk zm)) := by subst hW2; exact Blk.new w 24 _
  have C := Hid.mk' (each_none (fun _ => -1) zm W2 rfl (fun W x _ => nonef_any x W))
  rw [show zm.map (fun _ => (-1 : Int)) = nm from rfl] at C
  go_enter Try.func11, Try.ntmps11
  go_wp2_with fail
  clear hW2
  refine C.out.mono ?_
  rintro e w3 ⟨rfl, hb3⟩
  have K1 := Hid.mk' (B1.out.keep hb3)
  have KB := Hid.mk' (bT BE.out hb3)
  have hml : nm.length = 27 := rfl
  have hlv := ld24 hml (K1.out.put24 hml rfl)
  clear hb3 C B1 BE
  go_wp2_with (refine wl_store24 (B := w.heap.size) (.tmp 0) (.tmp 2) rfl rfl rfl rfl hml (by rfl) K1.out ?_)
  exact bodyPost_ret (v := .agg (mk nm)) (by simp [results, Try.results11, asAddr, Act.put, hlv]) rfl ⟨rfl, below_put24 KB.out (Nat.le_refl _) _⟩
/-- a mark brought to a text's length -/
def clp (s x : Int) : Int := min (max x (-1)) (max s 0)
theorem clipf_any (x s : Int) (B : Nat) (w : World) (H : Hid (Blk w B 3 #[.int .i64 (max s 0)])) :
    Calls Try.prog 43 #[.int .i64 x, .pointer (some ⟨B, 0, none⟩)] w fun e w' => e = .returned (.int .i64 (clp s x)) ∧ Below w.heap.size w w' := by
  have q0 : w.cell? ⟨B, 0, none⟩ = some (.int .i64 (max s 0)) := H.out.cell rfl
  unfold clp
  go_enter Try.func43, Try.ntmps43
  go_wp2
  go_ret
  exact ⟨rfl, Below.refl _ _⟩
set_option maxHeartbeats 2000000 in
theorem clip_any (L : List Int) (s : Int) (w : World) (hL : L.length = 27) :
    Calls Try.prog 28 #[.agg (mk L), .int .i64 s] w fun e w' => e = .returned (.agg (mk (L.map (clp s)))) ∧ Below w.heap.size w w' := by
  have hz := z24
  generalize hW2 : ((w.alloc (.cells (mk L) 24)).alloc (.cells (mk zm) 24)).alloc (.cells #[.int .i64 (max s 0)] 3) = W2
  have BE : Hid (Below w.heap.size w W2) := by subst hW2; exact bAlloc (bAlloc (bAlloc (Below.refl _ _) _) _) _
  have B1 : Hid (Blk W2 w.heap.size 24 (mk L)) := by subst hW2; exact (Blk.new w 24 _).keep (bAlloc (bAlloc (Below.refl _ _) _) _)
  have B2 : Hid (Blk W2 (w.heap.size + 1) 24 (mk zm)) := by
    subst hW2
    have := (Blk.new (w.alloc (.cells (mk L) 24)) 24 (mk zm)).keep (bAlloc (Below.refl _ _) (.cells #[.int .i64 (max s 0)] 3))
    rwa [World.size_alloc] at this
  have B3 : Hid (Blk W2 (w.heap.size + 1 + 1) 3 #[.int .i64 (max s 0)]) := by
    subst hW2
    have := Blk.new ((w.alloc (.cells (mk L) 24)).alloc (.cells (mk zm) 24)) 3 #[.int .i64 (max s 0)]
    rwa [World.size_alloc, World.size_alloc] at this
  have C := Hid.mk' (each_clip (clp s) L (.pointer (some ⟨w.heap.size + 1 + 1, 0, none⟩)) W2 hL (fun W x hb => clipf_any x s _ W (B3.out.keep hb)))
  go_enter Try.func28, Try.ntmps28
  go_upto_region 2 with fail
  clear hW2
  go_wp2_with (first | refine wl_load24 (B := w.heap.size) (.tmp 2) rfl rfl rfl hL B1.out ?_ | fail)
  refine C.out.mono ?_
  rintro e w3 ⟨rfl, hb3⟩
  have K3 := Hid.mk' (B2.out.keep hb3)
  have KB := Hid.mk' (bT BE.out hb3)
  have hml : (L.map (clp s)).length = 27 := by simpa using hL
  have hlv := ld24 hml (K3.out.put24 hml rfl)
  clear hb3 C B1 B2 B3 BE
  go_wp2_with (refine wl_store24 (B := w.heap.size + 1) (.tmp 4) (.tmp 10) rfl rfl rfl rfl hml (by rfl) K3.out ?_)
  exact bodyPost_ret (v := .agg (mk (L.map (clp s)))) (by simp [results, Try.results28, asAddr, Act.put, hlv]) rfl ⟨rfl, below_put24 KB.out (by omega) _⟩
end Go.Proofs.Ytdoheblkhnmmiaa
