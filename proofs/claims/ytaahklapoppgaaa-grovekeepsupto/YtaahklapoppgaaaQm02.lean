/- pins.each: what a function makes of each mark. -/
import Derived.Test.YtaahklapoppgaaaQm01
namespace Go.Proofs.Ytaahklapoppgaaa
open Go.RowKit

set_option maxRecDepth 8000
/-- the first i of L turned -/
def eL (g : Int → Int) (L : List Int) (i : Nat) : List Int := (L.take i).map g ++ L.drop i
theorem eL_zero (g : Int → Int) (L : List Int) : eL g L 0 = L := by simp [eL]
theorem eL_len (g : Int → Int) (L : List Int) (i : Nat) : (eL g L i).length = L.length := by simp [eL]; omega
theorem eL_all (g : Int → Int) (L : List Int) (i : Nat) (h : L.length ≤ i) : eL g L i = L.map g := by simp [eL, List.take_of_length_le h, List.drop_eq_nil_of_le h]
theorem eL_set (g : Int → Int) (L : List Int) (i : Nat) (x : Int) (h : L[i]? = some x) : (eL g L i).set i (g x) = eL g L (i + 1) := by
  obtain ⟨hi, hx⟩ := List.getElem?_eq_some_iff.1 h
  unfold eL
  rw [List.take_succ_eq_append_getElem hi, List.drop_eq_getElem_cons hi, hx, List.map_append]
  rw [List.set_append_right _ _ (by simp; omega)]
  simp [Nat.min_eq_left (Nat.le_of_lt hi)]
theorem eL_at (g : Int → Int) (L : List Int) (i : Nat) (x : Int) (h : L[i]? = some x) : (eL g L i)[i]? = some x := by
  obtain ⟨hi, hx⟩ := List.getElem?_eq_some_iff.1 h
  unfold eL
  rw [List.getElem?_append_right (by simp; omega)]
  simp [Nat.min_eq_left (Nat.le_of_lt hi), h]
set_option maxHeartbeats 4000000 in
theorem each_shift (g : Int → Int) (L : List Int) (fr : Value) (w : World) (hL : L.length = 27)
    (CF : Hid (∀ (W : World) (x : Int), Below w.heap.size w W → Calls Try.prog 99 #[.int .i64 x, fr] W fun e w' => e = .returned (.int .i64 (g x)) ∧ Below W.heap.size W w')) :
    Calls Try.prog 98 #[.agg (mk L), .func (.func 99) #[] #[fr]] w fun e w' => e = .returned (.agg (mk (L.map g))) ∧ Below w.heap.size w w' := by
  have hz := z24
  generalize hW2 : (w.alloc (.cells (mk L) 41)).alloc (.cells (mk zm) 41) = W2
  have BE : Hid (Below w.heap.size w W2) := by subst hW2; exact bAlloc (bAlloc (Below.refl _ _) _) _
  have B1 : Hid (Blk W2 w.heap.size 41 (mk L)) := by subst hW2; exact (Blk.new w 41 _).keep (bAlloc (Below.refl _ _) _)
  have B2 : Hid (Blk W2 (w.heap.size + 1) 41 (mk zm)) := by
    subst hW2
    have := Blk.new (w.alloc (.cells (mk L) 41)) 41 (mk zm)
    rwa [World.size_alloc] at this
  obtain ⟨M, q, hLM, hM⟩ := parts24 hL
  have HLM := mkH hLM
  clear hLM
  go_enter Try.func98, Try.ntmps98
  go_wp2_with (refine wl_load22 (B := w.heap.size) (.tmp 7) rfl rfl rfl M q hM (HLM.out ▸ B1.out) ?_)
  clear hW2
  go_loopg [5, 6, 9] 26 (fun m x5 x6 x9 wx => ∃ i : Nat, x9 = .int .i64 (i : Int) ∧ i + m = 26 ∧ Hid (Blk wx w.heap.size 41 (mk (eL g L i))) ∧ Hid (Blk wx (w.heap.size + 1) 41 (mk zm)) ∧ Hid (Below w.heap.size w wx))
  case atStart => exact ⟨0, rfl, rfl, by rw [eL_zero]; exact B1.out, B2.out, BE.out⟩
  case round =>
    obtain ⟨i, rfl, him, K1, K2, KB⟩ := hrel
    clear B1 B2 BE
    by_cases hi : i < 26
    · have hi' : (i : Int) < 26 := by omega
      obtain ⟨x, hx⟩ : ∃ x, M[i]? = some x := ⟨_, List.getElem?_eq_getElem (by omega)⟩
      have hxi := ix22 hM hx
      have HX : Hid (L[i]? = some x) := by unfold Hid; rw [HLM.out, List.getElem?_append_left (by omega)]; exact hx
      have C := mkH (CF.out wr x KB.out)
      have hw1 : IntKind.i64.wrap ((i : Int) + 1) = ((i + 1 : Nat) : Int) := by rw [IntKind.wrap_i64]; omega
      clear hx
      go_wp2_with fail
      refine C.out.mono ?_
      rintro e w3 ⟨rfl, hb3⟩
      have J1 := mkH (K1.out.keep hb3)
      have J2 := mkH (K2.out.keep hb3)
      have JB := mkH (bT KB.out hb3)
      clear K1 K2 KB C hb3
      have c1 : w3.cell? ⟨w.heap.size, i, none⟩ = some (.int .i64 x) := J1.out.mkAt (eL_at g L i x HX.out)
      have f1 := J1.out.frozen i
      have I1 : Hid (Blk (w3.setCell ⟨w.heap.size, i, none⟩ (.int .i64 (g x))) w.heap.size 41 (mk (eL g L (i + 1)))) := by
        have := J1.out.mkSet (k := i) (g x)
        rwa [eL_set g L i x HX.out] at this
      go_wp2
      go_roundg (26 - (i + 1))
      case measure => omega
      case rel => exact ⟨i + 1, rfl, by omega, I1.out, J2.out.off (by omega) _, JB.out.setCell (Nat.le_refl _) _⟩
    · have hi' : ¬ (i : Int) < 26 := by omega
      obtain rfl : i = 26 := by omega
      obtain ⟨x, hx⟩ : ∃ x, L[26]? = some x := ⟨_, List.getElem?_eq_getElem (by omega)⟩
      have HX := mkH hx
      have c0 : wr.cell? ⟨w.heap.size, 26, none⟩ = some (.int .i64 x) := K1.out.mkAt (eL_at g L 26 x hx)
      have C := mkH (CF.out wr x KB.out)
      clear hx
      go_wp2_with fail
      refine C.out.mono ?_
      rintro e w3 ⟨rfl, hb3⟩
      have J1 := mkH (K1.out.keep hb3)
      have J2 := mkH (K2.out.keep hb3)
      have JB := mkH (bT KB.out hb3)
      clear K1 K2 KB C hb3
      have c1 : w3.cell? ⟨w.heap.size, 26, none⟩ = some (.int .i64 x) := J1.out.mkAt (eL_at g L 26 x HX.out)
      have f1 := J1.out.frozen 26
      have I1 : Hid (Blk (w3.setCell ⟨w.heap.size, 26, none⟩ (.int .i64 (g x))) w.heap.size 41 (mk (L.map g))) := by
        have := J1.out.mkSet (k := 26) (g x)
        rwa [eL_set g L 26 x HX.out, eL_all g L _ (by omega)] at this
      have I2 : Hid (Blk (w3.setCell ⟨w.heap.size, 26, none⟩ (.int .i64 (g x))) (w.heap.size + 1) 41 (mk zm)) := J2.out.off (by omega) _
      have IB : Hid (Below w.heap.size w (w3.setCell ⟨w.heap.size, 26, none⟩ (.int .i64 (g x)))) := JB.out.setCell (Nat.le_refl _) _
      have hml : (L.map g).length = 27 := by simpa using hL
      have hlv := ld24 hml (I2.out.put24 hml rfl)
      go_wp2_with (first | refine wl_load24 (B := w.heap.size) (.tmp 2) rfl rfl rfl hml I1.out ?_ | refine wl_store24 (B := w.heap.size + 1) (.tmp 4) (.tmp 25) rfl rfl rfl rfl hml (by rfl) I2.out ?_)
      exact bodyPost_ret (v := .agg (mk (L.map g))) (by simp [results, Try.results98, asAddr, Act.put, hlv]) rfl ⟨rfl, below_put24 IB.out (by omega) _⟩
end Go.Proofs.Ytaahklapoppgaaa

/- A mark behind an edit; pins.None, Shift and Clip. -/
namespace Go.Proofs.Ytaahklapoppgaaa
open Go.RowKit

set_option maxRecDepth 8000
/-- a mark behind an edit -/
def bhd (x a : Int) (o n : Nat) : Int := if x < 0 ∨ x < a then x else if wrap64 (a + (o : Int)) ≤ x then wrap64 (wrap64 (x + (n : Int)) - (o : Int)) else wrap64 (a + min (wrap64 (x - a)) (n : Int))
set_option maxHeartbeats 2000000 in
theorem behind_any (x a : Int) (p1 p2 : Option Addr) (o c1 n c2 : Nat) (w : World) :
    Calls Try.prog 100 #[.int .i64 x, .agg #[.int .i64 a, .slice p1 o c1, .slice p2 n c2]] w fun e w' => e = .returned (.int .i64 (bhd x a o n)) ∧ Below w.heap.size w w' := by
  have BE := mkH (bAlloc (Below.refl _ w) (.cells #[.int .i64 a, .slice p1 o c1, .slice p2 n c2] 77))
  by_cases h0 : x < 0
  · rw [show bhd x a o n = x from by unfold bhd; rw [if_pos (.inl h0)]]
    go_enter Try.func100, Try.ntmps100
    go_wp2
    go_ret
    exact ⟨rfl, BE.out⟩
  by_cases h1 : x < a
  · rw [show bhd x a o n = x from by unfold bhd; rw [if_pos (.inr h1)]]
    go_enter Try.func100, Try.ntmps100
    go_wp2
    go_ret
    exact ⟨rfl, BE.out⟩
  by_cases h2 : wrap64 (a + (o : Int)) ≤ x
  · rw [show bhd x a o n = wrap64 (wrap64 (x + (n : Int)) - (o : Int)) from by unfold bhd; rw [if_neg (by omega), if_pos h2]]
    go_enter Try.func100, Try.ntmps100
    go_wp2
    go_ret
    exact ⟨rfl, BE.out⟩
  rw [show bhd x a o n = wrap64 (a + min (wrap64 (x - a)) (n : Int)) from by unfold bhd; rw [if_neg (by omega), if_neg h2]]
  go_enter Try.func100, Try.ntmps100
  go_wp2
  go_ret
  exact ⟨rfl, BE.out⟩
set_option maxHeartbeats 2000000 in
theorem rbehind_any (x a : Int) (p1 p2 : Option Addr) (o c1 n c2 : Nat) (w : World) :
    Calls Try.prog 96 #[.int .i64 x, .agg #[.int .i64 a, .slice p1 o c1, .slice p2 n c2]] w fun e w' => e = .returned (.int .i64 (bhd x a o n)) ∧ Below w.heap.size w w' := by
  have BE := mkH (bAlloc (Below.refl _ w) (.cells #[.int .i64 a, .slice p1 o c1, .slice p2 n c2] 77))
  by_cases h0 : x < 0
  · rw [show bhd x a o n = x from by unfold bhd; rw [if_pos (.inl h0)]]
    go_enter Try.func96, Try.ntmps96
    go_wp2
    go_ret
    exact ⟨rfl, BE.out⟩
  by_cases h1 : x < a
  · rw [show bhd x a o n = x from by unfold bhd; rw [if_pos (.inr h1)]]
    go_enter Try.func96, Try.ntmps96
    go_wp2
    go_ret
    exact ⟨rfl, BE.out⟩
  by_cases h2 : wrap64 (a + (o : Int)) ≤ x
  · rw [show bhd x a o n = wrap64 (wrap64 (x + (n : Int)) - (o : Int)) from by unfold bhd; rw [if_neg (by omega), if_pos h2]]
    go_enter Try.func96, Try.ntmps96
    go_wp2
    go_ret
    exact ⟨rfl, BE.out⟩
  rw [show bhd x a o n = wrap64 (a + min (wrap64 (x - a)) (n : Int)) from by unfold bhd; rw [if_neg (by omega), if_neg h2]]
  go_enter Try.func96, Try.ntmps96
  go_wp2
  go_ret
  exact ⟨rfl, BE.out⟩

theorem shiftf_any (x a : Int) (p1 p2 : Option Addr) (o c1 n c2 B : Nat) (w : World) (H : Hid (Blk w B 77 #[.int .i64 a, .slice p1 o c1, .slice p2 n c2])) :
    Calls Try.prog 99 #[.int .i64 x, .pointer (some ⟨B, 0, none⟩)] w fun e w' => e = .returned (.int .i64 (bhd x a o n)) ∧ Below w.heap.size w w' := by
  have q0 : w.cell? ⟨B, 0, none⟩ = some (.int .i64 a) := H.out.cell rfl
  have q1 : w.cell? ⟨B, 1, none⟩ = some (.slice p1 o c1) := H.out.cell rfl
  have q2 : w.cell? ⟨B, 2, none⟩ = some (.slice p2 n c2) := H.out.cell rfl
  have C := mkH (behind_any x a p1 p2 o c1 n c2 w)
  go_enter Try.func99, Try.ntmps99
  go_wp2_with fail
  refine C.out.mono ?_
  rintro e w3 ⟨rfl, hb3⟩
  have HB := mkH hb3
  clear hb3 C
  go_wp2
  go_ret
  exact ⟨rfl, HB.out⟩
/-- marks behind an edit -/
def shl (L : List Int) (a : Int) (o n : Nat) : List Int := L.map fun x => bhd x a o n
theorem shl_len (L : List Int) (a : Int) (o n : Nat) : (shl L a o n).length = L.length := by simp [shl]
set_option maxHeartbeats 2000000 in
theorem shift_any (L : List Int) (a : Int) (p1 p2 : Option Addr) (o c1 n c2 : Nat) (w : World) (hL : L.length = 27) :
    Calls Try.prog 97 #[.agg (mk L), .agg #[.int .i64 a, .slice p1 o c1, .slice p2 n c2]] w fun e w' => e = .returned (.agg (mk (shl L a o n))) ∧ Below w.heap.size w w' := by
  have hz := z24
  generalize hW2 : ((w.alloc (.cells (mk L) 41)).alloc (.cells #[.int .i64 a, .slice p1 o c1, .slice p2 n c2] 77)).alloc (.cells (mk zm) 41) = W2
  have BE : Hid (Below w.heap.size w W2) := by subst hW2; exact bAlloc (bAlloc (bAlloc (Below.refl _ _) _) _) _
  have B1 : Hid (Blk W2 w.heap.size 41 (mk L)) := by subst hW2; exact (Blk.new w 41 _).keep (bAlloc (bAlloc (Below.refl _ _) _) _)
  have B2 : Hid (Blk W2 (w.heap.size + 1) 77 #[.int .i64 a, .slice p1 o c1, .slice p2 n c2]) := by
    subst hW2
    have := (Blk.new (w.alloc (.cells (mk L) 41)) 77 #[.int .i64 a, .slice p1 o c1, .slice p2 n c2]).keep (bAlloc (Below.refl _ _) (.cells (mk zm) 41))
    rwa [World.size_alloc] at this
  have B3 : Hid (Blk W2 (w.heap.size + 1 + 1) 41 (mk zm)) := by
    subst hW2
    have := Blk.new ((w.alloc (.cells (mk L) 41)).alloc (.cells #[.int .i64 a, .slice p1 o c1, .slice p2 n c2] 77)) 41 (mk zm)
    rwa [World.size_alloc, World.size_alloc] at this
  have C := mkH (each_shift (fun x => bhd x a o n) L (.pointer (some ⟨w.heap.size + 1, 0, none⟩)) W2 hL (fun W x hb => shiftf_any x a p1 p2 o c1 n c2 _ W (B2.out.keep hb)))
  rw [show L.map (fun x => bhd x a o n) = shl L a o n from rfl] at C
  go_enter Try.func97, Try.ntmps97
  go_upto_region 1 with fail
  clear hW2
  go_wp2_with (first | refine wl_load24 (B := w.heap.size) (.tmp 2) rfl rfl rfl hL B1.out ?_ | fail)
  refine C.out.mono ?_
  rintro e w3 ⟨rfl, hb3⟩
  have K3 := mkH (B3.out.keep hb3)
  have KB := mkH (bT BE.out hb3)
  have hml : (shl L a o n).length = 27 := by rw [shl_len]; exact hL
  have hlv := ld24 hml (K3.out.put24 hml rfl)
  clear hb3 C B1 B2 B3 BE
  go_wp2_with (refine wl_store24 (B := w.heap.size + 1 + 1) (.tmp 4) (.tmp 7) rfl rfl rfl rfl hml (by rfl) K3.out ?_)
  exact bodyPost_ret (v := .agg (mk (shl L a o n))) (by simp [results, Try.results97, asAddr, Act.put, hlv]) rfl ⟨rfl, below_put24 KB.out (by omega) _⟩
/-- no mark is set -/
def nm : List Int := List.replicate 27 (-1)
/-- a mark brought to a text's length -/
def clp (s x : Int) : Int := min (max x (-1)) (max s 0)
end Go.Proofs.Ytaahklapoppgaaa

/- The reference: At, With, name, Set, Get; pins: mark, Set, Get. -/
namespace Go.Proofs.Ytaahklapoppgaaa
open Go.RowKit

set_option maxRecDepth 8000
theorem at_any (L : List Int) (i : Nat) (x : Int) (w : World) (hL : L.length = 27) (hx : L[i]? = some x) :
    Calls Try.prog 88 #[.agg (mk L), .int .i64 (i : Int)] w fun e w' => e = .returned (.int .i64 x) ∧ Below w.heap.size w w' := by
  have hi : i < 27 := by rw [← hL]; exact (List.getElem?_eq_some_iff.1 hx).1
  generalize hW2 : w.alloc (.cells (mk L) 41) = W2
  have BE : Hid (Below w.heap.size w W2) := by subst hW2; exact bAlloc (Below.refl _ _) _
  have B1 : Hid (Blk W2 w.heap.size 41 (mk L)) := by subst hW2; exact Blk.new w 41 _
  have c1 : W2.cell? ⟨w.heap.size, i, none⟩ = some (.int .i64 x) := B1.out.mkAt hx
  clear hx
  by_cases h : i = 26
  · subst h
    go_enter Try.func88, Try.ntmps88
    go_wp2
    go_ret
    exact ⟨rfl, BE.out⟩
  · have h1 : ((i : Int) == 26) = false := by simp; omega
    have h2 : (i : Int) < 26 := by omega
    have h3 : (0 : Int) ≤ (i : Int) := by omega
    go_enter Try.func88, Try.ntmps88
    go_wp2
    go_ret
    exact ⟨rfl, BE.out⟩
set_option maxHeartbeats 2000000 in
theorem with_any (L : List Int) (i : Nat) (x : Int) (w : World) (hL : L.length = 27) (hi : i < 27) :
    Calls Try.prog 89 #[.agg (mk L), .int .i64 (i : Int), .int .i64 x] w fun e w' => e = .returned (.agg (mk (L.set i x))) ∧ Below w.heap.size w w' := by
  have hz := z24
  generalize hW2 : (w.alloc (.cells (mk L) 41)).alloc (.cells (mk zm) 41) = W2
  have BE : Hid (Below w.heap.size w W2) := by subst hW2; exact bAlloc (bAlloc (Below.refl _ _) _) _
  have B1 : Hid (Blk W2 w.heap.size 41 (mk L)) := by subst hW2; exact (Blk.new w 41 _).keep (bAlloc (Below.refl _ _) _)
  have B2 : Hid (Blk W2 (w.heap.size + 1) 41 (mk zm)) := by
    subst hW2
    have := Blk.new (w.alloc (.cells (mk L) 41)) 41 (mk zm)
    rwa [World.size_alloc] at this
  obtain ⟨y, hy⟩ : ∃ y, L[i]? = some y := ⟨_, List.getElem?_eq_getElem (by omega)⟩
  have c1 : W2.cell? ⟨w.heap.size, i, none⟩ = some (.int .i64 y) := B1.out.mkAt hy
  have f1 := B1.out.frozen i
  have I1 : Hid (Blk (W2.setCell ⟨w.heap.size, i, none⟩ (.int .i64 x)) w.heap.size 41 (mk (L.set i x))) := B1.out.mkSet x
  have I2 : Hid (Blk (W2.setCell ⟨w.heap.size, i, none⟩ (.int .i64 x)) (w.heap.size + 1) 41 (mk zm)) := B2.out.off (by omega) _
  have IB : Hid (Below w.heap.size w (W2.setCell ⟨w.heap.size, i, none⟩ (.int .i64 x))) := BE.out.setCell (Nat.le_refl _) _
  have hml : Hid ((L.set i x).length = 27) := by unfold Hid; simpa using hL
  have hlv := mkH (ld24 hml.out (I2.out.put24 hml.out rfl))
  clear hy
  by_cases h : i = 26
  · subst h
    go_enter Try.func89, Try.ntmps89
    go_wp2_with (first | refine wl_load24 (B := w.heap.size) (.tmp 3) rfl rfl rfl hml.out I1.out ?_ | refine wl_store24 (B := w.heap.size + 1) (.tmp 6) (.tmp 11) rfl rfl rfl rfl hml.out (by rfl) I2.out ?_)
    exact bodyPost_ret (v := .agg (mk (L.set 26 x))) (by simp [results, Try.results89, asAddr, Act.put, hlv.out]) rfl ⟨rfl, below_put24 IB.out (by omega) _⟩
  · have h1 : ((i : Int) == 26) = false := by simp; omega
    have h2 : (i : Int) < 26 := by omega
    have h3 : (0 : Int) ≤ (i : Int) := by omega
    go_enter Try.func89, Try.ntmps89
    go_wp2_with (first | refine wl_load24 (B := w.heap.size) (.tmp 3) rfl rfl rfl hml.out I1.out ?_ | refine wl_store24 (B := w.heap.size + 1) (.tmp 6) (.tmp 16) rfl rfl rfl rfl hml.out (by rfl) I2.out ?_)
    exact bodyPost_ret (v := .agg (mk (L.set i x))) (by simp [results, Try.results89, asAddr, Act.put, hlv.out]) rfl ⟨rfl, below_put24 IB.out (by omega) _⟩
/-- which mark has a name -/
def nix (x : Nat) : Option Nat := if 97 ≤ x ∧ x ≤ 122 then some (x - 97) else if x = 96 ∨ x = 39 then some 26 else none
theorem nix_lt {x k : Nat} (h : nix x = some k) : k < 27 := by
  unfold nix at h
  repeat' split at h
  all_goals first | (cases h; omega) | cases h
def nixI (k : Option Nat) : Int := match k with
  | none => -1
  | some k => (k : Int)
def mkp (B : Nat) (k : Option Nat) : Value := .pointer (k.map fun k => ⟨B, k, none⟩)
/-- what Get answers -/
def getP (L : List Int) (x : Nat) : Int × Int := match nix x with
  | none => (0, 160)
  | some k => if L.getD k 0 < 0 then (0, 161) else (L.getD k 0, 0)
def gE (x e : Int) : Ending := .returned (.tuple #[.int .i64 x, .int .i64 e])
theorem mkp_none (B : Nat) : mkp B none = .pointer none := rfl
theorem mkp_some (B k : Nat) : mkp B (some k) = .pointer (some ⟨B, k, none⟩) := rfl
/-- what Set answers -/
def setP (L : List Int) (x : Nat) (a : Int) : List Int × Int := match nix x with
  | none => (zm, 160)
  | some k => if a < 0 then (zm, 2) else (L.set k a, 0)
theorem setP_len (L : List Int) (x : Nat) (a : Int) (hL : L.length = 27) : (setP L x a).1.length = 27 := by
  unfold setP
  split
  · rfl
  · split
    · rfl
    · simpa using hL
def sE (L : List Int) (e : Int) : Ending := .returned (.tuple #[.agg (mk L), .int .i64 e])
end Go.Proofs.Ytaahklapoppgaaa

/- pins.Fit, the reference: None, Fit, Clip. -/
namespace Go.Proofs.Ytaahklapoppgaaa
open Go.RowKit

set_option maxRecDepth 8000
/-- a mark fits a text of so many bytes -/
def ft (s x : Int) : Bool := decide (x = -1 ∨ (0 ≤ x ∧ x ≤ s))
theorem fits_any (x s : Int) (w : World) : Calls Try.prog 92 #[.int .i64 x, .int .i64 s] w fun e w' => e = .returned (.bool (ft s x)) ∧ w' = w := by
  unfold ft
  by_cases h : x = -1
  · subst h
    rw [decide_eq_true (.inl rfl)]
    go_enter Try.func92, Try.ntmps92
    go_wp2
    go_ret
    exact ⟨rfl, rfl⟩
  have h1 : (x == -1) = false := by simpa using h
  by_cases h2 : 0 ≤ x
  · by_cases h3 : x ≤ s
    · rw [decide_eq_true (.inr ⟨h2, h3⟩)]
      go_enter Try.func92, Try.ntmps92
      go_wp2
      go_ret
      exact ⟨rfl, rfl⟩
    · rw [decide_eq_false (by omega)]
      go_enter Try.func92, Try.ntmps92
      go_wp2
      go_ret
      exact ⟨rfl, rfl⟩
  · rw [decide_eq_false (by omega)]
    go_enter Try.func92, Try.ntmps92
    go_wp2
    go_ret
    exact ⟨rfl, rfl⟩
/-- all marks fit -/
def fitL (L : List Int) (s : Int) : Bool := L.all (ft s)
theorem fitL_no {L : List Int} {s x : Int} {i : Nat} (h : L[i]? = some x) (hf : ft s x = false) : fitL L s = false := by
  unfold fitL
  rw [List.all_eq_false]
  exact ⟨x, List.mem_of_getElem? h, by simp [hf]⟩
theorem fitL_take {L : List Int} {s x : Int} {i : Nat} (h : L[i]? = some x) (hf : fitL (L.take i) s = true) (hx : ft s x = true) : fitL (L.take (i + 1)) s = true := by
  obtain ⟨hi, rfl⟩ := List.getElem?_eq_some_iff.1 h
  unfold fitL at *
  rw [List.take_succ_eq_append_getElem hi, List.all_append, hf]
  simpa using hx
set_option maxHeartbeats 2000000 in
theorem fit_any (L : List Int) (s : Int) (w : World) (hL : L.length = 27) :
    Calls Try.prog 85 #[.agg (mk L), .int .i64 s] w fun e w' => e = .returned (.bool (fitL L s)) ∧ Below w.heap.size w w' := by
  generalize hW2 : w.alloc (.cells (mk L) 41) = W2
  have BE : Hid (Below w.heap.size w W2) := by subst hW2; exact bAlloc (Below.refl _ _) _
  have B1 : Hid (Blk W2 w.heap.size 41 (mk L)) := by subst hW2; exact Blk.new w 41 _
  obtain ⟨M, q, hLM, hM⟩ := parts24 hL
  have HLM := mkH hLM
  clear hLM
  have c26 : W2.cell? ⟨w.heap.size, 26, none⟩ = some (.int .i64 q) := B1.out.mkAt (by rw [HLM.out, List.getElem?_append_right (by omega), hM]; rfl)
  go_enter Try.func85, Try.ntmps85
  go_wp2_with (refine wl_load22 (B := w.heap.size) (.tmp 7) rfl rfl rfl M q hM (HLM.out ▸ B1.out) ?_)
  clear hW2
  go_loopg [6, 9] 26 (fun m x6 x9 wx => ∃ i : Nat, x9 = .int .i64 (i : Int) ∧ i + m = 26 ∧ Hid (fitL (L.take i) s = true) ∧ wx = W2)
  case atStart => exact ⟨0, rfl, rfl, rfl, rfl⟩
  case round =>
    obtain ⟨i, rfl, him, HF, hw⟩ := hrel
    subst hw
    by_cases hi : i < 26
    · have hi' : (i : Int) < 26 := by omega
      obtain ⟨x, hx⟩ : ∃ x, M[i]? = some x := ⟨_, List.getElem?_eq_getElem (by omega)⟩
      have hxi := ix22 hM hx
      have HX : Hid (L[i]? = some x) := by unfold Hid; rw [HLM.out, List.getElem?_append_left (by omega)]; exact hx
      have C := mkH (fits_any x s wr)
      have hw1 : IntKind.i64.wrap ((i : Int) + 1) = ((i + 1 : Nat) : Int) := by rw [IntKind.wrap_i64]; omega
      clear hx
      cases hb : ft s x with
      | true =>
        rw [hb] at C
        have HT := mkH (fitL_take HX.out HF.out hb)
        clear hb
        go_wp2_with (go_at_call 92; refine C.out.mono ?_; rintro e w2 ⟨rfl, hw⟩; have hq := hw.symm; subst hq; clear hw)
        go_roundg (26 - (i + 1))
        case measure => omega
        case rel => exact ⟨i + 1, rfl, by omega, HT.out, rfl⟩
      | false =>
        rw [hb] at C
        have HT := mkH (fitL_no HX.out hb)
        clear hb
        go_wp2_with (go_at_call 92; refine C.out.mono ?_; rintro e w2 ⟨rfl, hw⟩; have hq := hw.symm; subst hq; clear hw)
        go_ret
        exact ⟨by rw [HT.out]; rfl, BE.out⟩
    · have hi' : ¬ (i : Int) < 26 := by omega
      obtain rfl : i = 26 := by omega
      have C := mkH (fits_any q s wr)
      have HQ : Hid (ft s q = fitL L s) := by
        have h1 := HF.out
        rw [HLM.out] at h1 ⊢
        rw [List.take_append_of_le_length (by omega), List.take_of_length_le (by omega)] at h1
        unfold fitL at *
        rw [List.all_append, h1]
        show ft s q = (true && [q].all (ft s))
        simp
      rw [HQ.out] at C
      go_wp2_with (go_at_call 92; refine C.out.mono ?_; rintro e w2 ⟨rfl, hw⟩; have hq := hw.symm; subst hq; clear hw)
      go_ret
      exact ⟨rfl, BE.out⟩
/-- the first i turned to -1 -/
def nmL (i : Nat) : List Int := List.replicate i (-1) ++ List.replicate (26 - i) 0 ++ [-1]
theorem nmL_set {i : Nat} (hi : i < 26) : (nmL i).set i (-1) = nmL (i + 1) := by
  unfold nmL
  obtain ⟨k, hk⟩ : ∃ k, 26 - i = k + 1 := ⟨25 - i, by omega⟩
  rw [hk, show 26 - (i + 1) = k by omega, List.append_assoc, List.set_append_right _ _ (by simp), List.length_replicate, Nat.sub_self, List.replicate_succ, List.cons_append, List.set_cons_zero, List.replicate_succ']
  simp
theorem nmL_at {i : Nat} (hi : i < 26) : (nmL i)[i]? = some 0 := by
  unfold nmL
  rw [List.append_assoc, List.getElem?_append_right (by simp), List.length_replicate, Nat.sub_self, List.getElem?_append_left (by simp; omega)]
  rw [List.getElem?_replicate, if_pos (by omega)]
end Go.Proofs.Ytaahklapoppgaaa

