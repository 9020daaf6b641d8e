/- The reference: At, With, name, Set, Get; pins: mark, Set, Get. -/
import Derived.Test.YtdoheblkhnmmiaaSml
namespace Go.Proofs.Ytdoheblkhnmmiaa
open Go.RowKit

set_option maxRecDepth 8000
theorem at_any (L : List Int) (i : Nat) (x : Int) (w : World) (hL : L.length = 27) (hx : L[i]? = some x) :
    Calls Try.prog 36 #[.agg (mk L), .int .i64 (i : Int)] w fun e w' => e = .returned (.int .i64 x) ∧ Below w.heap.size w w' := by
  have hi : i < 27 := by rw [← hL]; exact (List.getElem?_eq_some_iff.1 hx).1
  generalize hW2 : w.alloc (.cells (mk L) 24) = W2
  have BE : Hid (Below w.heap.size w W2) := by subst hW2; exact bAlloc (Below.refl _ _) _
  have B1 : Hid (Blk W2 w.heap.size 24 (mk L)) := by subst hW2; exact Blk.new w 24 _
  have c1 : W2.cell? ⟨w.heap.size, i, none⟩ = some (.int .i64 x) := B1.out.mkAt hx
  clear hx
  by_cases h : i = 26
  · subst h
    go_enter Try.func36, Try.ntmps36
    go_wp2
    go_ret
    exact ⟨rfl, BE.out⟩
  · have h1 : ((i : Int) == 26) = false := by simp; omega
    have h2 : (i : Int) < 26 := by omega
    have h3 : (0 : Int) ≤ (i : Int) := by omega
    go_enter Try.func36, Try.ntmps36
    go_wp2
    go_ret
    exact ⟨rfl, BE.out⟩
set_option maxHeartbeats 2000000 in
theorem with_any (L : List Int) (i : Nat) (x : Int) (w : World) (hL : L.length = 27) (hi : i < 27) :
    Calls Try.prog 34 #[.agg (mk L), .int .i64 (i : Int), .int .i64 x] w fun e w' => e = .returned (.agg (mk (L.set i x))) ∧ Below w.heap.size w w' := by
  have hz := z24
  generalize hW2 : (w.alloc (.cells (mk L) 24)).alloc (.cells (mk zm) 24) = W2
  have BE : Hid (Below w.heap.size w W2) := by subst hW2; exact bAlloc (bAlloc (Below.refl _ _) _) _
  have B1 : Hid (Blk W2 w.heap.size 24 (mk L)) := by subst hW2; exact (Blk.new w 24 _).keep (bAlloc (Below.refl _ _) _)
  have B2 : Hid (Blk W2 (w.heap.size + 1) 24 (mk zm)) := by
    subst hW2
    have := Blk.new (w.alloc (.cells (mk L) 24)) 24 (mk zm)
    rwa [World.size_alloc] at this
  obtain ⟨y, hy⟩ : ∃ y, L[i]? = some y := ⟨_, List.getElem?_eq_getElem (by omega)⟩
  have c1 : W2.cell? ⟨w.heap.size, i, none⟩ = some (.int .i64 y) := B1.out.mkAt hy
  have f1 := B1.out.frozen i
  have I1 : Hid (Blk (W2.setCell ⟨w.heap.size, i, none⟩ (.int .i64 x)) w.heap.size 24 (mk (L.set i x))) := B1.out.mkSet x
  have I2 : Hid (Blk (W2.setCell ⟨w.heap.size, i, none⟩ (.int .i64 x)) (w.heap.size + 1) 24 (mk zm)) := B2.out.off (by omega) _
  have IB : Hid (Below w.heap.size w (W2.setCell ⟨w.heap.size, i, none⟩ (.int .i64 x))) := BE.out.setCell (Nat.le_refl _) _
  have hml : Hid ((L.set i x).length = 27) := by unfold Hid; simpa using hL
  have hlv := Hid.mk' (ld24 hml.out (I2.out.put24 hml.out rfl))
  clear hy
  by_cases h : i = 26
  · subst h
    go_enter Try.func34, Try.ntmps34
    go_wp2_with (first | refine wl_load24 (B := w.heap.size) (.tmp 3) rfl rfl rfl hml.out I1.out ?_ | refine wl_store24 (B := w.heap.size + 1) (.tmp 6) (.tmp 11) rfl rfl rfl rfl hml.out (by rfl) I2.out ?_)
    exact bodyPost_ret (v := .agg (mk (L.set 26 x))) (by simp [results, Try.results34, asAddr, Act.put, hlv.out]) rfl ⟨rfl, below_put24 IB.out (by omega) _⟩
  · have h1 : ((i : Int) == 26) = false := by simp; omega
    have h2 : (i : Int) < 26 := by omega
    have h3 : (0 : Int) ≤ (i : Int) := by omega
    go_enter Try.func34, Try.ntmps34
    go_wp2_with (first | refine wl_load24 (B := w.heap.size) (.tmp 3) rfl rfl rfl hml.out I1.out ?_ | refine wl_store24 (B := w.heap.size + 1) (.tmp 6) (.tmp 16) rfl rfl rfl rfl hml.out (by rfl) I2.out ?_)
    exact bodyPost_ret (v := .agg (mk (L.set i x))) (by simp [results, Try.results34, asAddr, Act.put, hlv.out]) rfl ⟨rfl, below_put24 IB.out (by omega) _⟩
/-- which mark has a name -/
def nix (x : Nat) : Option Nat := if 97 ≤ x ∧ x ≤ 122 then some (x - 97) else if x = 96 ∨ x = 39 then some 26 else none
theorem nix_lt {x k : Nat} (h : nix x = some k) : k < 27 := by
  unfold nix at h
  repeat' split at h
  all_goals first | (cases h; omega) | cases h
def nixI (k : Option Nat) : Int := match k with
  | none => -1
  | some k => (k : Int)
def mkp (B : Nat) (k : Option Nat) : Value := .pointer (k.map fun k => ⟨B, k, none⟩)
theorem name_any (x : Nat) (w : World) (hx : x < 256) : Calls Try.prog 33 #[.int .u8 (x : Int)] w fun e w' => e = .returned (.int .i64 (nixI (nix x))) ∧ w' = w := by
  unfold nix
  by_cases h : 97 ≤ x ∧ x ≤ 122
  · rw [if_pos h]
    obtain ⟨k, rfl⟩ : ∃ k, x = 97 + k := ⟨x - 97, by omega⟩
    have j1 : ((97 + k : Nat) : Int) = 97 + (k : Int) := by omega
    have j2 : (k : Int) < 26 := by omega
    have j4 : (97 + (k : Int)) ≤ 122 := by omega
    have j5 : (97 : Int) ≤ 97 + (k : Int) := by omega
    have e9 : nixI (some (97 + k - 97)) = (k : Int) := by unfold nixI; simp
    have j6 : (0 : Int) ≤ (k : Int) := by omega
    rw [e9]
    clear e9
    go_enter Try.func33, Try.ntmps33
    go_wp2
    go_ret
    exact ⟨by show Ending.returned (.int .i64 (97 + (k : Int) - 97)) = _; rw [show 97 + (k : Int) - 97 = (k : Int) by omega], rfl⟩
  · rw [if_neg h]
    have i5 : ¬ (97 ≤ (x : Int) ∧ (x : Int) ≤ 122) := by omega
    have i3 : (0 : Int) ≤ (x : Int) := by omega
    have i4 : (x : Int) < 256 := by omega
    by_cases h1 : x = 96
    · subst h1
      rw [if_pos (.inl rfl)]
      go_enter Try.func33, Try.ntmps33
      go_wp2
      go_ret
      exact ⟨rfl, rfl⟩
    by_cases h2 : x = 39
    · subst h2
      rw [if_pos (.inr rfl)]
      go_enter Try.func33, Try.ntmps33
      go_wp2
      go_ret
      exact ⟨rfl, rfl⟩
    rw [if_neg (by omega)]
    have u1 : ((x : Int) == 96) = false := by simp; omega
    have u2 : ((x : Int) == 39) = false := by simp; omega
    by_cases h3 : 97 ≤ (x : Int)
    · have h4 : ¬ (x : Int) ≤ 122 := by omega
      go_enter Try.func33, Try.ntmps33
      go_wp2
      go_ret
      exact ⟨rfl, rfl⟩
    · go_enter Try.func33, Try.ntmps33
      go_wp2
      go_ret
      exact ⟨rfl, rfl⟩
theorem mark_any (B x : Nat) (w : World) (hx : x < 256) : Calls Try.prog 35 #[.pointer (some ⟨B, 0, none⟩), .int .u8 (x : Int)] w fun e w' => e = .returned (mkp B (nix x)) ∧ w' = w := by
  unfold nix
  by_cases h : 97 ≤ x ∧ x ≤ 122
  · rw [if_pos h]
    obtain ⟨k, rfl⟩ : ∃ k, x = 97 + k := ⟨x - 97, by omega⟩
    have j1 : ((97 + k : Nat) : Int) = 97 + (k : Int) := by omega
    have j2 : (k : Int) < 26 := by omega
    have j3 : IntKind.u8.wrap (97 + (k : Int) - 97) = (k : Int) := by rw [IntKind.wrap_u8]; omega
    have j4 : (97 + (k : Int)) ≤ 122 := by omega
    have j5 : (97 : Int) ≤ 97 + (k : Int) := by omega
    have j6 : (0 : Int) ≤ (k : Int) := by omega
    have e9 : mkp B (some (97 + k - 97)) = .pointer (some ⟨B, k, none⟩) := by unfold mkp; simp
    rw [e9]
    clear e9
    go_enter Try.func35, Try.ntmps35
    go_wp2
    go_ret
    exact ⟨rfl, rfl⟩
  · rw [if_neg h]
    have i5 : ¬ (97 ≤ (x : Int) ∧ (x : Int) ≤ 122) := by omega
    have i3 : (0 : Int) ≤ (x : Int) := by omega
    have i4 : (x : Int) < 256 := by omega
    by_cases h1 : x = 96
    · subst h1
      rw [if_pos (.inl rfl)]
      go_enter Try.func35, Try.ntmps35
      go_wp2
      go_ret
      exact ⟨rfl, rfl⟩
    by_cases h2 : x = 39
    · subst h2
      rw [if_pos (.inr rfl)]
      go_enter Try.func35, Try.ntmps35
      go_wp2
      go_ret
      exact ⟨rfl, rfl⟩
    rw [if_neg (by omega)]
    have u1 : ((x : Int) == 96) = false := by simp; omega
    have u2 : ((x : Int) == 39) = false := by simp; omega
    by_cases h3 : 97 ≤ (x : Int)
    · have h4 : ¬ (x : Int) ≤ 122 := by omega
      go_enter Try.func35, Try.ntmps35
      go_wp2
      go_ret
      exact ⟨rfl, rfl⟩
    · go_enter Try.func35, Try.ntmps35
      go_wp2
      go_ret
      exact ⟨rfl, rfl⟩
/-- what Get answers -/
def getP (L : List Int) (x : Nat) : Int × Int := match nix x with
  | none => (0, 160)
  | some k => if L.getD k 0 < 0 then (0, 161) else (L.getD k 0, 0)
def gE (x e : Int) : Ending := .returned (.tuple #[.int .i64 x, .int .i64 e])
theorem mkp_none (B : Nat) : mkp B none = .pointer none := rfl
theorem mkp_some (B k : Nat) : mkp B (some k) = .pointer (some ⟨B, k, none⟩) := rfl
theorem get_any (L : List Int) (x : Nat) (w : World) (hL : L.length = 27) (hx : x < 256) :
    Calls Try.prog 16 #[.agg (mk L), .int .u8 (x : Int)] w fun e w' => e = gE (getP L x).1 (getP L x).2 ∧ Below w.heap.size w w' := by
  unfold gE getP
  generalize hW2 : w.alloc (.cells (mk L) 24) = W2
  have BE : Hid (Below w.heap.size w W2) := by subst hW2; exact bAlloc (Below.refl _ _) _
  have B1 : Hid (Blk W2 w.heap.size 24 (mk L)) := by subst hW2; exact Blk.new w 24 _
  have C := Hid.mk' (mark_any w.heap.size x W2 hx)
  cases hk : nix x with
  | none =>
    rw [hk, mkp_none] at C
    dsimp only
    clear hk
    go_enter Try.func16, Try.ntmps16
    go_wp2_with (go_at_call 35; refine C.out.mono ?_; rintro e w2 ⟨rfl, hw⟩; have hq := hw.symm; subst hq; clear hw)
    exact bodyPost_ret (v := .tuple #[.int .i64 0, .int .i64 160]) (by simp [results, Try.results16]) rfl ⟨rfl, BE.out⟩
  | some k =>
    have hk27 := nix_lt hk
    rw [hk, mkp_some] at C
    dsimp only
    obtain ⟨y, hy⟩ : ∃ y, L[k]? = some y := ⟨_, List.getElem?_eq_getElem (by omega)⟩
    have hd : L.getD k 0 = y := by rw [List.getD_eq_getElem?_getD, hy]; rfl
    rw [hd]
    have c1 : W2.cell? ⟨w.heap.size, k, none⟩ = some (.int .i64 y) := B1.out.mkAt hy
    clear hk hy hd
    by_cases h0 : y < 0
    · rw [if_pos h0]
      go_enter Try.func16, Try.ntmps16
      go_wp2_with (go_at_call 35; refine C.out.mono ?_; rintro e w2 ⟨rfl, hw⟩; have hq := hw.symm; subst hq; clear hw)
      exact bodyPost_ret (v := .tuple #[.int .i64 0, .int .i64 161]) (by simp [results, Try.results16]) rfl ⟨rfl, BE.out⟩
    · rw [if_neg h0]
      go_enter Try.func16, Try.ntmps16
      go_wp2_with (go_at_call 35; refine C.out.mono ?_; rintro e w2 ⟨rfl, hw⟩; have hq := hw.symm; subst hq; clear hw)
      exact bodyPost_ret (v := .tuple #[.int .i64 y, .int .i64 0]) (by simp [results, Try.results16]) rfl ⟨rfl, BE.out⟩
theorem rget_any (L : List Int) (x : Nat) (w : World) (hL : L.length = 27) (hx : x < 256) :
    Calls Try.prog 15 #[.agg (mk L), .int .u8 (x : Int)] w fun e w' => e = gE (getP L x).1 (getP L x).2 ∧ Below w.heap.size w w' := by
  unfold gE getP
  generalize hW2 : w.alloc (.cells (mk L) 24) = W2
  have BE : Hid (Below w.heap.size w W2) := by subst hW2; exact bAlloc (Below.refl _ _) _
  have B1 : Hid (Blk W2 w.heap.size 24 (mk L)) := by subst hW2; exact Blk.new w 24 _
  have C := Hid.mk' (name_any x W2 hx)
  cases hk : nix x with
  | none =>
    rw [hk] at C
    unfold nixI at C
    dsimp only at C ⊢
    clear hk
    go_enter Try.func15, Try.ntmps15
    go_wp2_with (go_at_call 33; refine C.out.mono ?_; rintro e w2 ⟨rfl, hw⟩; have hq := hw.symm; subst hq; clear hw)
    exact bodyPost_ret (v := .tuple #[.int .i64 0, .int .i64 160]) (by simp [results, Try.results15]) rfl ⟨rfl, BE.out⟩
  | some k =>
    have hk27 := nix_lt hk
    rw [hk] at C
    unfold nixI at C
    dsimp only at C ⊢
    obtain ⟨y, hy⟩ : ∃ y, L[k]? = some y := ⟨_, List.getElem?_eq_getElem (by omega)⟩
    have hd : L.getD k 0 = y := by rw [List.getD_eq_getElem?_getD, hy]; rfl
    rw [hd]
    have CA := Hid.mk' (at_any L k y W2 hL hy)
    have hk0 : (0 : Int) ≤ (k : Int) := by omega
    clear hk hy hd
    by_cases h0 : y < 0
    · rw [if_pos h0]
      go_enter Try.func15, Try.ntmps15
      go_wp2_with (first | (go_at_call 33; refine C.out.mono ?_; rintro e w2 ⟨rfl, hw⟩; have hq := hw.symm; subst hq; clear hw hW2) | (refine wl_load24 (B := w.heap.size) (.tmp 2) rfl rfl rfl hL B1.out ?_) | fail)
      refine CA.out.mono ?_
      rintro e w3 ⟨rfl, hb3⟩
      have KB := Hid.mk' (bT BE.out hb3)
      clear hb3 CA C BE B1
      go_wp2
      exact bodyPost_ret (v := .tuple #[.int .i64 0, .int .i64 161]) (by simp [results, Try.results15]) rfl ⟨rfl, KB.out⟩
    · rw [if_neg h0]
      go_enter Try.func15, Try.ntmps15
      go_wp2_with (first | (go_at_call 33; refine C.out.mono ?_; rintro e w2 ⟨rfl, hw⟩; have hq := hw.symm; subst hq; clear hw hW2) | (refine wl_load24 (B := w.heap.size) (.tmp 2) rfl rfl rfl hL B1.out ?_) | fail)
      refine CA.out.mono ?_
      rintro e w3 ⟨rfl, hb3⟩
      have KB := Hid.mk' (bT BE.out hb3)
      clear hb3 CA C BE B1
      go_wp2
      exact bodyPost_ret (v := .tuple #[.int .i64 y, .int .i64 0]) (by simp [results, Try.results15]) rfl ⟨rfl, KB.out⟩
/-- what Set answers -/
def setP (L : List Int) (x : Nat) (a : Int) : List Int × Int := match nix x with
  | none => (zm, 160)
  | some k => if a < 0 then (zm, 2) else (L.set k a, 0)
theorem setP_len (L : List Int) (x : Nat) (a : Int) (hL : L.length = 27) : (setP L x a).1.length = 27 := by
  unfold setP
  split
  · rfl
  · split
    · rfl
    · simpa using hL
def sE (L : List Int) (e : Int) : Ending := .returned (.tuple #[.agg (mk L), .int .i64 e])
set_option maxHeartbeats 2000000 in
theorem set_any (L : List Int) (x : Nat) (a : Int) (w : World) (hL : L.length = 27) (hx : x < 256) :
    Calls Try.prog 14 #[.agg (mk L), .int .u8 (x : Int), .int .i64 a] w fun e w' => e = sE (setP L x a).1 (setP L x a).2 ∧ Below w.heap.size w w' := by
  unfold sE setP
  have hb := b24
  have hz := z24
  generalize hW2 : (w.alloc (.cells (mk L) 24)).alloc (.cells (mk zm) 24) = W2
  have BE : Hid (Below w.heap.size w W2) := by subst hW2; exact bAlloc (bAlloc (Below.refl _ _) _) _
  have B1 : Hid (Blk W2 w.heap.size 24 (mk L)) := by subst hW2; exact (Blk.new w 24 _).keep (bAlloc (Below.refl _ _) _)
  have B2 : Hid (Blk W2 (w.heap.size + 1) 24 (mk zm)) := by
    subst hW2
    have := Blk.new (w.alloc (.cells (mk L) 24)) 24 (mk zm)
    rwa [World.size_alloc] at this
  have C := Hid.mk' (mark_any w.heap.size x W2 hx)
  cases hk : nix x with
  | none =>
    rw [hk, mkp_none] at C
    dsimp only
    clear hk
    go_enter Try.func14, Try.ntmps14
    go_wp2_with (first | (go_at_call 35; refine C.out.mono ?_; rintro e w2 ⟨rfl, hw⟩; have hq := hw.symm; subst hq; clear hw hW2) | refine wl_store24 (B := w.heap.size + 1) (L := zm) (.tmp 6) (.tmp 14) rfl rfl rfl rfl rfl (by rfl) B2.out ?_)
    exact bodyPost_ret (v := .tuple #[.agg (mk zm), .int .i64 160]) (by simp [results, Try.results14, asAddr, ld24 (L := zm) rfl (B2.out.put24 (L := zm) rfl rfl)]) rfl ⟨rfl, below_put24 BE.out (by omega) _⟩
  | some k =>
    have hk27 := nix_lt hk
    rw [hk, mkp_some] at C
    dsimp only
    obtain ⟨y, hy⟩ : ∃ y, L[k]? = some y := ⟨_, List.getElem?_eq_getElem (by omega)⟩
    have c1 : W2.cell? ⟨w.heap.size, k, none⟩ = some (.int .i64 y) := B1.out.mkAt hy
    have f1 := B1.out.frozen k
    clear hk hy
    by_cases h0 : a < 0
    · rw [if_pos h0]
      go_enter Try.func14, Try.ntmps14
      go_wp2_with (first | (go_at_call 35; refine C.out.mono ?_; rintro e w2 ⟨rfl, hw⟩; have hq := hw.symm; subst hq; clear hw hW2) | refine wl_store24 (B := w.heap.size + 1) (L := zm) (.tmp 6) (.tmp 18) rfl rfl rfl rfl rfl (by rfl) B2.out ?_)
      exact bodyPost_ret (v := .tuple #[.agg (mk zm), .int .i64 2]) (by simp [results, Try.results14, asAddr, ld24 (L := zm) rfl (B2.out.put24 (L := zm) rfl rfl)]) rfl ⟨rfl, below_put24 BE.out (by omega) _⟩
    · rw [if_neg h0]
      have I1 : Hid (Blk (W2.setCell ⟨w.heap.size, k, none⟩ (.int .i64 a)) w.heap.size 24 (mk (L.set k a))) := B1.out.mkSet a
      have I2 : Hid (Blk (W2.setCell ⟨w.heap.size, k, none⟩ (.int .i64 a)) (w.heap.size + 1) 24 (mk zm)) := B2.out.off (by omega) _
      have IB : Hid (Below w.heap.size w (W2.setCell ⟨w.heap.size, k, none⟩ (.int .i64 a))) := BE.out.setCell (Nat.le_refl _) _
      have hml : Hid ((L.set k a).length = 27) := by unfold Hid; simpa using hL
      have hlv := Hid.mk' (ld24 hml.out (I2.out.put24 hml.out rfl))
      go_enter Try.func14, Try.ntmps14
      go_upto_region 7 with (first | (go_at_call 35; refine C.out.mono ?_; rintro e w2 ⟨rfl, hw⟩; have hq := hw.symm; subst hq; clear hw hW2) | fail)
      go_wp2_with (first | refine wl_load24 (B := w.heap.size) (.tmp 3) rfl rfl rfl hml.out I1.out ?_ | refine wl_store24 (B := w.heap.size + 1) (.tmp 6) (.tmp 22) rfl rfl rfl rfl hml.out (by rfl) I2.out ?_)
      exact bodyPost_ret (v := .tuple #[.agg (mk (L.set k a)), .int .i64 0]) (by simp [results, Try.results14, asAddr, hlv.out]) rfl ⟨rfl, below_put24 IB.out (by omega) _⟩
set_option maxHeartbeats 2000000 in
theorem rset_any (L : List Int) (x : Nat) (a : Int) (w : World) (hL : L.length = 27) (hx : x < 256) :
    Calls Try.prog 13 #[.agg (mk L), .int .u8 (x : Int), .int .i64 a] w fun e w' => e = sE (setP L x a).1 (setP L x a).2 ∧ Below w.heap.size w w' := by
  unfold sE setP
  have hb := b24
  have hz := z24
  generalize hW2 : (w.alloc (.cells (mk L) 24)).alloc (.cells (mk zm) 24) = W2
  have BE : Hid (Below w.heap.size w W2) := by subst hW2; exact bAlloc (bAlloc (Below.refl _ _) _) _
  have B1 : Hid (Blk W2 w.heap.size 24 (mk L)) := by subst hW2; exact (Blk.new w 24 _).keep (bAlloc (Below.refl _ _) _)
  have B2 : Hid (Blk W2 (w.heap.size + 1) 24 (mk zm)) := by
    subst hW2
    have := Blk.new (w.alloc (.cells (mk L) 24)) 24 (mk zm)
    rwa [World.size_alloc] at this
  have C := Hid.mk' (name_any x W2 hx)
  cases hk : nix x with
  | none =>
    rw [hk] at C
    unfold nixI at C
    dsimp only at C ⊢
    clear hk
    go_enter Try.func13, Try.ntmps13
    go_wp2_with (first | (go_at_call 33; refine C.out.mono ?_; rintro e w2 ⟨rfl, hw⟩; have hq := hw.symm; subst hq; clear hw hW2) | refine wl_store24 (B := w.heap.size + 1) (L := zm) (.tmp 6) (.tmp 13) rfl rfl rfl rfl rfl (by rfl) B2.out ?_)
    exact bodyPost_ret (v := .tuple #[.agg (mk zm), .int .i64 160]) (by simp [results, Try.results13, asAddr, ld24 (L := zm) rfl (B2.out.put24 (L := zm) rfl rfl)]) rfl ⟨rfl, below_put24 BE.out (by omega) _⟩
  | some k =>
    have hk27 := nix_lt hk
    rw [hk] at C
    unfold nixI at C
    dsimp only at C ⊢
    have hk0 : (0 : Int) ≤ (k : Int) := by omega
    clear hk
    by_cases h0 : a < 0
    · rw [if_pos h0]
      go_enter Try.func13, Try.ntmps13
      go_wp2_with (first | (go_at_call 33; refine C.out.mono ?_; rintro e w2 ⟨rfl, hw⟩; have hq := hw.symm; subst hq; clear hw hW2) | refine wl_store24 (B := w.heap.size + 1) (L := zm) (.tmp 6) (.tmp 16) rfl rfl rfl rfl rfl (by rfl) B2.out ?_)
      exact bodyPost_ret (v := .tuple #[.agg (mk zm), .int .i64 2]) (by simp [results, Try.results13, asAddr, ld24 (L := zm) rfl (B2.out.put24 (L := zm) rfl rfl)]) rfl ⟨rfl, below_put24 BE.out (by omega) _⟩
    · rw [if_neg h0]
      have CW := Hid.mk' (with_any L k a W2 hL hk27)
      go_enter Try.func13, Try.ntmps13
      go_upto_region 6 with (first | (go_at_call 33; refine C.out.mono ?_; rintro e w2 ⟨rfl, hw⟩; have hq := hw.symm; subst hq; clear hw hW2) | fail)
      go_wp2_with (first | refine wl_load24 (B := w.heap.size) (.tmp 3) rfl rfl rfl hL B1.out ?_ | fail)
      refine CW.out.mono ?_
      rintro e w3 ⟨rfl, hb3⟩
      have K2 := Hid.mk' (B2.out.keep hb3)
      have KB := Hid.mk' (bT BE.out hb3)
      have hml : Hid ((L.set k a).length = 27) := by unfold Hid; simpa using hL
      have hlv := Hid.mk' (ld24 hml.out (K2.out.put24 hml.out rfl))
      clear hb3 CW C BE B1 B2
      go_wp2_with (refine wl_store24 (B := w.heap.size + 1) (.tmp 6) (.tmp 20) rfl rfl rfl rfl hml.out (by rfl) K2.out ?_)
      exact bodyPost_ret (v := .tuple #[.agg (mk (L.set k a)), .int .i64 0]) (by simp [results, Try.results13, asAddr, hlv.out]) rfl ⟨rfl, below_put24 KB.out (by omega) _⟩
end Go.Proofs.Ytdoheblkhnmmiaa
