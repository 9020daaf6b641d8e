/- bank.Put, refused. -/
import Derived.Test.YtienamngmalkaaaApt
namespace Go.Proofs.Ytienamngmalkaaa
open Go.RowKit

set_option maxRecDepth 8000
def zP : List Ct := List.replicate 37 zc
/-- what a register is given -/
def putD (P : List Ct) (x k : Nat) (c : Ct) : Ct := if grt x && (P.getD k zc).s then ⟨true, (P.getD k zc).l || c.l, bht (P.getD k zc).l c.l (P.getD k zc).t c.t⟩ else ⟨true, c.l, c.t⟩
/-- what Put answers -/
def putP (P : List Ct) (x : Nat) (how : Int) (c : Ct) : List Ct × Int := match rix x with
  | none => (zP, 150)
  | some k => if decide (1 ≤ how ∧ how ≤ 3) = false then (zP, 2) else if 65536 < c.t.length then (zP, 1) else if (c.l && !enl c.t) = true then (zP, 2) else
    if 65536 < (putD P x k c).t.length then (zP, 1) else (((if k = 0 then keepL P how (putD P x k c) else P).set k (putD P x k c)).set 0 (putD P x k c), 0)
def pE (N : List Rg) (e : Int) : Ending := .returned (.tuple #[.agg (bk N), .int .i64 e])
theorem new_zero {w W : World} (h : Below w.heap.size w W) : New w W zb zP := by
  have hr : ∀ (k : Nat) (r : Rw), (rows zb zP)[k]? = some r → r = ⟨5, 1, .slice none 0 0, 0, []⟩ := fun k r hk => by
    unfold rows zb zP at hk
    rw [List.zipWith_replicate] at hk
    have := List.getElem?_replicate (a := rwr zr zc) (n := min 37 37) (i := k)
    rw [this] at hk
    split at hk
    · injection hk with hk; rw [← hk]; rfl
    · cases hk
  refine ⟨rfl, ⟨rfl, fun k r c h1 h2 => ?_⟩, ⟨fun k r hk => ?_, fun i j p q _ h1 h2 => ?_, h⟩⟩
  · have e1 := List.getElem?_replicate (a := zr) (n := 37) (i := k)
    have e2 := List.getElem?_replicate (a := zc) (n := 37) (i := k)
    unfold zb at h1; unfold zP at h2
    rw [e1] at h1; rw [e2] at h2
    split at h1
    · injection h1 with h1; rename_i hk; rw [if_pos hk] at h2; injection h2 with h2; subst h1 h2; exact ⟨rfl, rfl, rfl⟩
    · cases h1
  · rw [hr k r hk]; exact World.ownsRow_nil _ _ _ _
  · rw [hr i p h1]; exact fun g h3 _ => by simp [Value.ownBlock] at h3
/-- the bank, the content and the answer, boxed -/
structure Bx (w W : World) (L : List Rg) (s l : Bool) (a : Option Addr) (n c : Nat) : Prop where
  bel : Below w.heap.size w W
  b0 : Blk W w.heap.size 28 (bk L)
  b1 : Blk W (w.heap.size + 1) 24 #[.bool s, .bool l, .slice a n c]
  b2 : Blk W (w.heap.size + 1 + 1) 28 (bk zb)
theorem Bx.new (w : World) (L : List Rg) (s l : Bool) (a : Option Addr) (n c : Nat) : Bx w (((w.alloc (.cells (bk L) 28)).alloc (.cells #[.bool s, .bool l, .slice a n c] 24)).alloc (.cells (bk zb) 28)) L s l a n c := by
  refine ⟨bAlloc (bAlloc (bAlloc (Below.refl _ _) _) _) _, ((Blk.new w 28 _).keep (bAlloc (Below.refl _ _) _)).keep (bAlloc (Below.refl _ _) _), ?_, ?_⟩
  · have := (Blk.new (w.alloc (.cells (bk L) 28)) 24 #[.bool s, .bool l, .slice a n c]).keep (bAlloc (Below.refl _ _) (.cells (bk zb) 28))
    rwa [World.size_alloc] at this
  · have := Blk.new ((w.alloc (.cells (bk L) 28)).alloc (.cells #[.bool s, .bool l, .slice a n c] 24)) 28 (bk zb)
    rwa [World.size_alloc, World.size_alloc] at this
theorem Bx.keep {w W W' : World} {L : List Rg} {s l : Bool} {a : Option Addr} {n c : Nat} (h : Bx w W L s l a n c) (hb : Below W.heap.size W W') : Bx w W' L s l a n c := ⟨bT h.bel hb, h.b0.keep hb, h.b1.keep hb, h.b2.keep hb⟩
set_option maxHeartbeats 4000000 in
theorem put_name (L : List Rg) (x : Nat) (how : Int) (s l : Bool) (a : Option Addr) (n c : Nat) (w : World) (hx : x < 256) (hk : rix x = none) :
    Calls Try.prog 16 #[.agg (bk L), .int .u8 (x : Int), .int .i64 how, .agg #[.bool s, .bool l, .slice a n c]] w fun e w' => ∃ N, e = .returned (.tuple #[.agg (bk N), .int .i64 150]) ∧ New w w' N zP := by
  have hz := z28
  have hbz := b28
  generalize hW3 : ((w.alloc (.cells (bk L) 28)).alloc (.cells #[.bool s, .bool l, .slice a n c] 24)).alloc (.cells (bk zb) 28) = W3
  have BX : Hid (Bx w W3 L s l a n c) := by subst hW3; exact Bx.new w L s l a n c
  have CR := Hid.mk' (register_any w.heap.size x W3 hx)
  have r0 : W3.cell? ⟨w.heap.size + 1, 0, none⟩ = some (.bool s) := BX.out.b1.cell rfl
  have r1 : W3.cell? ⟨w.heap.size + 1, 1, none⟩ = some (.bool l) := BX.out.b1.cell rfl
  have r2 : W3.cell? ⟨w.heap.size + 1, 2, none⟩ = some (.slice a n c) := BX.out.b1.cell rfl
  rw [hk, rgp_none] at CR
  go_enter Try.func16, Try.ntmps16
  go_wp2_with fail
  refine CR.out.mono ?_
  rintro e w3 ⟨rfl, hw⟩
  have hq := hw.symm
  subst hq
  clear hw CR hW3
  have BP := Hid.mk' (Blk.put28 rfl rfl BX.out.b2 (L := zb))
  have hlv := ld28 rfl BP.out
  have NW := Hid.mk' (new_zero (below_put28 BX.out.bel (show w.heap.size ≤ w.heap.size + 1 + 1 by omega) zb))
  have BZ := Hid.mk' BX.out.b2
  go_wp2_with (refine wl_store28 (.tmp 8) (.tmp 16) rfl rfl rfl rfl rfl rfl BZ.out ?_)
  generalize put28 W3 (w.heap.size + 1 + 1) zb = WP at *
  exact bodyPost_ret (v := .tuple #[.agg (bk zb), .int .i64 150]) (by simp [results, Try.results16, asAddr, hlv]) rfl ⟨_, rfl, NW.out⟩
set_option maxHeartbeats 4000000 in
theorem put_how (L : List Rg) (x : Nat) (how : Int) (s l : Bool) (a : Option Addr) (n c : Nat) (w : World) (hx : x < 256) (k : Nat) (hk : rix x = some k) (hh : decide (1 ≤ how ∧ how ≤ 3) = false) :
    Calls Try.prog 16 #[.agg (bk L), .int .u8 (x : Int), .int .i64 how, .agg #[.bool s, .bool l, .slice a n c]] w fun e w' => ∃ N, e = .returned (.tuple #[.agg (bk N), .int .i64 2]) ∧ New w w' N zP := by
  have hz := z28
  have hbz := b28
  generalize hW3 : ((w.alloc (.cells (bk L) 28)).alloc (.cells #[.bool s, .bool l, .slice a n c] 24)).alloc (.cells (bk zb) 28) = W3
  have BX : Hid (Bx w W3 L s l a n c) := by subst hW3; exact Bx.new w L s l a n c
  have CR := Hid.mk' (register_any w.heap.size x W3 hx)
  have r0 : W3.cell? ⟨w.heap.size + 1, 0, none⟩ = some (.bool s) := BX.out.b1.cell rfl
  have r1 : W3.cell? ⟨w.heap.size + 1, 1, none⟩ = some (.bool l) := BX.out.b1.cell rfl
  have r2 : W3.cell? ⟨w.heap.size + 1, 2, none⟩ = some (.slice a n c) := BX.out.b1.cell rfl
  rw [hk, rgp_some] at CR
  have CH := Hid.mk' (isHow_any how W3)
  rw [hh] at CH
  clear hh
  go_enter Try.func16, Try.ntmps16
  go_wp2_with fail
  refine CR.out.mono ?_
  rintro e w3 ⟨rfl, hw⟩
  have hq := hw.symm
  subst hq
  clear hw CR hW3
  go_wp2_with fail
  refine CH.out.mono ?_
  rintro e w4 ⟨rfl, hw⟩
  have hq := hw.symm
  subst hq
  clear hw CH
  have BP := Hid.mk' (Blk.put28 rfl rfl BX.out.b2 (L := zb))
  have hlv := ld28 rfl BP.out
  have NW := Hid.mk' (new_zero (below_put28 BX.out.bel (show w.heap.size ≤ w.heap.size + 1 + 1 by omega) zb))
  have BZ := Hid.mk' BX.out.b2
  go_wp2_with (refine wl_store28 (.tmp 8) (.tmp 21) rfl rfl rfl rfl rfl rfl BZ.out ?_)
  generalize put28 W3 (w.heap.size + 1 + 1) zb = WP at *
  exact bodyPost_ret (v := .tuple #[.agg (bk zb), .int .i64 2]) (by simp [results, Try.results16, asAddr, hlv]) rfl ⟨_, rfl, NW.out⟩
set_option maxHeartbeats 4000000 in
theorem put_long (L : List Rg) (x : Nat) (how : Int) (s l : Bool) (a : Option Addr) (n c : Nat) (w : World) (hx : x < 256) (k : Nat) (hk : rix x = some k) (hh : decide (1 ≤ how ∧ how ≤ 3) = true) (hn : 65536 < n) :
    Calls Try.prog 16 #[.agg (bk L), .int .u8 (x : Int), .int .i64 how, .agg #[.bool s, .bool l, .slice a n c]] w fun e w' => ∃ N, e = .returned (.tuple #[.agg (bk N), .int .i64 1]) ∧ New w w' N zP := by
  have hz := z28
  have hbz := b28
  generalize hW3 : ((w.alloc (.cells (bk L) 28)).alloc (.cells #[.bool s, .bool l, .slice a n c] 24)).alloc (.cells (bk zb) 28) = W3
  have BX : Hid (Bx w W3 L s l a n c) := by subst hW3; exact Bx.new w L s l a n c
  have CR := Hid.mk' (register_any w.heap.size x W3 hx)
  have r0 : W3.cell? ⟨w.heap.size + 1, 0, none⟩ = some (.bool s) := BX.out.b1.cell rfl
  have r1 : W3.cell? ⟨w.heap.size + 1, 1, none⟩ = some (.bool l) := BX.out.b1.cell rfl
  have r2 : W3.cell? ⟨w.heap.size + 1, 2, none⟩ = some (.slice a n c) := BX.out.b1.cell rfl
  rw [hk, rgp_some] at CR
  have CH := Hid.mk' (isHow_any how W3)
  rw [hh] at CH
  clear hh
  have hn' : (65536 : Int) < (n : Int) := by omega
  go_enter Try.func16, Try.ntmps16
  go_wp2_with fail
  refine CR.out.mono ?_
  rintro e w3 ⟨rfl, hw⟩
  have hq := hw.symm
  subst hq
  clear hw CR hW3
  go_wp2_with fail
  refine CH.out.mono ?_
  rintro e w4 ⟨rfl, hw⟩
  have hq := hw.symm
  subst hq
  clear hw CH
  have BP := Hid.mk' (Blk.put28 rfl rfl BX.out.b2 (L := zb))
  have hlv := ld28 rfl BP.out
  have NW := Hid.mk' (new_zero (below_put28 BX.out.bel (show w.heap.size ≤ w.heap.size + 1 + 1 by omega) zb))
  have BZ := Hid.mk' BX.out.b2
  go_wp2_with (refine wl_store28 (.tmp 8) (.tmp 27) rfl rfl rfl rfl rfl rfl BZ.out ?_)
  generalize put28 W3 (w.heap.size + 1 + 1) zb = WP at *
  exact bodyPost_ret (v := .tuple #[.agg (bk zb), .int .i64 1]) (by simp [results, Try.results16, asAddr, hlv]) rfl ⟨_, rfl, NW.out⟩
set_option maxHeartbeats 4000000 in
theorem put_line (L : List Rg) (x : Nat) (how : Int) (s l : Bool) (a : Option Addr) (n c : Nat) (w : World) (hx : x < 256) (k : Nat) (t : List UInt8) (HT : Hid (Tx w a n c t)) (hk : rix x = some k) (hh : decide (1 ≤ how ∧ how ≤ 3) = true) (hn : n ≤ 65536) (hl : l = true) (he : enl t = false) :
    Calls Try.prog 16 #[.agg (bk L), .int .u8 (x : Int), .int .i64 how, .agg #[.bool s, .bool l, .slice a n c]] w fun e w' => ∃ N, e = .returned (.tuple #[.agg (bk N), .int .i64 2]) ∧ New w w' N zP := by
  subst hl
  have hz := z28
  have hbz := b28
  generalize hW3 : ((w.alloc (.cells (bk L) 28)).alloc (.cells #[.bool s, .bool true, .slice a n c] 24)).alloc (.cells (bk zb) 28) = W3
  have BX : Hid (Bx w W3 L s true a n c) := by subst hW3; exact Bx.new w L s true a n c
  have CR := Hid.mk' (register_any w.heap.size x W3 hx)
  have r0 : W3.cell? ⟨w.heap.size + 1, 0, none⟩ = some (.bool s) := BX.out.b1.cell rfl
  have r1 : W3.cell? ⟨w.heap.size + 1, 1, none⟩ = some (.bool true) := BX.out.b1.cell rfl
  have r2 : W3.cell? ⟨w.heap.size + 1, 2, none⟩ = some (.slice a n c) := BX.out.b1.cell rfl
  rw [hk, rgp_some] at CR
  have CH := Hid.mk' (isHow_any how W3)
  rw [hh] at CH
  clear hh
  have hn' : ¬ (65536 : Int) < (n : Int) := by omega
  have CE := Hid.mk' (endsLine_any a n c t W3 (HT.out.keep BX.out.bel))
  rw [he] at CE
  go_enter Try.func16, Try.ntmps16
  go_wp2_with fail
  refine CR.out.mono ?_
  rintro e w3 ⟨rfl, hw⟩
  have hq := hw.symm
  subst hq
  clear hw CR hW3
  go_wp2_with fail
  refine CH.out.mono ?_
  rintro e w4 ⟨rfl, hw⟩
  have hq := hw.symm
  subst hq
  clear hw CH
  go_wp2_with fail
  refine CE.out.mono ?_
  rintro e w5 ⟨rfl, hb5⟩
  have BY := Hid.mk' (BX.out.keep hb5)
  clear hb5 CE BX r0 r1 r2
  have BP := Hid.mk' (Blk.put28 rfl rfl BY.out.b2 (L := zb))
  have hlv := ld28 rfl BP.out
  have NW := Hid.mk' (new_zero (below_put28 BY.out.bel (show w.heap.size ≤ w.heap.size + 1 + 1 by omega) zb))
  have BZ := Hid.mk' BY.out.b2
  go_wp2_with (refine wl_store28 (.tmp 8) (.tmp 37) rfl rfl rfl rfl rfl rfl BZ.out ?_)
  generalize put28 w5 (w.heap.size + 1 + 1) zb = WP at *
  exact bodyPost_ret (v := .tuple #[.agg (bk zb), .int .i64 2]) (by simp [results, Try.results16, asAddr, hlv]) rfl ⟨_, rfl, NW.out⟩
end Go.Proofs.Ytienamngmalkaaa
