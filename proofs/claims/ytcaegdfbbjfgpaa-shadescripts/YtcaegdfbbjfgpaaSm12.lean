/- The law's made: Build, Join, Split. -/
import Derived.Test.YtcaegdfbbjfgpaaSm11
import Derived.OneCell
namespace Go.Proofs.Ytcaegdfbbjfgpaa
open Go.RowKit

theorem Ow.put {W : World} {B : Nat} {p : Option Addr} {l : Value} {T : Tr} (h : Ow W l T) (hk : Blk W B 26 #[.pointer p]) (y : Value) : Ow (W.setCell ⟨B, 0, none⟩ y) l T := by
  have hne := h.ne hk (by decide)
  obtain ⟨base, h⟩ := h
  exact ⟨base, ownsRow_setCell_other h hne y⟩

set_option maxRecDepth 100000 in
set_option maxHeartbeats 8000000 in
theorem made_join (kd sa sb sat ps po pl pn : Int) (lo : Value) (a b : Option Addr) (xv yv : Value) (T : Tr) (w : World) (hkd : -9223372036854775808 ≤ kd ∧ kd ≤ 9223372036854775807) (hpk : Hid (pk kd 6 = 1))
    (HA : Hid (∀ W, Below w.heap.size w W → Calls Try.prog 26 #[.agg #[.pointer a], .agg #[.int .i64 ps, .int .i64 po, .int .i64 pl, .int .i64 pn], .agg #[.pointer b]] W fun e w' => ∃ x, e = .returned (.agg #[.pointer x]) ∧ At w' T x ∧ Below W.heap.size W w'))
    (HR : Hid (∀ W, Below w.heap.size w W → Calls Try.prog 39 #[xv, .agg #[.int .i64 ps, .int .i64 po, .int .i64 pl, .int .i64 pn], yv] W fun e w' => ∃ l, e = .returned l ∧ Ow w' l T ∧ Below W.heap.size W w')) :
    Calls Try.prog 11 #[.agg #[.int .i64 kd, .int .i64 sa, .int .i64 sb, .int .i64 sat, .int .i64 ps, .int .i64 po, .int .i64 pl, .int .i64 pn, lo], .agg #[.pointer a], .agg #[.pointer b], xv, yv] w fun e w' => Md1 w T 0 e w' := by
  go_enter Try.func11, Try.ntmps11
  go_upto_region 5 with fail
  have M5 := Hid.mk' (Mb.new w kd sa sb sat ps po pl pn lo a b)
  have B5 := Hid.mk' (bAlloc (bAlloc (bAlloc (bAlloc (bAlloc (Below.refl w.heap.size w) (.cells #[.int .i64 kd, .int .i64 sa, .int .i64 sb, .int .i64 sat, .int .i64 ps, .int .i64 po, .int .i64 pl, .int .i64 pn, lo] 35)) (.cells #[.pointer a] 26)) (.cells #[.pointer b] 26)) (.cells #[.pointer none] 26)) (.cells #[.pointer none] 26))
  generalize hV : ((((w.alloc (.cells #[.int .i64 kd, .int .i64 sa, .int .i64 sb, .int .i64 sat, .int .i64 ps, .int .i64 po, .int .i64 pl, .int .i64 pn, lo] 35)).alloc (.cells #[.pointer a] 26)).alloc (.cells #[.pointer b] 26)).alloc (.cells #[.pointer none] 26)).alloc (.cells #[.pointer none] 26) = V at *
  clear hV
  obtain ⟨q, hq⟩ : ∃ q, q = w.heap.size := ⟨_, rfl⟩
  rw [← hq] at M5 ⊢
  have HQ := Hid.mk' hq
  clear hq
  obtain ⟨c0, c3, c4, c5, c6, c7, c8, d1, d2, d3, d4⟩ := M5.out.cells
  have DP : Hid (Calls Try.prog 10 #[.int .i64 kd, .int .i64 6] V fun e w' => e = .returned (.int .i64 1) ∧ w' = V) := by
    have := place_pk kd 6 V hkd.1 hkd.2 (by omega) (by omega)
    rw [hpk.out] at this
    exact this
  go_wp2_with fail
  refine DP.out.mono ?_
  rintro e w' ⟨rfl, hw⟩
  have hw' := hw.symm
  clear hw
  subst hw'
  clear DP
  go_upto_region 11 with fail
  have HC := Hid.mk' (fun W (hW : Below V.heap.size V W) => (M5.out.keep hW).cells)
  have FZ := Hid.mk' (fun W (hW : Below V.heap.size V W) => (M5.out.keep hW).k3.frozen)
  have fz := FZ.out V (Below.refl _ _)
  go_region_held3 (fun w' => w'.cell? ⟨q, 4, none⟩ = some (.int .i64 ps) ∧ w'.cell? ⟨q, 5, none⟩ = some (.int .i64 po) ∧ w'.cell? ⟨q, 6, none⟩ = some (.int .i64 pl) ∧ w'.cell? ⟨q, 7, none⟩ = some (.int .i64 pn) ∧ w'.cell? ⟨q + 1, 0, none⟩ = some (.pointer a) ∧ w'.cell? ⟨q + 1 + 1, 0, none⟩ = some (.pointer b)) (first | assumption | simp [*, go_sem])
    (first | (go_at_call 26; refine (HA.out _ B5.out.drew).mono ?_; rintro e w6 ⟨x, rfl, hat, hb6⟩; (have N6 := Hid.mk' (bD hb6)); (have B6 := Hid.mk' (bT B5.out N6.out)); (have A6 := Hid.mk' hat); clear hat hb6 c0 c3 c4 c5 c6 c7 c8 d1 d2 d3 d4 fz; (obtain ⟨c0, c3, c4, c5, c6, c7, c8, d1, d2, d3, d4⟩ := HC.out _ N6.out); (have fz := FZ.out _ N6.out))
           | (go_at_call 39; refine (HR.out _ B6.out).mono ?_; rintro e w7 ⟨l, rfl, hrd, hb7⟩; (have N7 := Hid.mk' (bT N6.out hb7)); (have B7 := Hid.mk' (bT B6.out hb7)); (have A7 := Hid.mk' (A6.out.keep hb7)); (have R7 := Hid.mk' hrd); clear hrd hb7 c0 c3 c4 c5 c6 c7 c8 d1 d2 d3 d4 fz; (obtain ⟨c0, c3, c4, c5, c6, c7, c8, d1, d2, d3, d4⟩ := HC.out _ N7.out); (have fz := FZ.out _ N7.out)))
  have M7 := Hid.mk' (M5.out.keep N7.out)
  have MS := Hid.mk' (M7.out.put3 x)
  have BS := Hid.mk' (B7.out.setCell (p := ⟨q + 1 + 1 + 1, 0, none⟩) (by have := HQ.out; simp; omega) (.pointer x))
  have AS := Hid.mk' (A7.out.put (i := 0) (v := .pointer x) M7.out.k3 (by decide))
  have RS := Hid.mk' (R7.out.put M7.out.k3 (.pointer x))
  generalize hS : w7.setCell ⟨q + 1 + 1 + 1, 0, none⟩ (.pointer x) = S at *
  clear hS c0 c3 c4 c5 c6 c7 c8 d1 d2 d3 d4 fz HC FZ HA HR
  obtain ⟨la, ln, lc, rfl, -, -, -⟩ := RS.out.rdr
  have zz := Hid.mk' BS.out.size
  obtain ⟨-, -, -, -, -, -, -, -, -, e3, -⟩ := MS.out.cells
  go_wp2
  refine bodyPost_ret (v := .tuple #[.slice (some ⟨S.heap.size, 0, none⟩) 1 1, .slice (some ⟨S.heap.size + 1, 0, none⟩) 1 1, .int .i64 0, .int .i64 0]) (by simp [results, Try.results11, go_sem]) rfl ⟨_, _, x, _, rfl, by simp [go_sem], by simp [go_sem], AS.out.keep (bAlloc (bAlloc (Below.refl _ _) _) _), RS.out.keep (bAlloc (bAlloc (Below.refl _ _) _) _), ⟨zz.out, by have := zz.out; omega⟩, bAlloc (bAlloc BS.out _) _⟩

set_option maxRecDepth 100000 in
set_option maxHeartbeats 8000000 in
theorem made_build (kd sa sb sat ps po pl pn : Int) (lo : Value) (a b : Option Addr) (xv yv : Value) (T : Tr) (w : World) (hkd : -9223372036854775808 ≤ kd ∧ kd ≤ 9223372036854775807) (hpk : Hid (pk kd 6 = 0))
    (HA : Hid (∀ W, Below w.heap.size w W → Calls Try.prog 14 #[lo] W fun e w' => ∃ x, e = .returned (.agg #[.pointer x]) ∧ At w' T x ∧ Below W.heap.size W w'))
    (HR : Hid (∀ W, Below w.heap.size w W → Calls Try.prog 15 #[lo] W fun e w' => ∃ l, e = .returned l ∧ Ow w' l T ∧ Below W.heap.size W w')) :
    Calls Try.prog 11 #[.agg #[.int .i64 kd, .int .i64 sa, .int .i64 sb, .int .i64 sat, .int .i64 ps, .int .i64 po, .int .i64 pl, .int .i64 pn, lo], .agg #[.pointer a], .agg #[.pointer b], xv, yv] w fun e w' => Md1 w T 0 e w' := by
  go_enter Try.func11, Try.ntmps11
  go_upto_region 5 with fail
  have M5 := Hid.mk' (Mb.new w kd sa sb sat ps po pl pn lo a b)
  have B5 := Hid.mk' (bAlloc (bAlloc (bAlloc (bAlloc (bAlloc (Below.refl w.heap.size w) (.cells #[.int .i64 kd, .int .i64 sa, .int .i64 sb, .int .i64 sat, .int .i64 ps, .int .i64 po, .int .i64 pl, .int .i64 pn, lo] 35)) (.cells #[.pointer a] 26)) (.cells #[.pointer b] 26)) (.cells #[.pointer none] 26)) (.cells #[.pointer none] 26))
  generalize hV : ((((w.alloc (.cells #[.int .i64 kd, .int .i64 sa, .int .i64 sb, .int .i64 sat, .int .i64 ps, .int .i64 po, .int .i64 pl, .int .i64 pn, lo] 35)).alloc (.cells #[.pointer a] 26)).alloc (.cells #[.pointer b] 26)).alloc (.cells #[.pointer none] 26)).alloc (.cells #[.pointer none] 26) = V at *
  clear hV
  obtain ⟨q, hq⟩ : ∃ q, q = w.heap.size := ⟨_, rfl⟩
  rw [← hq] at M5 ⊢
  have HQ := Hid.mk' hq
  clear hq
  obtain ⟨c0, c3, c4, c5, c6, c7, c8, d1, d2, d3, d4⟩ := M5.out.cells
  have DP : Hid (Calls Try.prog 10 #[.int .i64 kd, .int .i64 6] V fun e w' => e = .returned (.int .i64 0) ∧ w' = V) := by
    have := place_pk kd 6 V hkd.1 hkd.2 (by omega) (by omega)
    rw [hpk.out] at this
    exact this
  go_wp2_with fail
  refine DP.out.mono ?_
  rintro e w' ⟨rfl, hw⟩
  have hw' := hw.symm
  clear hw
  subst hw'
  clear DP
  go_upto_region 9 with fail
  have HC := Hid.mk' (fun W (hW : Below V.heap.size V W) => (M5.out.keep hW).cells)
  have FZ := Hid.mk' (fun W (hW : Below V.heap.size V W) => (M5.out.keep hW).k3.frozen)
  have fz := FZ.out V (Below.refl _ _)
  go_region_held3 (fun w' => w'.cell? ⟨q, 8, none⟩ = some lo) (first | assumption | simp [*, go_sem])
    (first | (go_at_call 14; refine (HA.out _ B5.out.drew).mono ?_; rintro e w6 ⟨x, rfl, hat, hb6⟩; (have N6 := Hid.mk' (bD hb6)); (have B6 := Hid.mk' (bT B5.out N6.out)); (have A6 := Hid.mk' hat); clear hat hb6 c0 c3 c4 c5 c6 c7 c8 d1 d2 d3 d4 fz; (obtain ⟨c0, c3, c4, c5, c6, c7, c8, d1, d2, d3, d4⟩ := HC.out _ N6.out); (have fz := FZ.out _ N6.out))
           | (go_at_call 15; refine (HR.out _ B6.out).mono ?_; rintro e w7 ⟨l, rfl, hrd, hb7⟩; (have N7 := Hid.mk' (bT N6.out hb7)); (have B7 := Hid.mk' (bT B6.out hb7)); (have A7 := Hid.mk' (A6.out.keep hb7)); (have R7 := Hid.mk' hrd); clear hrd hb7 c0 c3 c4 c5 c6 c7 c8 d1 d2 d3 d4 fz; (obtain ⟨c0, c3, c4, c5, c6, c7, c8, d1, d2, d3, d4⟩ := HC.out _ N7.out); (have fz := FZ.out _ N7.out)))
  have M7 := Hid.mk' (M5.out.keep N7.out)
  have MS := Hid.mk' (M7.out.put3 x)
  have BS := Hid.mk' (B7.out.setCell (p := ⟨q + 1 + 1 + 1, 0, none⟩) (by have := HQ.out; simp; omega) (.pointer x))
  have AS := Hid.mk' (A7.out.put (i := 0) (v := .pointer x) M7.out.k3 (by decide))
  have RS := Hid.mk' (R7.out.put M7.out.k3 (.pointer x))
  generalize hS : w7.setCell ⟨q + 1 + 1 + 1, 0, none⟩ (.pointer x) = S at *
  clear hS c0 c3 c4 c5 c6 c7 c8 d1 d2 d3 d4 fz HC FZ HA HR
  obtain ⟨la, ln, lc, rfl, -, -, -⟩ := RS.out.rdr
  have zz := Hid.mk' BS.out.size
  obtain ⟨-, -, -, -, -, -, -, -, -, e3, -⟩ := MS.out.cells
  go_wp2
  refine bodyPost_ret (v := .tuple #[.slice (some ⟨S.heap.size, 0, none⟩) 1 1, .slice (some ⟨S.heap.size + 1, 0, none⟩) 1 1, .int .i64 0, .int .i64 0]) (by simp [results, Try.results11, go_sem]) rfl ⟨_, _, x, _, rfl, by simp [go_sem], by simp [go_sem], AS.out.keep (bAlloc (bAlloc (Below.refl _ _) _) _), RS.out.keep (bAlloc (bAlloc (Below.refl _ _) _) _), ⟨zz.out, by have := zz.out; omega⟩, bAlloc (bAlloc BS.out _) _⟩

/-- what made gives, two trees -/
def Md2 (w : World) (T U : Tr) (f : Int) (e : Ending) (w' : World) : Prop := ∃ g1 g2 x y l m, e = .returned (.tuple #[.slice (some ⟨g1, 0, none⟩) 2 2, .slice (some ⟨g2, 0, none⟩) 2 2, .int .i64 f, .int .i64 f]) ∧ (w'.cell? ⟨g1, 0, none⟩ = some (.pointer x) ∧ w'.cell? ⟨g2, 0, none⟩ = some l ∧ At w' T x ∧ Ow w' l T) ∧ (w'.cell? ⟨g1, 1, none⟩ = some (.pointer y) ∧ w'.cell? ⟨g2, 1, none⟩ = some m ∧ At w' U y ∧ Ow w' m U) ∧ (w.heap.size ≤ g1 ∧ w.heap.size ≤ g2) ∧ Below w.heap.size w w'
set_option maxRecDepth 100000 in
set_option maxHeartbeats 8000000 in
theorem made_split (kd sa sb sat ps po pl pn : Int) (lo : Value) (a b : Option Addr) (xv yv : Value) (T U : Tr) (f : Int) (w : World) (hkd : -9223372036854775808 ≤ kd ∧ kd ≤ 9223372036854775807) (hpk : Hid (pk kd 6 = 2))
    (HA : Hid (∀ W, Below w.heap.size w W → Calls Try.prog 28 #[.agg #[.pointer a], .int .i64 sat] W fun e w' => ∃ x y, e = .returned (.tuple #[.agg #[.pointer x], .agg #[.pointer y], .int .i64 f]) ∧ At w' T x ∧ At w' U y ∧ Below W.heap.size W w'))
    (HR : Hid (∀ W, Below w.heap.size w W → Calls Try.prog 40 #[xv, .int .i64 sat] W fun e w' => ∃ l m, e = .returned (.tuple #[l, m, .int .i64 f]) ∧ Ow w' l T ∧ Ow w' m U ∧ Below W.heap.size W w')) :
    Calls Try.prog 11 #[.agg #[.int .i64 kd, .int .i64 sa, .int .i64 sb, .int .i64 sat, .int .i64 ps, .int .i64 po, .int .i64 pl, .int .i64 pn, lo], .agg #[.pointer a], .agg #[.pointer b], xv, yv] w fun e w' => Md2 w T U f e w' := by
  go_enter Try.func11, Try.ntmps11
  go_upto_region 5 with fail
  have M5 := Hid.mk' (Mb.new w kd sa sb sat ps po pl pn lo a b)
  have B5 := Hid.mk' (bAlloc (bAlloc (bAlloc (bAlloc (bAlloc (Below.refl w.heap.size w) (.cells #[.int .i64 kd, .int .i64 sa, .int .i64 sb, .int .i64 sat, .int .i64 ps, .int .i64 po, .int .i64 pl, .int .i64 pn, lo] 35)) (.cells #[.pointer a] 26)) (.cells #[.pointer b] 26)) (.cells #[.pointer none] 26)) (.cells #[.pointer none] 26))
  generalize hV : ((((w.alloc (.cells #[.int .i64 kd, .int .i64 sa, .int .i64 sb, .int .i64 sat, .int .i64 ps, .int .i64 po, .int .i64 pl, .int .i64 pn, lo] 35)).alloc (.cells #[.pointer a] 26)).alloc (.cells #[.pointer b] 26)).alloc (.cells #[.pointer none] 26)).alloc (.cells #[.pointer none] 26) = V at *
  clear hV
  obtain ⟨q, hq⟩ : ∃ q, q = w.heap.size := ⟨_, rfl⟩
  rw [← hq] at M5 ⊢
  have HQ := Hid.mk' hq
  clear hq
  obtain ⟨c0, c3, c4, c5, c6, c7, c8, d1, d2, d3, d4⟩ := M5.out.cells
  have DP : Hid (Calls Try.prog 10 #[.int .i64 kd, .int .i64 6] V fun e w' => e = .returned (.int .i64 2) ∧ w' = V) := by
    have := place_pk kd 6 V hkd.1 hkd.2 (by omega) (by omega)
    rw [hpk.out] at this
    exact this
  go_wp2_with fail
  refine DP.out.mono ?_
  rintro e w' ⟨rfl, hw⟩
  have hw' := hw.symm
  clear hw
  subst hw'
  clear DP
  go_wp2_with fail
  refine (HA.out V B5.out).mono ?_
  rintro e w6 ⟨x, y, rfl, hat, hau, hb6⟩
  have M6 := Hid.mk' (M5.out.keep hb6)
  have B6 := Hid.mk' (bT B5.out hb6)
  have A6 := Hid.mk' hat
  have U6 := Hid.mk' hau
  clear hat hau hb6 c0 c3 c4 c5 c6 c7 c8 d1 d2 d3 d4 HA
  obtain ⟨-, -, -, -, -, -, -, -, -, e3, e4⟩ := M6.out.cells
  have fz3 := M6.out.k3.frozen
  have fz4 := M6.out.k4.frozen
  have MM := Hid.mk' (M6.out.put3 x)
  obtain ⟨-, -, -, -, -, -, -, -, -, e5, e6⟩ := MM.out.cells
  have fz5 := MM.out.k4.frozen
  go_upto_region 14 with fail
  have MS := Hid.mk' (MM.out.put4 y)
  have BS := Hid.mk' ((B6.out.setCell (p := ⟨q + 1 + 1 + 1, 0, none⟩) (by have := HQ.out; simp; omega) (.pointer x)).setCell (p := ⟨q + 1 + 1 + 1 + 1, 0, none⟩) (by have := HQ.out; simp; omega) (.pointer y))
  have AS := Hid.mk' ((A6.out.put (i := 0) (v := .pointer x) M6.out.k3 (by decide)).put (i := 0) (v := .pointer y) MM.out.k4 (by decide))
  have US := Hid.mk' ((U6.out.put (i := 0) (v := .pointer x) M6.out.k3 (by decide)).put (i := 0) (v := .pointer y) MM.out.k4 (by decide))
  generalize hS : (w6.setCell ⟨q + 1 + 1 + 1, 0, none⟩ (.pointer x)).setCell ⟨q + 1 + 1 + 1 + 1, 0, none⟩ (.pointer y) = S at *
  clear hS e3 e4 e5 e6 fz3 fz4 fz5 A6 M6 B6 U6 MM
  obtain ⟨c0, c3, c4, c5, c6, c7, c8, d1, d2, d3, d4⟩ := MS.out.cells
  go_wp2_with fail
  refine (HR.out S BS.out).mono ?_
  rintro e w7 ⟨l, m, rfl, hrd, hrm, hb7⟩
  have M7 := Hid.mk' (MS.out.keep hb7)
  have B7 := Hid.mk' (bT BS.out hb7)
  have A7 := Hid.mk' (AS.out.keep hb7)
  have U7 := Hid.mk' (US.out.keep hb7)
  have R7 := Hid.mk' hrd
  have Q7 := Hid.mk' hrm
  clear hrd hrm hb7 c0 c3 c4 c5 c6 c7 c8 d1 d2 d3 d4 HR
  obtain ⟨la, ln, lc, rfl, -, -, -⟩ := R7.out.rdr
  obtain ⟨ma, mn, mc, rfl, -, -, -⟩ := Q7.out.rdr
  have zz := Hid.mk' B7.out.size
  obtain ⟨-, -, -, -, -, -, -, -, -, e3, e4⟩ := M7.out.cells
  go_wp2
  exact bodyPost_ret (v := .tuple #[.slice (some ⟨w7.heap.size, 0, none⟩) 2 2, .slice (some ⟨w7.heap.size + 1, 0, none⟩) 2 2, .int .i64 f, .int .i64 f]) (by simp [results, Try.results11, go_sem]) rfl ⟨_, _, x, y, _, _, rfl, ⟨by simp [go_sem], by simp [go_sem], A7.out.keep (bAlloc (bAlloc (Below.refl _ _) _) _), R7.out.keep (bAlloc (bAlloc (Below.refl _ _) _) _)⟩, ⟨by simp [go_sem], by simp [go_sem], U7.out.keep (bAlloc (bAlloc (Below.refl _ _) _) _), Q7.out.keep (bAlloc (bAlloc (Below.refl _ _) _) _)⟩, ⟨zz.out, by have := zz.out; omega⟩, bAlloc (bAlloc B7.out _) _⟩
end Go.Proofs.Ytcaegdfbbjfgpaa
