/- The law's made, where one tree is made by a call of the program and a call of the reference. -/
import Derived.Test.YtcaegdfbbjfgpaaSm00
import Derived.Test.YtcaegdfbbjfgpaaSm08
import Derived.Test.YtcaegdfbbjfgpaaSm10
namespace Go.Proofs.Ytcaegdfbbjfgpaa
open Go.RowKit

/-- made's own blocks -/
structure Mb (W : World) (q : Nat) (kd sa sb sat ps po pl pn : Int) (lo : Value) (a b t u : Option Addr) : Prop where
  k0 : Blk W q 35 #[.int .i64 kd, .int .i64 sa, .int .i64 sb, .int .i64 sat, .int .i64 ps, .int .i64 po, .int .i64 pl, .int .i64 pn, lo]
  k1 : Blk W (q + 1) 26 #[.pointer a]
  k2 : Blk W (q + 1 + 1) 26 #[.pointer b]
  k3 : Blk W (q + 1 + 1 + 1) 26 #[.pointer t]
  k4 : Blk W (q + 1 + 1 + 1 + 1) 26 #[.pointer u]
theorem Mb.keep {W W' : World} {q : Nat} {kd sa sb sat ps po pl pn : Int} {lo : Value} {a b t u : Option Addr} (h : Mb W q kd sa sb sat ps po pl pn lo a b t u) (hb : Below W.heap.size W W') : Mb W' q kd sa sb sat ps po pl pn lo a b t u := ⟨h.k0.keep hb, h.k1.keep hb, h.k2.keep hb, h.k3.keep hb, h.k4.keep hb⟩
/-- the cells -/
theorem Mb.cells {W : World} {q : Nat} {kd sa sb sat ps po pl pn : Int} {lo : Value} {a b t u : Option Addr} (h : Mb W q kd sa sb sat ps po pl pn lo a b t u) :
    W.cell? ⟨q, 0, none⟩ = some (.int .i64 kd) ∧ W.cell? ⟨q, 3, none⟩ = some (.int .i64 sat) ∧ W.cell? ⟨q, 4, none⟩ = some (.int .i64 ps) ∧ W.cell? ⟨q, 5, none⟩ = some (.int .i64 po) ∧ W.cell? ⟨q, 6, none⟩ = some (.int .i64 pl) ∧ W.cell? ⟨q, 7, none⟩ = some (.int .i64 pn) ∧ W.cell? ⟨q, 8, none⟩ = some lo ∧ W.cell? ⟨q + 1, 0, none⟩ = some (.pointer a) ∧ W.cell? ⟨q + 1 + 1, 0, none⟩ = some (.pointer b) ∧ W.cell? ⟨q + 1 + 1 + 1, 0, none⟩ = some (.pointer t) ∧ W.cell? ⟨q + 1 + 1 + 1 + 1, 0, none⟩ = some (.pointer u) :=
  ⟨h.k0.cell rfl, h.k0.cell rfl, h.k0.cell rfl, h.k0.cell rfl, h.k0.cell rfl, h.k0.cell rfl, h.k0.cell rfl, h.k1.cell rfl, h.k2.cell rfl, h.k3.cell rfl, h.k4.cell rfl⟩
theorem Blk.put1 {W : World} {B e : Nat} {x : Value} (h : Blk W B e #[x]) (y : Value) : Blk (W.setCell ⟨B, 0, none⟩ y) B e #[y] := by
  exact heap_setCell_same _ _ _ _ _ _ h
theorem Blk.far1 {W : World} {B B' e : Nat} {cs : Array Value} (h : Blk W B' e cs) (hne : B' ≠ B) (y : Value) : Blk (W.setCell ⟨B, 0, none⟩ y) B' e cs := by
  unfold Blk at *
  rw [Below.heap_setCell _ _ _ _ hne]
  exact h
theorem Mb.put3 {W : World} {q : Nat} {kd sa sb sat ps po pl pn : Int} {lo : Value} {a b t u : Option Addr} (h : Mb W q kd sa sb sat ps po pl pn lo a b t u) (x : Option Addr) : Mb (W.setCell ⟨q + 1 + 1 + 1, 0, none⟩ (.pointer x)) q kd sa sb sat ps po pl pn lo a b x u :=
  ⟨h.k0.far1 (by omega) _, h.k1.far1 (by omega) _, h.k2.far1 (by omega) _, h.k3.put1 _, h.k4.far1 (by omega) _⟩
theorem Mb.put4 {W : World} {q : Nat} {kd sa sb sat ps po pl pn : Int} {lo : Value} {a b t u : Option Addr} (h : Mb W q kd sa sb sat ps po pl pn lo a b t u) (x : Option Addr) : Mb (W.setCell ⟨q + 1 + 1 + 1 + 1, 0, none⟩ (.pointer x)) q kd sa sb sat ps po pl pn lo a b t x :=
  ⟨h.k0.far1 (by omega) _, h.k1.far1 (by omega) _, h.k2.far1 (by omega) _, h.k3.far1 (by omega) _, h.k4.put1 _⟩
theorem Mb.new (w : World) (kd sa sb sat ps po pl pn : Int) (lo : Value) (a b : Option Addr) : Mb (((((w.alloc (.cells #[.int .i64 kd, .int .i64 sa, .int .i64 sb, .int .i64 sat, .int .i64 ps, .int .i64 po, .int .i64 pl, .int .i64 pn, lo] 35)).alloc (.cells #[.pointer a] 26)).alloc (.cells #[.pointer b] 26)).alloc (.cells #[.pointer none] 26)).alloc (.cells #[.pointer none] 26)) w.heap.size kd sa sb sat ps po pl pn lo a b none none := by
  have h0 := Blk.new w 35 #[.int .i64 kd, .int .i64 sa, .int .i64 sb, .int .i64 sat, .int .i64 ps, .int .i64 po, .int .i64 pl, .int .i64 pn, lo]
  have h1 := Blk.new (w.alloc (.cells #[.int .i64 kd, .int .i64 sa, .int .i64 sb, .int .i64 sat, .int .i64 ps, .int .i64 po, .int .i64 pl, .int .i64 pn, lo] 35)) 26 #[.pointer a]
  have h2 := Blk.new ((w.alloc (.cells #[.int .i64 kd, .int .i64 sa, .int .i64 sb, .int .i64 sat, .int .i64 ps, .int .i64 po, .int .i64 pl, .int .i64 pn, lo] 35)).alloc (.cells #[.pointer a] 26)) 26 #[.pointer b]
  have h3 := Blk.new (((w.alloc (.cells #[.int .i64 kd, .int .i64 sa, .int .i64 sb, .int .i64 sat, .int .i64 ps, .int .i64 po, .int .i64 pl, .int .i64 pn, lo] 35)).alloc (.cells #[.pointer a] 26)).alloc (.cells #[.pointer b] 26)) 26 #[.pointer none]
  have h4 := Blk.new ((((w.alloc (.cells #[.int .i64 kd, .int .i64 sa, .int .i64 sb, .int .i64 sat, .int .i64 ps, .int .i64 po, .int .i64 pl, .int .i64 pn, lo] 35)).alloc (.cells #[.pointer a] 26)).alloc (.cells #[.pointer b] 26)).alloc (.cells #[.pointer none] 26)) 26 #[.pointer none]
  simp only [World.size_alloc] at h1 h2 h3 h4
  exact ⟨(((h0.alloc _).alloc _).alloc _).alloc _, ((h1.alloc _).alloc _).alloc _, (h2.alloc _).alloc _, h3.alloc _, h4⟩
/-- a list of rows that is owned -/
def Ow (W : World) (l : Value) (T : Tr) : Prop := ∃ base, W.ownsRow base 72 10 l T.size (rcells (rowsT T))
theorem Ow.keep {W W' : World} {l : Value} {T : Tr} (h : Ow W l T) (hb : Below W.heap.size W W') : Ow W' l T := by
  obtain ⟨base, h⟩ := h
  exact ⟨base, own_keep' h hb⟩
theorem Ow.rdr {W : World} {l : Value} {T : Tr} (h : Ow W l T) : Rdr W l (rowsT T) := by
  obtain ⟨base, h⟩ := h
  exact own_rdr h
/-- a row of rows is no other block -/
theorem Ow.ne {W : World} {l : Value} {T : Tr} {B e : Nat} {cs : Array Value} (h : Ow W l T) (hk : W.heap[B]? = some (.cells cs e (0, 0))) (he : e ≠ 72) : l.ownBlock ≠ some B := by
  obtain ⟨base, h⟩ := h
  rcases h.2 with ⟨rfl, _⟩ | ⟨g, cap, cur, rfl, _, hg, _⟩
  · simp [Value.ownBlock]
  · intro e1
    simp [Value.ownBlock] at e1
    subst e1
    rw [hk] at hg
    cases hg
    exact he rfl
/-- what made gives, one tree -/
def Md1 (w : World) (T : Tr) (f : Int) (e : Ending) (w' : World) : Prop := ∃ g1 g2 x l, e = .returned (.tuple #[.slice (some ⟨g1, 0, none⟩) 1 1, .slice (some ⟨g2, 0, none⟩) 1 1, .int .i64 f, .int .i64 f]) ∧ w'.cell? ⟨g1, 0, none⟩ = some (.pointer x) ∧ w'.cell? ⟨g2, 0, none⟩ = some l ∧ At w' T x ∧ Ow w' l T ∧ (w.heap.size ≤ g1 ∧ w.heap.size ≤ g2) ∧ Below w.heap.size w w'

set_option maxRecDepth 100000 in
set_option maxHeartbeats 8000000 in
theorem made_ins (kd sa sb sat ps po pl pn : Int) (lo : Value) (a b : Option Addr) (xv yv : Value) (T : Tr) (f : Int) (w : World) (hkd : -9223372036854775808 ≤ kd ∧ kd ≤ 9223372036854775807) (hpk : Hid (pk kd 6 = 3))
    (HA : Hid (∀ W, Below w.heap.size w W → Calls Try.prog 29 #[.agg #[.pointer a], .int .i64 sat, .agg #[.int .i64 ps, .int .i64 po, .int .i64 pl, .int .i64 pn]] W fun e w' => ∃ x, e = .returned (.tuple #[.agg #[.pointer x], .int .i64 f]) ∧ At w' T x ∧ Below W.heap.size W w'))
    (HR : Hid (∀ W, Below w.heap.size w W → Calls Try.prog 41 #[xv, .int .i64 sat, .agg #[.int .i64 ps, .int .i64 po, .int .i64 pl, .int .i64 pn]] W fun e w' => ∃ l, e = .returned (.tuple #[l, .int .i64 f]) ∧ Ow w' l T ∧ Below W.heap.size W w')) :
    Calls Try.prog 11 #[.agg #[.int .i64 kd, .int .i64 sa, .int .i64 sb, .int .i64 sat, .int .i64 ps, .int .i64 po, .int .i64 pl, .int .i64 pn, lo], .agg #[.pointer a], .agg #[.pointer b], xv, yv] w fun e w' => Md1 w T f e w' := by
  go_enter Try.func11, Try.ntmps11
  go_upto_region 5 with fail
  have M5 := Hid.mk' (Mb.new w kd sa sb sat ps po pl pn lo a b)
  have B5 := Hid.mk' (bAlloc (bAlloc (bAlloc (bAlloc (bAlloc (Below.refl w.heap.size w) (.cells #[.int .i64 kd, .int .i64 sa, .int .i64 sb, .int .i64 sat, .int .i64 ps, .int .i64 po, .int .i64 pl, .int .i64 pn, lo] 35)) (.cells #[.pointer a] 26)) (.cells #[.pointer b] 26)) (.cells #[.pointer none] 26)) (.cells #[.pointer none] 26))
  generalize hV : ((((w.alloc (.cells #[.int .i64 kd, .int .i64 sa, .int .i64 sb, .int .i64 sat, .int .i64 ps, .int .i64 po, .int .i64 pl, .int .i64 pn, lo] 35)).alloc (.cells #[.pointer a] 26)).alloc (.cells #[.pointer b] 26)).alloc (.cells #[.pointer none] 26)).alloc (.cells #[.pointer none] 26) = V at *
  clear hV
  obtain ⟨q, hq⟩ : ∃ q, q = w.heap.size := ⟨_, rfl⟩
  rw [← hq] at M5 ⊢
  have HQ := Hid.mk' hq
  clear hq
  obtain ⟨c0, c3, c4, c5, c6, c7, c8, d1, d2, d3, d4⟩ := M5.out.cells
  have DP : Hid (Calls Try.prog 10 #[.int .i64 kd, .int .i64 6] V fun e w' => e = .returned (.int .i64 3) ∧ w' = V) := by
    have := place_pk kd 6 V hkd.1 hkd.2 (by omega) (by omega)
    rw [hpk.out] at this
    exact this
  go_wp2_with fail
  refine DP.out.mono ?_
  rintro e w' ⟨rfl, hw⟩
  have hw' := hw.symm
  clear hw
  subst hw'
  clear DP
  go_wp2_with fail
  refine (HA.out V B5.out).mono ?_
  rintro e w6 ⟨x, rfl, hat, hb6⟩
  have M6 := Hid.mk' (M5.out.keep hb6)
  have B6 := Hid.mk' (bT B5.out hb6)
  have A6 := Hid.mk' hat
  clear hat hb6 c0 c3 c4 c5 c6 c7 c8 d1 d2 d3 d4 HA
  obtain ⟨-, -, -, -, -, -, -, -, -, e3, -⟩ := M6.out.cells
  have fz := M6.out.k3.frozen
  go_upto_region 18 with fail
  have MS := Hid.mk' (M6.out.put3 x)
  have BS := Hid.mk' (B6.out.setCell (p := ⟨q + 1 + 1 + 1, 0, none⟩) (by have := HQ.out; simp; omega) (.pointer x))
  have AS := Hid.mk' (A6.out.put (i := 0) (v := .pointer x) M6.out.k3 (by decide))
  generalize hS : w6.setCell ⟨q + 1 + 1 + 1, 0, none⟩ (.pointer x) = S at *
  clear hS e3 fz A6 M6 B6
  obtain ⟨c0, c3, c4, c5, c6, c7, c8, d1, d2, d3, d4⟩ := MS.out.cells
  go_wp2_with fail
  refine (HR.out S BS.out).mono ?_
  rintro e w7 ⟨l, rfl, hrd, hb7⟩
  have M7 := Hid.mk' (MS.out.keep hb7)
  have B7 := Hid.mk' (bT BS.out hb7)
  have A7 := Hid.mk' (AS.out.keep hb7)
  have R7 := Hid.mk' hrd
  clear hrd hb7 c0 c3 c4 c5 c6 c7 c8 d1 d2 d3 d4 HR
  obtain ⟨la, ln, lc, rfl, -, -, -⟩ := R7.out.rdr
  have R7' := R7
  have zz := Hid.mk' B7.out.size
  obtain ⟨-, -, -, -, -, -, -, -, -, e3, -⟩ := M7.out.cells
  go_wp2
  refine bodyPost_ret (v := .tuple #[.slice (some ⟨w7.heap.size, 0, none⟩) 1 1, .slice (some ⟨w7.heap.size + 1, 0, none⟩) 1 1, .int .i64 f, .int .i64 f]) (by simp [results, Try.results11, go_sem]) rfl ⟨_, _, x, _, rfl, by simp [go_sem], by simp [go_sem], A7.out.keep (bAlloc (bAlloc (Below.refl _ _) _) _), R7'.out.keep (bAlloc (bAlloc (Below.refl _ _) _) _), ⟨zz.out, by have := zz.out; omega⟩, bAlloc (bAlloc B7.out _) _⟩

set_option maxRecDepth 100000 in
set_option maxHeartbeats 8000000 in
theorem made_del (kd sa sb sat ps po pl pn : Int) (lo : Value) (a b : Option Addr) (xv yv : Value) (T : Tr) (f : Int) (w : World) (hkd : -9223372036854775808 ≤ kd ∧ kd ≤ 9223372036854775807) (hpk : Hid (pk kd 6 = 4))
    (HA : Hid (∀ W, Below w.heap.size w W → Calls Try.prog 30 #[.agg #[.pointer a], .int .i64 sat] W fun e w' => ∃ x, e = .returned (.tuple #[.agg #[.pointer x], .int .i64 f]) ∧ At w' T x ∧ Below W.heap.size W w'))
    (HR : Hid (∀ W, Below w.heap.size w W → Calls Try.prog 42 #[xv, .int .i64 sat] W fun e w' => ∃ l, e = .returned (.tuple #[l, .int .i64 f]) ∧ Ow w' l T ∧ Below W.heap.size W w')) :
    Calls Try.prog 11 #[.agg #[.int .i64 kd, .int .i64 sa, .int .i64 sb, .int .i64 sat, .int .i64 ps, .int .i64 po, .int .i64 pl, .int .i64 pn, lo], .agg #[.pointer a], .agg #[.pointer b], xv, yv] w fun e w' => Md1 w T f e w' := by
  go_enter Try.func11, Try.ntmps11
  go_upto_region 5 with fail
  have M5 := Hid.mk' (Mb.new w kd sa sb sat ps po pl pn lo a b)
  have B5 := Hid.mk' (bAlloc (bAlloc (bAlloc (bAlloc (bAlloc (Below.refl w.heap.size w) (.cells #[.int .i64 kd, .int .i64 sa, .int .i64 sb, .int .i64 sat, .int .i64 ps, .int .i64 po, .int .i64 pl, .int .i64 pn, lo] 35)) (.cells #[.pointer a] 26)) (.cells #[.pointer b] 26)) (.cells #[.pointer none] 26)) (.cells #[.pointer none] 26))
  generalize hV : ((((w.alloc (.cells #[.int .i64 kd, .int .i64 sa, .int .i64 sb, .int .i64 sat, .int .i64 ps, .int .i64 po, .int .i64 pl, .int .i64 pn, lo] 35)).alloc (.cells #[.pointer a] 26)).alloc (.cells #[.pointer b] 26)).alloc (.cells #[.pointer none] 26)).alloc (.cells #[.pointer none] 26) = V at *
  clear hV
  obtain ⟨q, hq⟩ : ∃ q, q = w.heap.size := ⟨_, rfl⟩
  rw [← hq] at M5 ⊢
  have HQ := Hid.mk' hq
  clear hq
  obtain ⟨c0, c3, c4, c5, c6, c7, c8, d1, d2, d3, d4⟩ := M5.out.cells
  have DP : Hid (Calls Try.prog 10 #[.int .i64 kd, .int .i64 6] V fun e w' => e = .returned (.int .i64 4) ∧ w' = V) := by
    have := place_pk kd 6 V hkd.1 hkd.2 (by omega) (by omega)
    rw [hpk.out] at this
    exact this
  go_wp2_with fail
  refine DP.out.mono ?_
  rintro e w' ⟨rfl, hw⟩
  have hw' := hw.symm
  clear hw
  subst hw'
  clear DP
  go_wp2_with fail
  refine (HA.out V B5.out).mono ?_
  rintro e w6 ⟨x, rfl, hat, hb6⟩
  have M6 := Hid.mk' (M5.out.keep hb6)
  have B6 := Hid.mk' (bT B5.out hb6)
  have A6 := Hid.mk' hat
  clear hat hb6 c0 c3 c4 c5 c6 c7 c8 d1 d2 d3 d4 HA
  obtain ⟨-, -, -, -, -, -, -, -, -, e3, -⟩ := M6.out.cells
  have fz := M6.out.k3.frozen
  go_upto_region 21 with fail
  have MS := Hid.mk' (M6.out.put3 x)
  have BS := Hid.mk' (B6.out.setCell (p := ⟨q + 1 + 1 + 1, 0, none⟩) (by have := HQ.out; simp; omega) (.pointer x))
  have AS := Hid.mk' (A6.out.put (i := 0) (v := .pointer x) M6.out.k3 (by decide))
  generalize hS : w6.setCell ⟨q + 1 + 1 + 1, 0, none⟩ (.pointer x) = S at *
  clear hS e3 fz A6 M6 B6
  obtain ⟨c0, c3, c4, c5, c6, c7, c8, d1, d2, d3, d4⟩ := MS.out.cells
  go_wp2_with fail
  refine (HR.out S BS.out).mono ?_
  rintro e w7 ⟨l, rfl, hrd, hb7⟩
  have M7 := Hid.mk' (MS.out.keep hb7)
  have B7 := Hid.mk' (bT BS.out hb7)
  have A7 := Hid.mk' (AS.out.keep hb7)
  have R7 := Hid.mk' hrd
  clear hrd hb7 c0 c3 c4 c5 c6 c7 c8 d1 d2 d3 d4 HR
  obtain ⟨la, ln, lc, rfl, -, -, -⟩ := R7.out.rdr
  have R7' := R7
  have zz := Hid.mk' B7.out.size
  obtain ⟨-, -, -, -, -, -, -, -, -, e3, -⟩ := M7.out.cells
  go_wp2
  refine bodyPost_ret (v := .tuple #[.slice (some ⟨w7.heap.size, 0, none⟩) 1 1, .slice (some ⟨w7.heap.size + 1, 0, none⟩) 1 1, .int .i64 f, .int .i64 f]) (by simp [results, Try.results11, go_sem]) rfl ⟨_, _, x, _, rfl, by simp [go_sem], by simp [go_sem], A7.out.keep (bAlloc (bAlloc (Below.refl _ _) _) _), R7'.out.keep (bAlloc (bAlloc (Below.refl _ _) _) _), ⟨zz.out, by have := zz.out; omega⟩, bAlloc (bAlloc B7.out _) _⟩

set_option maxRecDepth 100000 in
set_option maxHeartbeats 8000000 in
theorem made_set (kd sa sb sat ps po pl pn : Int) (lo : Value) (a b : Option Addr) (xv yv : Value) (T : Tr) (f : Int) (w : World) (hkd : -9223372036854775808 ≤ kd ∧ kd ≤ 9223372036854775807) (hpk : Hid (pk kd 6 = 5))
    (HA : Hid (∀ W, Below w.heap.size w W → Calls Try.prog 31 #[.agg #[.pointer a], .int .i64 sat, .agg #[.int .i64 ps, .int .i64 po, .int .i64 pl, .int .i64 pn]] W fun e w' => ∃ x, e = .returned (.tuple #[.agg #[.pointer x], .int .i64 f]) ∧ At w' T x ∧ Below W.heap.size W w'))
    (HR : Hid (∀ W, Below w.heap.size w W → Calls Try.prog 43 #[xv, .int .i64 sat, .agg #[.int .i64 ps, .int .i64 po, .int .i64 pl, .int .i64 pn]] W fun e w' => ∃ l, e = .returned (.tuple #[l, .int .i64 f]) ∧ Ow w' l T ∧ Below W.heap.size W w')) :
    Calls Try.prog 11 #[.agg #[.int .i64 kd, .int .i64 sa, .int .i64 sb, .int .i64 sat, .int .i64 ps, .int .i64 po, .int .i64 pl, .int .i64 pn, lo], .agg #[.pointer a], .agg #[.pointer b], xv, yv] w fun e w' => Md1 w T f e w' := by
  go_enter Try.func11, Try.ntmps11
  go_upto_region 5 with fail
  have M5 := Hid.mk' (Mb.new w kd sa sb sat ps po pl pn lo a b)
  have B5 := Hid.mk' (bAlloc (bAlloc (bAlloc (bAlloc (bAlloc (Below.refl w.heap.size w) (.cells #[.int .i64 kd, .int .i64 sa, .int .i64 sb, .int .i64 sat, .int .i64 ps, .int .i64 po, .int .i64 pl, .int .i64 pn, lo] 35)) (.cells #[.pointer a] 26)) (.cells #[.pointer b] 26)) (.cells #[.pointer none] 26)) (.cells #[.pointer none] 26))
  generalize hV : ((((w.alloc (.cells #[.int .i64 kd, .int .i64 sa, .int .i64 sb, .int .i64 sat, .int .i64 ps, .int .i64 po, .int .i64 pl, .int .i64 pn, lo] 35)).alloc (.cells #[.pointer a] 26)).alloc (.cells #[.pointer b] 26)).alloc (.cells #[.pointer none] 26)).alloc (.cells #[.pointer none] 26) = V at *
  clear hV
  obtain ⟨q, hq⟩ : ∃ q, q = w.heap.size := ⟨_, rfl⟩
  rw [← hq] at M5 ⊢
  have HQ := Hid.mk' hq
  clear hq
  obtain ⟨c0, c3, c4, c5, c6, c7, c8, d1, d2, d3, d4⟩ := M5.out.cells
  have DP : Hid (Calls Try.prog 10 #[.int .i64 kd, .int .i64 6] V fun e w' => e = .returned (.int .i64 5) ∧ w' = V) := by
    have := place_pk kd 6 V hkd.1 hkd.2 (by omega) (by omega)
    rw [hpk.out] at this
    exact this
  go_wp2_with fail
  refine DP.out.mono ?_
  rintro e w' ⟨rfl, hw⟩
  have hw' := hw.symm
  clear hw
  subst hw'
  clear DP
  go_wp2_with fail
  refine (HA.out V B5.out).mono ?_
  rintro e w6 ⟨x, rfl, hat, hb6⟩
  have M6 := Hid.mk' (M5.out.keep hb6)
  have B6 := Hid.mk' (bT B5.out hb6)
  have A6 := Hid.mk' hat
  clear hat hb6 c0 c3 c4 c5 c6 c7 c8 d1 d2 d3 d4 HA
  obtain ⟨-, -, -, -, -, -, -, -, -, e3, -⟩ := M6.out.cells
  have fz := M6.out.k3.frozen
  go_upto_region 7 with fail
  have MS := Hid.mk' (M6.out.put3 x)
  have BS := Hid.mk' (B6.out.setCell (p := ⟨q + 1 + 1 + 1, 0, none⟩) (by have := HQ.out; simp; omega) (.pointer x))
  have AS := Hid.mk' (A6.out.put (i := 0) (v := .pointer x) M6.out.k3 (by decide))
  generalize hS : w6.setCell ⟨q + 1 + 1 + 1, 0, none⟩ (.pointer x) = S at *
  clear hS e3 fz A6 M6 B6
  obtain ⟨c0, c3, c4, c5, c6, c7, c8, d1, d2, d3, d4⟩ := MS.out.cells
  go_wp2_with fail
  refine (HR.out S BS.out).mono ?_
  rintro e w7 ⟨l, rfl, hrd, hb7⟩
  have M7 := Hid.mk' (MS.out.keep hb7)
  have B7 := Hid.mk' (bT BS.out hb7)
  have A7 := Hid.mk' (AS.out.keep hb7)
  have R7 := Hid.mk' hrd
  clear hrd hb7 c0 c3 c4 c5 c6 c7 c8 d1 d2 d3 d4 HR
  obtain ⟨la, ln, lc, rfl, -, -, -⟩ := R7.out.rdr
  have R7' := R7
  have zz := Hid.mk' B7.out.size
  obtain ⟨-, -, -, -, -, -, -, -, -, e3, -⟩ := M7.out.cells
  go_wp2
  refine bodyPost_ret (v := .tuple #[.slice (some ⟨w7.heap.size, 0, none⟩) 1 1, .slice (some ⟨w7.heap.size + 1, 0, none⟩) 1 1, .int .i64 f, .int .i64 f]) (by simp [results, Try.results11, go_sem]) rfl ⟨_, _, x, _, rfl, by simp [go_sem], by simp [go_sem], A7.out.keep (bAlloc (bAlloc (Below.refl _ _) _) _), R7'.out.keep (bAlloc (bAlloc (Below.refl _ _) _) _), ⟨zz.out, by have := zz.out; omega⟩, bAlloc (bAlloc B7.out _) _⟩
end Go.Proofs.Ytcaegdfbbjfgpaa
