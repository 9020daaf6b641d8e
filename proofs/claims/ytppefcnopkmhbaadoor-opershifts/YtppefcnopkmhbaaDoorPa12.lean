/- Tsk, Hom, Ynk -/
import Derived.Test.YtppefcnopkmhbaaDoorPa11
namespace Go.Proofs.YtppefcnopkmhbaaDoor
open Go.RowKit

set_option maxRecDepth 8000
/-- what an operator is given -/
def tsk (tv : Value) (at' F T : Int) (L D : Bool) (a b c : Int) : Value := .agg #[tv, .int .i64 at', .int .i64 F, .int .i64 T, .bool L, .bool D, .int .i64 a, .int .i64 b, .int .i64 c]
def tskC (tv : Value) (at' F T : Int) (L D : Bool) (a b c : Int) : Array Value := #[tv, .int .i64 at', .int .i64 F, .int .i64 T, .bool L, .bool D, .int .i64 a, .int .i64 b, .int .i64 c]
/-- how what is taken goes into a register -/
def hwE (L : Bool) (X : List UInt8) : Int := if L || hasL X then 2 else 3
/-- a call that answers an effect with no edit -/
def TkQ (X : List UInt8) (L : Bool) (h : Int) (w : World) (e : Ending) (w' : World) : Prop := ∃ tv, e = .returned (.agg #[.slice none 0 0, .int .i64 0, .bool true, .bool L, tv, .int .i64 h, .bool false]) ∧ Wb w' w.heap.size w'.heap.size tv X ∧ Below w.heap.size w w'
theorem tsk_cells {W : World} {B : Nat} {tv : Value} {at' F T : Int} {L D : Bool} {a b c : Int} (h : Blk W B 64 (tskC tv at' F T L D a b c)) :
    W.cell? ⟨B, 0, none⟩ = some tv ∧ W.cell? ⟨B, 1, none⟩ = some (.int .i64 at') ∧ W.cell? ⟨B, 2, none⟩ = some (.int .i64 F) ∧ W.cell? ⟨B, 3, none⟩ = some (.int .i64 T) ∧ W.cell? ⟨B, 4, none⟩ = some (.bool L) ∧ W.cell? ⟨B, 5, none⟩ = some (.bool D) ∧ W.cell? ⟨B, 6, none⟩ = some (.int .i64 a) ∧ W.cell? ⟨B, 7, none⟩ = some (.int .i64 b) ∧ W.cell? ⟨B, 8, none⟩ = some (.int .i64 c) :=
  ⟨h.cell rfl, h.cell rfl, h.cell rfl, h.cell rfl, h.cell rfl, h.cell rfl, h.cell rfl, h.cell rfl, h.cell rfl⟩
def ef7 (v : Value) (cur : Int) (set lin : Bool) (tv : Value) (how : Int) (typ : Bool) : Array Value := #[v, .int .i64 cur, .bool set, .bool lin, tv, .int .i64 how, .bool typ]
theorem ef_cells {W : World} {B : Nat} {v tv : Value} {cur how : Int} {set lin typ : Bool} (h : Blk W B 32 (ef7 v cur set lin tv how typ)) :
    W.cell? ⟨B, 0, none⟩ = some v ∧ W.cell? ⟨B, 1, none⟩ = some (.int .i64 cur) ∧ W.cell? ⟨B, 2, none⟩ = some (.bool set) ∧ W.cell? ⟨B, 3, none⟩ = some (.bool lin) ∧ W.cell? ⟨B, 4, none⟩ = some tv ∧ W.cell? ⟨B, 5, none⟩ = some (.int .i64 how) ∧ W.cell? ⟨B, 6, none⟩ = some (.bool typ) :=
  ⟨h.cell rfl, h.cell rfl, h.cell rfl, h.cell rfl, h.cell rfl, h.cell rfl, h.cell rfl⟩
theorem ef_frozen {W : World} {B : Nat} {cs : Array Value} (h : Blk W B 32 cs) :
    W.frozen? ⟨B, 0, none⟩ = false ∧ W.frozen? ⟨B, 1, none⟩ = false ∧ W.frozen? ⟨B, 2, none⟩ = false ∧ W.frozen? ⟨B, 3, none⟩ = false ∧ W.frozen? ⟨B, 4, none⟩ = false ∧ W.frozen? ⟨B, 5, none⟩ = false ∧ W.frozen? ⟨B, 6, none⟩ = false :=
  ⟨h.frozen _, h.frozen _, h.frozen _, h.frozen _, h.frozen _, h.frozen _, h.frozen _⟩
/-- the whole effect is stored -/
theorem ef_store {W : World} {B : Nat} {v0 tv0 : Value} {cur0 how0 : Int} {set0 lin0 typ0 : Bool} (h : Blk W B 32 (ef7 v0 cur0 set0 lin0 tv0 how0 typ0)) (x0 x1 x2 x3 x4 x5 x6 : Value) :
    Blk (((((((W.setCell ⟨B, 0, none⟩ x0).setCell ⟨B, 1, none⟩ x1).setCell ⟨B, 2, none⟩ x2).setCell ⟨B, 3, none⟩ x3).setCell ⟨B, 4, none⟩ x4).setCell ⟨B, 5, none⟩ x5).setCell ⟨B, 6, none⟩ x6) B 32 #[x0, x1, x2, x3, x4, x5, x6] := by
  have := ((((((h.set (j := 0) x0).set (j := 1) x1).set (j := 2) x2).set (j := 3) x3).set (j := 4) x4).set (j := 5) x5).set (j := 6) x6
  simpa [ef7] using this
theorem ef_grown (W : World) (B : Nat) (x0 x1 x2 x3 x4 x5 x6 : Value) :
    W.grownBy (((((((W.setCell ⟨B, 0, none⟩ x0).setCell ⟨B, 1, none⟩ x1).setCell ⟨B, 2, none⟩ x2).setCell ⟨B, 3, none⟩ x3).setCell ⟨B, 4, none⟩ x4).setCell ⟨B, 5, none⟩ x5).setCell ⟨B, 6, none⟩ x6) (some B) :=
  ((((((grown_set W B 0 x0).trans (grown_set _ B 1 x1)).trans (grown_set _ B 2 x2)).trans (grown_set _ B 3 x3)).trans (grown_set _ B 4 x4)).trans (grown_set _ B 5 x5)).trans (grown_set _ B 6 x6)
/-- the box of a task and an effect that begins -/
structure Two (w W : World) (tv : Value) (at' F T : Int) (L D : Bool) (a b k : Int) : Prop where
  bel : Below w.heap.size w W
  tk : Blk W w.heap.size 64 (tskC tv at' F T L D a b k)
  ef : Blk W (w.heap.size + 1) 32 (ef7 (.slice none 0 0) 0 false false (.slice none 0 0) 0 false)
theorem Two.new (w : World) (tv : Value) (at' F T : Int) (L D : Bool) (a b k : Int) : Two w ((w.alloc (.cells (tskC tv at' F T L D a b k) 64)).alloc (.cells (ef7 (.slice none 0 0) 0 false false (.slice none 0 0) 0 false) 32)) tv at' F T L D a b k :=
  ⟨bAlloc (bAlloc (Below.refl _ _) _) _, (Blk.new w 64 _).keep (bAlloc (Below.refl _ _) _), by have := Blk.new (w.alloc (.cells (tskC tv at' F T L D a b k) 64)) 32 (ef7 (.slice none 0 0) 0 false false (.slice none 0 0) 0 false); rwa [World.size_alloc] at this⟩
set_option maxHeartbeats 4000000 in
theorem taken_any (ao : Option Addr) (n c f t : Nat) (at' : Int) (L D : Bool) (a b k : Int) (l : List UInt8) (w : World) (HT : Hid (Tx w ao n c l)) (hbig : n ≤ 1048576) (hg : rgB l (f : Int) (t : Int) L D = true) :
    Calls Tryd.prog 61 #[tsk (.slice ao n c) at' (f : Int) (t : Int) L D a b k] w fun e w' => TkQ (tk l f t L D) L (hwE L (tk l f t L D)) w e w' := by
  show Calls Tryd.prog 61 #[.agg #[.slice ao n c, .int .i64 at', .int .i64 (f : Int), .int .i64 (t : Int), .bool L, .bool D, .int .i64 a, .int .i64 b, .int .i64 k]] w _
  obtain ⟨W1, hW1⟩ : ∃ x, (w.alloc (.cells #[.slice ao n c, .int .i64 at', .int .i64 (f : Int), .int .i64 (t : Int), .bool L, .bool D, .int .i64 a, .int .i64 b, .int .i64 k] 64)).alloc (.cells #[.slice none 0 0, .int .i64 0, .bool false, .bool false, .slice none 0 0, .int .i64 0, .bool false] 32) = x := ⟨_, rfl⟩
  have T1 : Hid (Two w W1 (.slice ao n c) at' (f : Int) (t : Int) L D a b k) := by unfold Hid; rw [← hW1]; exact Two.new w _ _ _ _ _ _ _ _ _
  have CT := Hid.mk' (take_yes ao n c f t L D l W1 (by omega) hg (HT.out.keep T1.out.bel))
  have htl : (tk l f t L D).length ≤ n + 1 := by
    have hl := HT.out.len
    unfold tk
    split
    · rw [List.length_append]; unfold tkb; rw [List.length_take, List.length_drop]; simp; omega
    · unfold tkb; rw [List.length_take, List.length_drop]; omega
  unfold hwE
  generalize tk l f t L D = X at *
  have HXL := Hid.mk' htl
  obtain ⟨B, hB⟩ : ∃ b, w.heap.size = b := ⟨_, rfl⟩
  have HB := Hid.mk' hB
  have K1 : Hid (Blk W1 B 64 (tskC (.slice ao n c) at' (f : Int) (t : Int) L D a b k)) := by unfold Hid; rw [← hB]; exact T1.out.tk
  have J1 : Hid (Blk W1 (B + 1) 32 (ef7 (.slice none 0 0) 0 false false (.slice none 0 0) 0 false)) := by unfold Hid; rw [← hB]; exact T1.out.ef
  have L1 := Hid.mk' T1.out.bel
  have J1s : Hid (B + 1 < W1.heap.size) := J1.out.lt
  obtain ⟨c0, c1, c2, c3, c4, c5, c6, c7, c8⟩ := tsk_cells K1.out
  obtain ⟨hh, hhe⟩ : ∃ hh, (if (L || hasL X) = true then (2 : Int) else 3) = hh := ⟨_, rfl⟩
  rw [hhe]
  have HH := Hid.mk' hhe
  clear T1 htl hg HT hhe
  go_enter Tryd.func61, Tryd.ntmps61
  go_upto_region 1 with fail
  clear hW1 hB
  go_wp2_with fail
  refine CT.out.mono ?_
  rintro e w2 ⟨v, rfl, hO, hb2⟩
  unfold tr
  have W2 := Hid.mk' (Wb.new hO)
  have B2 := Hid.mk' hb2
  have K2 := Hid.mk' (K1.out.keep hb2)
  have J2 := Hid.mk' (J1.out.keep hb2)
  clear hO hb2 CT K1 J1 c0 c1 c2 c3 c4 c5 c6 c7 c8
  obtain ⟨p2, d2, rfl⟩ := W2.out.shape
  dsimp only
  obtain ⟨W3, hW3⟩ : ∃ x, w2.alloc (.cells #[.bool true, .bool L, .slice p2 X.length d2] 30) = x := ⟨_, rfl⟩
  obtain ⟨Q, hQ⟩ : ∃ q, w2.heap.size = q := ⟨_, rfl⟩
  have HQ := Hid.mk' hQ
  have hb3 : Below w2.heap.size w2 W3 := by rw [← hW3]; exact bAlloc (Below.refl _ _) _
  have R3 : Hid (Blk W3 Q 30 #[.bool true, .bool L, .slice p2 X.length d2]) := by unfold Hid; rw [← hW3, ← hQ]; exact Blk.new w2 30 _
  have HS3 : Hid (W3.heap.size = Q + 1) := by unfold Hid; rw [← hW3, ← hQ]; exact World.size_alloc _ _
  have K3 := Hid.mk' (K2.out.keep hb3)
  have J3 := Hid.mk' (J2.out.keep hb3)
  have WX3 := Hid.mk' (W2.out.keep hb3)
  have B3 := Hid.mk' (bT L1.out (bT B2.out hb3))
  have HW1 := Hid.mk' L1.out.size
  clear hb3 K2 J2 W2
  go_upto_region 2 with fail
  clear hW3 hQ
  obtain ⟨c0, c1, c2, c3, c4, c5, c6, c7, c8⟩ := tsk_cells K3.out
  have r0 : W3.cell? ⟨Q, 0, none⟩ = some (.bool true) := R3.out.cell rfl
  have r1 : W3.cell? ⟨Q, 1, none⟩ = some (.bool L) := R3.out.cell rfl
  have r2 : W3.cell? ⟨Q, 2, none⟩ = some (.slice p2 X.length d2) := R3.out.cell rfl
  have hfin : ∀ (h : Int) (W4 : World), Below W3.heap.size W3 W4 → TkQ X L h w (.returned (.agg #[.slice none 0 0, .int .i64 0, .bool true, .bool L, .slice p2 X.length d2, .int .i64 h, .bool false])) (((((((W4.setCell ⟨B + 1, 0, none⟩ (.slice none 0 0)).setCell ⟨B + 1, 1, none⟩ (.int .i64 0)).setCell ⟨B + 1, 2, none⟩ (.bool true)).setCell ⟨B + 1, 3, none⟩ (.bool L)).setCell ⟨B + 1, 4, none⟩ (.slice p2 X.length d2)).setCell ⟨B + 1, 5, none⟩ (.int .i64 h)).setCell ⟨B + 1, 6, none⟩ (.bool false)) ∧ Blk (((((((W4.setCell ⟨B + 1, 0, none⟩ (.slice none 0 0)).setCell ⟨B + 1, 1, none⟩ (.int .i64 0)).setCell ⟨B + 1, 2, none⟩ (.bool true)).setCell ⟨B + 1, 3, none⟩ (.bool L)).setCell ⟨B + 1, 4, none⟩ (.slice p2 X.length d2)).setCell ⟨B + 1, 5, none⟩ (.int .i64 h)).setCell ⟨B + 1, 6, none⟩ (.bool false)) (B + 1) 32 (ef7 (.slice none 0 0) 0 true L (.slice p2 X.length d2) h false) := fun h W4 hW => by
    have hg := ef_grown W4 (B + 1) (.slice none 0 0) (.int .i64 0) (.bool true) (.bool L) (.slice p2 X.length d2) (.int .i64 h) (.bool false)
    have hb4 := bT B3.out hW
    have hlt : B + 1 < W1.heap.size := by have := (J1s).out; exact this
    refine ⟨⟨_, rfl, ((WX3.out.keep hW).grown hg (by omega)).wide (by have := HB.out; have := HW1.out; omega) ?_, hb4.grown hg hb4.size (fun g hg' => by injection hg' with hg'; have := HB.out; omega)⟩, ef_store (J3.out.keep hW) _ _ _ _ _ _ _⟩
    have h1 := hW.size
    have h2 := hg.size
    have h3 := HS3.out
    have h4 := HQ.out
    omega
  have HF := Hid.mk' hfin
  clear hfin
  cases L with
  | true =>
    obtain ⟨e0, e1, e2, e3, e4, e5, e6⟩ := ef_cells J3.out
    obtain ⟨f0, f1, f2, f3, f4, f5, f6⟩ := ef_frozen J3.out
    have hF := HF.out 2 W3 (Below.refl _ _)
    obtain rfl : (2 : Int) = hh := HH.out
    obtain ⟨hq1, hq2⟩ := hF
    obtain ⟨g0, g1, g2, g3, g4, g5, g6⟩ := ef_cells hq2
    have HQ1 := Hid.mk' hq1
    clear hq1 hq2
    go_wp2_with fail
    exact bodyPost_ret (v := .agg #[.slice none 0 0, .int .i64 0, .bool true, .bool true, .slice p2 X.length d2, .int .i64 2, .bool false]) (by simp [results, Tryd.results61, go_sem, g0, g1, g2, g3, g4, g5, g6]) rfl HQ1.out
  | false =>
    obtain ⟨W4, hW4⟩ : ∃ x, W3.alloc (.cells #[.int .u8 10] 5) = x := ⟨_, rfl⟩
    obtain ⟨Z, hZ⟩ : ∃ q, W3.heap.size = q := ⟨_, rfl⟩
    have hb4 : Below W3.heap.size W3 W4 := by rw [← hW4]; exact bAlloc (Below.refl _ _) _
    have N4 : Hid (Blk W4 Z 5 #[.int .u8 10]) := by unfold Hid; rw [← hW4, ← hZ]; exact Blk.new W3 5 _
    have CC := Hid.mk' (contains_any p2 X.length d2 Z X W4 ((WX3.out.keep hb4).tx (by have := HXL.out; omega)) (N4.out.cell rfl))
    have J4 := Hid.mk' (J3.out.keep hb4)
    have R4 := Hid.mk' (R3.out.keep hb4)
    have hF := HF.out hh W4 hb4
    have HH2 : Hid ((if hasL X = true then (2 : Int) else 3) = hh) := HH.out
    clear hb4 HF HH
    go_upto_if 21 with (first | (go_at_call 56; refine CC.out.mono ?_; rintro e w5 ⟨rfl, hw⟩; have hq := hw.symm; subst hq; clear hw) | fail)
    clear hW4 hZ c0 c1 c2 c3 c4 c5 c6 c7 c8 r0 r1 r2
    obtain ⟨e0, e1, e2, e3, e4, e5, e6⟩ := ef_cells J4.out
    obtain ⟨f0, f1, f2, f3, f4, f5, f6⟩ := ef_frozen J4.out
    have r0 : W4.cell? ⟨Q, 0, none⟩ = some (.bool true) := R4.out.cell rfl
    have r1 : W4.cell? ⟨Q, 1, none⟩ = some (.bool false) := R4.out.cell rfl
    have r2 : W4.cell? ⟨Q, 2, none⟩ = some (.slice p2 X.length d2) := R4.out.cell rfl
    generalize hasL X = q at *
    cases q with
    | true =>
      obtain rfl : (2 : Int) = hh := HH2.out
      obtain ⟨hq1, hq2⟩ := hF
      obtain ⟨g0, g1, g2, g3, g4, g5, g6⟩ := ef_cells hq2
      have HQ1 := Hid.mk' hq1
      clear hq1 hq2
      go_wp2_with fail
      exact bodyPost_ret (v := .agg #[.slice none 0 0, .int .i64 0, .bool true, .bool false, .slice p2 X.length d2, .int .i64 2, .bool false]) (by simp [results, Tryd.results61, go_sem, g0, g1, g2, g3, g4, g5, g6]) rfl HQ1.out
    | false =>
      obtain rfl : (3 : Int) = hh := HH2.out
      obtain ⟨hq1, hq2⟩ := hF
      obtain ⟨g0, g1, g2, g3, g4, g5, g6⟩ := ef_cells hq2
      have HQ1 := Hid.mk' hq1
      clear hq1 hq2
      go_wp2_with fail
      exact bodyPost_ret (v := .agg #[.slice none 0 0, .int .i64 0, .bool true, .bool false, .slice p2 X.length d2, .int .i64 3, .bool false]) (by simp [results, Tryd.results61, go_sem, g0, g1, g2, g3, g4, g5, g6]) rfl HQ1.out
end Go.Proofs.YtppefcnopkmhbaaDoor

namespace Go.Proofs.YtppefcnopkmhbaaDoor
open Go.RowKit

set_option maxRecDepth 8000
/-- the cursor of what leaves it in its column -/
def hmc (l : List UInt8) (k f : Nat) (L : Bool) (a : Int) : Int := if L then (aAt l a (aCol l (k : Int)).1).1 else (f : Int)
theorem aCol_is {l : List UInt8} {k : Nat} (h : k ≤ l.length) : aCol l (k : Int) = (((k - bg l k : Nat) : Int), 0) := by
  unfold aCol ans plB
  rw [decide_eq_true (show (0 : Int) ≤ (k : Int) ∧ (k : Int) ≤ (l.length : Int) by omega), if_pos rfl]
  rfl
set_option maxHeartbeats 4000000 in
theorem home_any (ao : Option Addr) (n c k f : Nat) (T : Int) (L D : Bool) (a b q : Int) (l : List UInt8) (w : World) (HT : Hid (Tx w ao n c l)) (hk : k ≤ n) (ha : a ≤ 9223372036854775807) :
    Calls Tryd.prog 63 #[tsk (.slice ao n c) (k : Int) (f : Int) T L D a b q] w fun e w' => e = .returned (.int .i64 (hmc l k f L a)) ∧ Below w.heap.size w w' := by
  show Calls Tryd.prog 63 #[.agg #[.slice ao n c, .int .i64 (k : Int), .int .i64 (f : Int), .int .i64 T, .bool L, .bool D, .int .i64 a, .int .i64 b, .int .i64 q]] w _
  obtain ⟨W1, hW1⟩ : ∃ x, w.alloc (.cells #[.slice ao n c, .int .i64 (k : Int), .int .i64 (f : Int), .int .i64 T, .bool L, .bool D, .int .i64 a, .int .i64 b, .int .i64 q] 64) = x := ⟨_, rfl⟩
  have K1 : Hid (Blk W1 w.heap.size 64 (tskC (.slice ao n c) (k : Int) (f : Int) T L D a b q)) := by unfold Hid; rw [← hW1]; exact Blk.new w 64 _
  have L1 : Hid (Below w.heap.size w W1) := by unfold Hid; rw [← hW1]; exact bAlloc (Below.refl _ _) _
  have hlen := HT.out.len
  have hbig := HT.out.big
  have hT1 := HT.out.keep L1.out
  have C1 := column_any ao n c (k : Int) l W1 hT1
  unfold hmc
  rw [aCol_is (by omega)] at C1 ⊢
  unfold pr at C1
  dsimp only at C1 ⊢
  have C2 := lat_any ao n c a ((k - bg l k : Nat) : Int) l W1 ha (by omega) hT1
  generalize ((k - bg l k : Nat) : Int) = col at *
  generalize aAt l a col = y at *
  obtain ⟨y1, y2⟩ := y
  unfold pr at C2
  dsimp only at C2 ⊢
  have D1 := Hid.mk' C1
  have D2 := Hid.mk' C2
  obtain ⟨B, hB⟩ : ∃ b, w.heap.size = b := ⟨_, rfl⟩
  rw [hB] at K1
  obtain ⟨c0, c1, c2, c3, c4, c5, c6, c7, c8⟩ := tsk_cells K1.out
  obtain ⟨z, hz⟩ : ∃ z, (if L = true then y1 else (f : Int)) = z := ⟨_, rfl⟩
  rw [hz]
  have HZ := Hid.mk' hz
  clear hT1 C1 C2 hz
  cases L with
  | true =>
    obtain rfl : y1 = z := HZ.out
    go_enter Tryd.func63, Tryd.ntmps63
    go_wp2_with (first | (go_at_call 82; refine D1.out.mono ?_; rintro e w' ⟨rfl, hw⟩; have hq := hw.symm; subst hq; clear hw) | (go_at_call 83; refine D2.out.mono ?_; rintro e w' ⟨rfl, hw⟩; have hq := hw.symm; subst hq; clear hw) | fail)
    go_ret
    exact ⟨rfl, L1.out⟩
  | false =>
    obtain rfl : (f : Int) = z := HZ.out
    go_enter Tryd.func63, Tryd.ntmps63
    go_wp2_with fail
    go_ret
    exact ⟨rfl, L1.out⟩
end Go.Proofs.YtppefcnopkmhbaaDoor

namespace Go.Proofs.YtppefcnopkmhbaaDoor
open Go.RowKit

set_option maxRecDepth 8000
theorem ef_off {W : World} {B B' e : Nat} {cs : Array Value} (h : Blk W B' e cs) (hne : B' ≠ B) (x0 x1 x2 x3 x4 x5 x6 : Value) :
    Blk (((((((W.setCell ⟨B, 0, none⟩ x0).setCell ⟨B, 1, none⟩ x1).setCell ⟨B, 2, none⟩ x2).setCell ⟨B, 3, none⟩ x3).setCell ⟨B, 4, none⟩ x4).setCell ⟨B, 5, none⟩ x5).setCell ⟨B, 6, none⟩ x6) B' e cs :=
  h.grown (ef_grown W B x0 x1 x2 x3 x4 x5 x6) (by intro h; injection h with h; exact hne h)
theorem tk_len (l : List UInt8) (f t : Nat) (L D : Bool) : (tk l f t L D).length ≤ l.length + 1 := by
  unfold tk
  split
  · rw [List.length_append]; unfold tkb; rw [List.length_take, List.length_drop]; simp; omega
  · unfold tkb; rw [List.length_take, List.length_drop]; omega
/-- what yank answers -/
def yEf (l : List UInt8) (k f t : Nat) (L D : Bool) (a : Int) : Ef := ⟨[], hmc l k f L a, true, L, tk l f t L D, 1, false⟩
set_option maxHeartbeats 4000000 in
set_option linter.unusedSimpArgs false in
theorem yank_any (ao : Option Addr) (n c k f t : Nat) (L D : Bool) (a b q : Int) (l : List UInt8) (w : World) (HT : Hid (Tx w ao n c l)) (hbig : n ≤ 1048576) (hg : rgB l (f : Int) (t : Int) L D = true) (hk : k ≤ n) (ha : a ≤ 9223372036854775807) :
    Calls Tryd.prog 39 #[tsk (.slice ao n c) (k : Int) (f : Int) (t : Int) L D a b q] w fun e w' => EfQ (yEf l k f t L D a) 0 w e w' := by
  show Calls Tryd.prog 39 #[.agg #[.slice ao n c, .int .i64 (k : Int), .int .i64 (f : Int), .int .i64 (t : Int), .bool L, .bool D, .int .i64 a, .int .i64 b, .int .i64 q]] w _
  obtain ⟨W1, hW1⟩ : ∃ x, (w.alloc (.cells #[.slice ao n c, .int .i64 (k : Int), .int .i64 (f : Int), .int .i64 (t : Int), .bool L, .bool D, .int .i64 a, .int .i64 b, .int .i64 q] 64)).alloc (.cells #[.slice none 0 0, .int .i64 0, .bool false, .bool false, .slice none 0 0, .int .i64 0, .bool false] 32) = x := ⟨_, rfl⟩
  have T1 : Hid (Two w W1 (.slice ao n c) (k : Int) (f : Int) (t : Int) L D a b q) := by unfold Hid; rw [← hW1]; exact Two.new w _ _ _ _ _ _ _ _ _
  have CT := Hid.mk' (take_yes ao n c f t L D l W1 (by omega) hg (HT.out.keep T1.out.bel))
  have CH : Hid (∀ W, Below W1.heap.size W1 W → Calls Tryd.prog 63 #[tsk (.slice ao n c) (k : Int) (f : Int) (t : Int) L D a b q] W fun e w' => e = .returned (.int .i64 (hmc l k f L a)) ∧ Below W.heap.size W w') := fun W hW => home_any ao n c k f (t : Int) L D a b q l W ((HT.out.keep T1.out.bel).keep hW) hk ha
  unfold yEf
  have htl := tk_len l f t L D
  rw [HT.out.len] at htl
  generalize tk l f t L D = X at *
  generalize hmc l k f L a = hm at *
  obtain ⟨B, hB⟩ : ∃ b, w.heap.size = b := ⟨_, rfl⟩
  have HB := Hid.mk' hB
  have K1 : Hid (Blk W1 B 64 (tskC (.slice ao n c) (k : Int) (f : Int) (t : Int) L D a b q)) := by unfold Hid; rw [← hB]; exact T1.out.tk
  have J1 : Hid (Blk W1 (B + 1) 32 (ef7 (.slice none 0 0) 0 false false (.slice none 0 0) 0 false)) := by unfold Hid; rw [← hB]; exact T1.out.ef
  have L1 := Hid.mk' T1.out.bel
  have J1s := Hid.mk' J1.out.lt
  obtain ⟨c0, c1, c2, c3, c4, c5, c6, c7, c8⟩ := tsk_cells K1.out
  clear T1 htl hg HT
  go_enter Tryd.func39, Tryd.ntmps39
  go_upto_region 1 with fail
  clear hW1 hB
  go_wp2_with fail
  refine CT.out.mono ?_
  rintro e w2 ⟨v, rfl, hO, hb2⟩
  unfold tr
  have W2 := Hid.mk' (Wb.new hO)
  have B2 := Hid.mk' hb2
  have K2 := Hid.mk' (K1.out.keep hb2)
  have J2 := Hid.mk' (J1.out.keep hb2)
  have HJ1 := Hid.mk' (Nat.lt_of_lt_of_le J1.out.lt hb2.size)
  have HW1 := Hid.mk' L1.out.size
  clear hO hb2 CT K1 J1 c0 c1 c2 c3 c4 c5 c6 c7 c8
  obtain ⟨p2, d2, rfl⟩ := W2.out.shape
  dsimp only
  obtain ⟨W3, hW3⟩ : ∃ x, w2.alloc (.cells #[.bool true, .bool L, .slice p2 X.length d2] 30) = x := ⟨_, rfl⟩
  obtain ⟨Q, hQ⟩ : ∃ q, w2.heap.size = q := ⟨_, rfl⟩
  have HQ := Hid.mk' hQ
  have hb3 : Below w2.heap.size w2 W3 := by rw [← hW3]; exact bAlloc (Below.refl _ _) _
  have R3 : Hid (Blk W3 Q 30 #[.bool true, .bool L, .slice p2 X.length d2]) := by unfold Hid; rw [← hW3, ← hQ]; exact Blk.new w2 30 _
  have K3 := Hid.mk' (K2.out.keep hb3)
  have J3 := Hid.mk' (J2.out.keep hb3)
  have WX3 := Hid.mk' (W2.out.keep hb3)
  have B3 := Hid.mk' (bT B2.out hb3)
  clear hb3 K2 J2 W2
  go_upto_region 2 with fail
  clear hW3 hQ
  have HQB : Hid (Q ≠ B + 1) := by have h := HJ1.out; rw [HQ.out] at h; exact Nat.ne_of_gt h
  have SZ : Hid (Blk W3.drew B 64 (tskC (.slice ao n c) (k : Int) (f : Int) (t : Int) L D a b q) ∧ Blk W3.drew Q 30 #[.bool true, .bool L, .slice p2 X.length d2]) := ⟨K3.out, R3.out⟩
  have J4 : Hid (Blk W3.drew (B + 1) 32 (ef7 (.slice none 0 0) 0 false false (.slice none 0 0) 0 false)) := J3.out
  have WX4 : Hid (Wb W3.drew W1.heap.size w2.heap.size (.slice p2 X.length d2) X) := WX3.out
  have B4 : Hid (Below W1.heap.size W1 W3.drew) := B3.out.drew
  clear K3 R3 J3 WX3 B3 B2
  refine wp_region_held (S := fun w' => Blk w' B 64 (tskC (.slice ao n c) (k : Int) (f : Int) (t : Int) L D a b q) ∧ Blk w' Q 30 #[.bool true, .bool L, .slice p2 X.length d2]) (by kernel_rfl) ?_
  change wpAnyH _ _ _ _ _ _ _ _ (World.drew _)
  generalize W3.drew = V4 at *
  refine wpAnyH_take (i := 0) (v := .agg #[.bool true, .bool L, .slice p2 X.length d2]) rfl (by kernel_rfl) (by kernel_rfl) (by kernel_rfl) (fun _ _ _ h => h) (Or.inl ⟨by rfl, fun w9 h9 => by obtain ⟨h1, h2⟩ := h9; obtain ⟨c0, c1, c2, c3, c4, c5, c6, c7, c8⟩ := tsk_cells h1; have r0 : w9.cell? ⟨Q, 0, none⟩ = some (.bool true) := h2.cell rfl; have r1 : w9.cell? ⟨Q, 1, none⟩ = some (.bool L) := h2.cell rfl; have r2 : w9.cell? ⟨Q, 2, none⟩ = some (.slice p2 X.length d2) := h2.cell rfl; go_simp⟩) SZ.out ?_
  try simp only [Act.put, List.getElem_toArray, List.getElem_cons_zero, List.getElem_cons_succ, List.setIfInBounds_toArray, List.set_cons_zero, List.set_cons_succ]
  refine wpAnyH_take (i := 1) (v := .agg #[.slice ao n c, .int .i64 (k : Int), .int .i64 (f : Int), .int .i64 (t : Int), .bool L, .bool D, .int .i64 a, .int .i64 b, .int .i64 q]) rfl (by kernel_rfl) (by kernel_rfl) (by kernel_rfl) (fun _ _ _ h => h) (Or.inl ⟨by rfl, fun w9 h9 => by obtain ⟨h1, h2⟩ := h9; obtain ⟨c0, c1, c2, c3, c4, c5, c6, c7, c8⟩ := tsk_cells h1; have r0 : w9.cell? ⟨Q, 0, none⟩ = some (.bool true) := h2.cell rfl; have r1 : w9.cell? ⟨Q, 1, none⟩ = some (.bool L) := h2.cell rfl; have r2 : w9.cell? ⟨Q, 2, none⟩ = some (.slice p2 X.length d2) := h2.cell rfl; go_simp⟩) SZ.out ?_
  try simp only [Act.put, List.getElem_toArray, List.getElem_cons_zero, List.getElem_cons_succ, List.setIfInBounds_toArray, List.set_cons_zero, List.set_cons_succ]
  refine wpAnyH_all (rs := [2]) (by kernel_rfl) (by simp) (AllH.cons rfl (fun K hK => ?_) AllH.nil)
  go_simp
  refine (CH.out V4 B4.out).mono ?_
  rintro e w5 ⟨rfl, hb5⟩
  have S5 : Hid (Blk w5 B 64 (tskC (.slice ao n c) (k : Int) (f : Int) (t : Int) L D a b q) ∧ Blk w5 Q 30 #[.bool true, .bool L, .slice p2 X.length d2]) := ⟨SZ.out.1.keep hb5, SZ.out.2.keep hb5⟩
  have J5 := Hid.mk' (J4.out.keep hb5)
  have WX5 := Hid.mk' (WX4.out.keep hb5)
  have B5 := Hid.mk' (bT B4.out hb5)
  clear hb5 CH SZ J4 WX4 B4
  dsimp only
  refine hK _ _ ⟨S5.out, ?_⟩
  clear hK K
  try simp only [Act.put, List.getElem_toArray, List.getElem_cons_zero, List.getElem_cons_succ, List.setIfInBounds_toArray, List.set_cons_zero, List.set_cons_succ]
  refine wpAnyH_take (i := 3) (v := .agg #[.slice none 0 0, .int .i64 hm, .bool true, .bool L, .slice p2 X.length d2, .int .i64 1, .bool false]) rfl (by kernel_rfl) (by kernel_rfl) (by kernel_rfl) (fun _ _ _ h => h) (Yields.yieldsIf (Or.inl ⟨by rfl, fun w => by go_simp⟩)) S5.out ?_
  try simp only [Act.put, List.getElem_toArray, List.getElem_cons_zero, List.getElem_cons_succ, List.setIfInBounds_toArray, List.set_cons_zero, List.set_cons_succ]
  refine wpAnyH_all (rs := [4]) (by kernel_rfl) (by simp) (AllH.cons rfl (fun K hK => ?_) AllH.nil)
  obtain ⟨e0, e1, e2, e3, e4, e5, e6⟩ := ef_cells J5.out
  obtain ⟨f0, f1, f2, f3, f4, f5, f6⟩ := ef_frozen J5.out
  have hbk := ef_store J5.out (.slice none 0 0) (.int .i64 hm) (.bool true) (.bool L) (.slice p2 X.length d2) (.int .i64 1) (.bool false)
  have hgr := ef_grown w5 (B + 1) (.slice none 0 0) (.int .i64 hm) (.bool true) (.bool L) (.slice p2 X.length d2) (.int .i64 1) (.bool false)
  have ho1 := ef_off (B := B + 1) S5.out.1 (Nat.ne_of_lt (Nat.lt_succ_self B)) (.slice none 0 0) (.int .i64 hm) (.bool true) (.bool L) (.slice p2 X.length d2) (.int .i64 1) (.bool false)
  have ho2 := ef_off (B := B + 1) S5.out.2 HQB.out (.slice none 0 0) (.int .i64 hm) (.bool true) (.bool L) (.slice p2 X.length d2) (.int .i64 1) (.bool false)
  go_simp
  generalize (((((((w5.setCell ⟨B + 1, 0, none⟩ (.slice none 0 0)).setCell ⟨B + 1, 1, none⟩ (.int .i64 hm)).setCell ⟨B + 1, 2, none⟩ (.bool true)).setCell ⟨B + 1, 3, none⟩ (.bool L)).setCell ⟨B + 1, 4, none⟩ (.slice p2 X.length d2)).setCell ⟨B + 1, 5, none⟩ (.int .i64 1)).setCell ⟨B + 1, 6, none⟩ (.bool false)) = w6 at *
  have S6 := Hid.mk' (And.intro ho1 ho2)
  have J6 := Hid.mk' hbk
  have G6 := Hid.mk' hgr
  clear hbk hgr ho1 ho2 e0 e1 e2 e3 e4 e5 e6 f0 f1 f2 f3 f4 f5 f6
  refine hK _ _ ⟨S6.out, ?_⟩
  clear hK K
  try simp only [Act.put, List.getElem_toArray, List.getElem_cons_zero, List.getElem_cons_succ, List.setIfInBounds_toArray, List.set_cons_zero, List.set_cons_succ]
  refine wpAnyH_take (i := 5) (v := .int .i64 0) rfl (by kernel_rfl) (by kernel_rfl) (by kernel_rfl) (fun _ _ _ h => h) (Yields.yieldsIf (Or.inl ⟨by rfl, fun w => by go_simp⟩)) S6.out ?_
  try simp only [Act.put, List.getElem_toArray, List.getElem_cons_zero, List.getElem_cons_succ, List.setIfInBounds_toArray, List.set_cons_zero, List.set_cons_succ]
  refine wpAnyH_done (by kernel_rfl) ?_ _
  go_wp2_with fail
  obtain ⟨g0, g1, g2, g3, g4, g5, g6⟩ := ef_cells J6.out
  refine bodyPost_ret (v := .tuple #[.agg #[.slice none 0 0, .int .i64 hm, .bool true, .bool L, .slice p2 X.length d2, .int .i64 1, .bool false], .int .i64 0]) (by simp [results, Tryd.results39, go_sem, g0, g1, g2, g3, g4, g5, g6]) rfl ⟨.slice none 0 0, [], .slice p2 X.length d2, rfl, rfl, ⟨Eds.nil _ _ _, ?_, fun k x hx => by simp [tes] at hx⟩, ?_⟩
  · exact ((WX5.out.grown G6.out (.inl (by have := HB.out; have := HW1.out; have := J1s.out; omega))).wide (by have := HW1.out; omega) (Nat.le_trans (Nat.le_trans (by have := HQ.out; have := S5.out.2.lt; omega) (Nat.le_refl _)) G6.out.size))
  · exact (bT L1.out B5.out).grown G6.out (bT L1.out B5.out).size (fun g hg => by injection hg with hg; have := HB.out; omega)
end Go.Proofs.YtppefcnopkmhbaaDoor
