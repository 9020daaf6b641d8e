/- Tsk, Ref3, Rfn -/
import Derived.Test.YtppefcnopkmhbaaGreatDoorPt13
import Derived.Test.YtppefcnopkmhbaaGreatDoorPt07
import Derived.Test.YtppefcnopkmhbaaGreatDoorPt06
import Derived.Test.YtppefcnopkmhbaaGreatDoorPt12
namespace Go.Proofs.YtppefcnopkmhbaaGreatDoor
open Go.RowKit

set_option maxRecDepth 8000
/-- what an operator is given -/
def tsk (tv : Value) (at' F T : Int) (L D : Bool) (a b c : Int) : Value := .agg #[tv, .int .i64 at', .int .i64 F, .int .i64 T, .bool L, .bool D, .int .i64 a, .int .i64 b, .int .i64 c]
def tskC (tv : Value) (at' F T : Int) (L D : Bool) (a b c : Int) : Array Value := #[tv, .int .i64 at', .int .i64 F, .int .i64 T, .bool L, .bool D, .int .i64 a, .int .i64 b, .int .i64 c]
/-- how what is taken goes into a register -/
def hwE (L : Bool) (X : List UInt8) : Int := if L || hasL X then 2 else 3
/-- a call that answers an effect with no edit -/
def TkQ (X : List UInt8) (L : Bool) (h : Int) (w : World) (e : Ending) (w' : World) : Prop := ∃ tv, e = .returned (.agg #[.slice none 0 0, .int .i64 0, .bool true, .bool L, tv, .int .i64 h, .bool false]) ∧ Wb w' w.heap.size w'.heap.size tv X ∧ Below w.heap.size w w'
theorem tsk_cells {W : World} {B : Nat} {tv : Value} {at' F T : Int} {L D : Bool} {a b c : Int} (h : Blk W B 90 (tskC tv at' F T L D a b c)) :
    W.cell? ⟨B, 0, none⟩ = some tv ∧ W.cell? ⟨B, 1, none⟩ = some (.int .i64 at') ∧ W.cell? ⟨B, 2, none⟩ = some (.int .i64 F) ∧ W.cell? ⟨B, 3, none⟩ = some (.int .i64 T) ∧ W.cell? ⟨B, 4, none⟩ = some (.bool L) ∧ W.cell? ⟨B, 5, none⟩ = some (.bool D) ∧ W.cell? ⟨B, 6, none⟩ = some (.int .i64 a) ∧ W.cell? ⟨B, 7, none⟩ = some (.int .i64 b) ∧ W.cell? ⟨B, 8, none⟩ = some (.int .i64 c) :=
  ⟨h.cell rfl, h.cell rfl, h.cell rfl, h.cell rfl, h.cell rfl, h.cell rfl, h.cell rfl, h.cell rfl, h.cell rfl⟩
def ef7 (v : Value) (cur : Int) (set lin : Bool) (tv : Value) (how : Int) (typ : Bool) : Array Value := #[v, .int .i64 cur, .bool set, .bool lin, tv, .int .i64 how, .bool typ]
theorem ef_cells {W : World} {B : Nat} {v tv : Value} {cur how : Int} {set lin typ : Bool} (h : Blk W B 35 (ef7 v cur set lin tv how typ)) :
    W.cell? ⟨B, 0, none⟩ = some v ∧ W.cell? ⟨B, 1, none⟩ = some (.int .i64 cur) ∧ W.cell? ⟨B, 2, none⟩ = some (.bool set) ∧ W.cell? ⟨B, 3, none⟩ = some (.bool lin) ∧ W.cell? ⟨B, 4, none⟩ = some tv ∧ W.cell? ⟨B, 5, none⟩ = some (.int .i64 how) ∧ W.cell? ⟨B, 6, none⟩ = some (.bool typ) :=
  ⟨h.cell rfl, h.cell rfl, h.cell rfl, h.cell rfl, h.cell rfl, h.cell rfl, h.cell rfl⟩
theorem ef_frozen {W : World} {B : Nat} {cs : Array Value} (h : Blk W B 35 cs) :
    W.frozen? ⟨B, 0, none⟩ = false ∧ W.frozen? ⟨B, 1, none⟩ = false ∧ W.frozen? ⟨B, 2, none⟩ = false ∧ W.frozen? ⟨B, 3, none⟩ = false ∧ W.frozen? ⟨B, 4, none⟩ = false ∧ W.frozen? ⟨B, 5, none⟩ = false ∧ W.frozen? ⟨B, 6, none⟩ = false :=
  ⟨h.frozen _, h.frozen _, h.frozen _, h.frozen _, h.frozen _, h.frozen _, h.frozen _⟩
/-- the whole effect is stored -/
theorem ef_store {W : World} {B : Nat} {v0 tv0 : Value} {cur0 how0 : Int} {set0 lin0 typ0 : Bool} (h : Blk W B 35 (ef7 v0 cur0 set0 lin0 tv0 how0 typ0)) (x0 x1 x2 x3 x4 x5 x6 : Value) :
    Blk (((((((W.setCell ⟨B, 0, none⟩ x0).setCell ⟨B, 1, none⟩ x1).setCell ⟨B, 2, none⟩ x2).setCell ⟨B, 3, none⟩ x3).setCell ⟨B, 4, none⟩ x4).setCell ⟨B, 5, none⟩ x5).setCell ⟨B, 6, none⟩ x6) B 35 #[x0, x1, x2, x3, x4, x5, x6] := by
  have := ((((((h.set (j := 0) x0).set (j := 1) x1).set (j := 2) x2).set (j := 3) x3).set (j := 4) x4).set (j := 5) x5).set (j := 6) x6
  simpa [ef7] using this
theorem ef_grown (W : World) (B : Nat) (x0 x1 x2 x3 x4 x5 x6 : Value) :
    W.grownBy (((((((W.setCell ⟨B, 0, none⟩ x0).setCell ⟨B, 1, none⟩ x1).setCell ⟨B, 2, none⟩ x2).setCell ⟨B, 3, none⟩ x3).setCell ⟨B, 4, none⟩ x4).setCell ⟨B, 5, none⟩ x5).setCell ⟨B, 6, none⟩ x6) (some B) :=
  ((((((grown_set W B 0 x0).trans (grown_set _ B 1 x1)).trans (grown_set _ B 2 x2)).trans (grown_set _ B 3 x3)).trans (grown_set _ B 4 x4)).trans (grown_set _ B 5 x5)).trans (grown_set _ B 6 x6)
/-- the box of a task and an effect that begins -/
structure Two (w W : World) (tv : Value) (at' F T : Int) (L D : Bool) (a b k : Int) : Prop where
  bel : Below w.heap.size w W
  tk : Blk W w.heap.size 90 (tskC tv at' F T L D a b k)
  ef : Blk W (w.heap.size + 1) 35 (ef7 (.slice none 0 0) 0 false false (.slice none 0 0) 0 false)
theorem Two.new (w : World) (tv : Value) (at' F T : Int) (L D : Bool) (a b k : Int) : Two w ((w.alloc (.cells (tskC tv at' F T L D a b k) 90)).alloc (.cells (ef7 (.slice none 0 0) 0 false false (.slice none 0 0) 0 false) 35)) tv at' F T L D a b k :=
  ⟨bAlloc (bAlloc (Below.refl _ _) _) _, (Blk.new w 90 _).keep (bAlloc (Below.refl _ _) _), by have := Blk.new (w.alloc (.cells (tskC tv at' F T L D a b k) 90)) 35 (ef7 (.slice none 0 0) 0 false false (.slice none 0 0) 0 false); rwa [World.size_alloc] at this⟩
set_option maxHeartbeats 4000000 in
theorem taken_any (ao : Option Addr) (n c f t : Nat) (at' : Int) (L D : Bool) (a b k : Int) (l : List UInt8) (w : World) (HT : Hid (Tx w ao n c l)) (hbig : n ≤ 1048576) (hg : rgB l (f : Int) (t : Int) L D = true) :
    Calls Tryz.prog 98 #[tsk (.slice ao n c) at' (f : Int) (t : Int) L D a b k] w fun e w' => TkQ (tk l f t L D) L (hwE L (tk l f t L D)) w e w' := by
  show Calls Tryz.prog 98 #[.agg #[.slice ao n c, .int .i64 at', .int .i64 (f : Int), .int .i64 (t : Int), .bool L, .bool D, .int .i64 a, .int .i64 b, .int .i64 k]] w _
  obtain ⟨W1, hW1⟩ : ∃ x, (w.alloc (.cells #[.slice ao n c, .int .i64 at', .int .i64 (f : Int), .int .i64 (t : Int), .bool L, .bool D, .int .i64 a, .int .i64 b, .int .i64 k] 90)).alloc (.cells #[.slice none 0 0, .int .i64 0, .bool false, .bool false, .slice none 0 0, .int .i64 0, .bool false] 35) = x := ⟨_, rfl⟩
  have T1 : Hid (Two w W1 (.slice ao n c) at' (f : Int) (t : Int) L D a b k) := by unfold Hid; rw [← hW1]; exact Two.new w _ _ _ _ _ _ _ _ _
  have CT := Hid.mk' (take_yes ao n c f t L D l W1 (by omega) hg (HT.out.keep T1.out.bel))
  have htl : (tk l f t L D).length ≤ n + 1 := by
    have hl := HT.out.len
    unfold tk
    split
    · rw [List.length_append]; unfold tkb; rw [List.length_take, List.length_drop]; simp; omega
    · unfold tkb; rw [List.length_take, List.length_drop]; omega
  unfold hwE
  generalize tk l f t L D = X at *
  have HXL := Hid.mk' htl
  obtain ⟨B, hB⟩ : ∃ b, w.heap.size = b := ⟨_, rfl⟩
  have HB := Hid.mk' hB
  have K1 : Hid (Blk W1 B 90 (tskC (.slice ao n c) at' (f : Int) (t : Int) L D a b k)) := by unfold Hid; rw [← hB]; exact T1.out.tk
  have J1 : Hid (Blk W1 (B + 1) 35 (ef7 (.slice none 0 0) 0 false false (.slice none 0 0) 0 false)) := by unfold Hid; rw [← hB]; exact T1.out.ef
  have L1 := Hid.mk' T1.out.bel
  have J1s : Hid (B + 1 < W1.heap.size) := J1.out.lt
  obtain ⟨c0, c1, c2, c3, c4, c5, c6, c7, c8⟩ := tsk_cells K1.out
  obtain ⟨hh, hhe⟩ : ∃ hh, (if (L || hasL X) = true then (2 : Int) else 3) = hh := ⟨_, rfl⟩
  rw [hhe]
  have HH := Hid.mk' hhe
  clear T1 htl hg HT hhe
  go_enter Tryz.func98, Tryz.ntmps98
  go_upto_region 1 with fail
  clear hW1 hB
  go_wp2_with fail
  refine CT.out.mono ?_
  rintro e w2 ⟨v, rfl, hO, hb2⟩
  unfold tr
  have W2 := Hid.mk' (Wb.new hO)
  have B2 := Hid.mk' hb2
  have K2 := Hid.mk' (K1.out.keep hb2)
  have J2 := Hid.mk' (J1.out.keep hb2)
  clear hO hb2 CT K1 J1 c0 c1 c2 c3 c4 c5 c6 c7 c8
  obtain ⟨p2, d2, rfl⟩ := W2.out.shape
  dsimp only
  obtain ⟨W3, hW3⟩ : ∃ x, w2.alloc (.cells #[.bool true, .bool L, .slice p2 X.length d2] 33) = x := ⟨_, rfl⟩
  obtain ⟨Q, hQ⟩ : ∃ q, w2.heap.size = q := ⟨_, rfl⟩
  have HQ := Hid.mk' hQ
  have hb3 : Below w2.heap.size w2 W3 := by rw [← hW3]; exact bAlloc (Below.refl _ _) _
  have R3 : Hid (Blk W3 Q 33 #[.bool true, .bool L, .slice p2 X.length d2]) := by unfold Hid; rw [← hW3, ← hQ]; exact Blk.new w2 33 _
  have HS3 : Hid (W3.heap.size = Q + 1) := by unfold Hid; rw [← hW3, ← hQ]; exact World.size_alloc _ _
  have K3 := Hid.mk' (K2.out.keep hb3)
  have J3 := Hid.mk' (J2.out.keep hb3)
  have WX3 := Hid.mk' (W2.out.keep hb3)
  have B3 := Hid.mk' (bT L1.out (bT B2.out hb3))
  have HW1 := Hid.mk' L1.out.size
  clear hb3 K2 J2 W2
  go_upto_region 2 with fail
  clear hW3 hQ
  obtain ⟨c0, c1, c2, c3, c4, c5, c6, c7, c8⟩ := tsk_cells K3.out
  have r0 : W3.cell? ⟨Q, 0, none⟩ = some (.bool true) := R3.out.cell rfl
  have r1 : W3.cell? ⟨Q, 1, none⟩ = some (.bool L) := R3.out.cell rfl
  have r2 : W3.cell? ⟨Q, 2, none⟩ = some (.slice p2 X.length d2) := R3.out.cell rfl
  have hfin : ∀ (h : Int) (W4 : World), Below W3.heap.size W3 W4 → TkQ X L h w (.returned (.agg #[.slice none 0 0, .int .i64 0, .bool true, .bool L, .slice p2 X.length d2, .int .i64 h, .bool false])) (((((((W4.setCell ⟨B + 1, 0, none⟩ (.slice none 0 0)).setCell ⟨B + 1, 1, none⟩ (.int .i64 0)).setCell ⟨B + 1, 2, none⟩ (.bool true)).setCell ⟨B + 1, 3, none⟩ (.bool L)).setCell ⟨B + 1, 4, none⟩ (.slice p2 X.length d2)).setCell ⟨B + 1, 5, none⟩ (.int .i64 h)).setCell ⟨B + 1, 6, none⟩ (.bool false)) ∧ Blk (((((((W4.setCell ⟨B + 1, 0, none⟩ (.slice none 0 0)).setCell ⟨B + 1, 1, none⟩ (.int .i64 0)).setCell ⟨B + 1, 2, none⟩ (.bool true)).setCell ⟨B + 1, 3, none⟩ (.bool L)).setCell ⟨B + 1, 4, none⟩ (.slice p2 X.length d2)).setCell ⟨B + 1, 5, none⟩ (.int .i64 h)).setCell ⟨B + 1, 6, none⟩ (.bool false)) (B + 1) 35 (ef7 (.slice none 0 0) 0 true L (.slice p2 X.length d2) h false) := fun h W4 hW => by
    have hg := ef_grown W4 (B + 1) (.slice none 0 0) (.int .i64 0) (.bool true) (.bool L) (.slice p2 X.length d2) (.int .i64 h) (.bool false)
    have hb4 := bT B3.out hW
    have hlt : B + 1 < W1.heap.size := by have := (J1s).out; exact this
    refine ⟨⟨_, rfl, ((WX3.out.keep hW).grown hg (by omega)).wide (by have := HB.out; have := HW1.out; omega) ?_, hb4.grown hg hb4.size (fun g hg' => by injection hg' with hg'; have := HB.out; omega)⟩, ef_store (J3.out.keep hW) _ _ _ _ _ _ _⟩
    have h1 := hW.size
    have h2 := hg.size
    have h3 := HS3.out
    have h4 := HQ.out
    omega
  have HF := Hid.mk' hfin
  clear hfin
  cases L with
  | true =>
    obtain ⟨e0, e1, e2, e3, e4, e5, e6⟩ := ef_cells J3.out
    obtain ⟨f0, f1, f2, f3, f4, f5, f6⟩ := ef_frozen J3.out
    have hF := HF.out 2 W3 (Below.refl _ _)
    obtain rfl : (2 : Int) = hh := HH.out
    obtain ⟨hq1, hq2⟩ := hF
    obtain ⟨g0, g1, g2, g3, g4, g5, g6⟩ := ef_cells hq2
    have HQ1 := Hid.mk' hq1
    clear hq1 hq2
    go_wp2_with fail
    exact bodyPost_ret (v := .agg #[.slice none 0 0, .int .i64 0, .bool true, .bool true, .slice p2 X.length d2, .int .i64 2, .bool false]) (by simp [results, Tryz.results98, go_sem, g0, g1, g2, g3, g4, g5, g6]) rfl HQ1.out
  | false =>
    obtain ⟨W4, hW4⟩ : ∃ x, W3.alloc (.cells #[.int .u8 10] 5) = x := ⟨_, rfl⟩
    obtain ⟨Z, hZ⟩ : ∃ q, W3.heap.size = q := ⟨_, rfl⟩
    have hb4 : Below W3.heap.size W3 W4 := by rw [← hW4]; exact bAlloc (Below.refl _ _) _
    have N4 : Hid (Blk W4 Z 5 #[.int .u8 10]) := by unfold Hid; rw [← hW4, ← hZ]; exact Blk.new W3 5 _
    have CC := Hid.mk' (contains_any p2 X.length d2 Z X W4 ((WX3.out.keep hb4).tx (by have := HXL.out; omega)) (N4.out.cell rfl))
    have J4 := Hid.mk' (J3.out.keep hb4)
    have R4 := Hid.mk' (R3.out.keep hb4)
    have hF := HF.out hh W4 hb4
    have HH2 : Hid ((if hasL X = true then (2 : Int) else 3) = hh) := HH.out
    clear hb4 HF HH
    go_upto_if 21 with (first | (go_at_call 86; refine CC.out.mono ?_; rintro e w5 ⟨rfl, hw⟩; have hq := hw.symm; subst hq; clear hw) | fail)
    clear hW4 hZ c0 c1 c2 c3 c4 c5 c6 c7 c8 r0 r1 r2
    obtain ⟨e0, e1, e2, e3, e4, e5, e6⟩ := ef_cells J4.out
    obtain ⟨f0, f1, f2, f3, f4, f5, f6⟩ := ef_frozen J4.out
    have r0 : W4.cell? ⟨Q, 0, none⟩ = some (.bool true) := R4.out.cell rfl
    have r1 : W4.cell? ⟨Q, 1, none⟩ = some (.bool false) := R4.out.cell rfl
    have r2 : W4.cell? ⟨Q, 2, none⟩ = some (.slice p2 X.length d2) := R4.out.cell rfl
    generalize hasL X = q at *
    cases q with
    | true =>
      obtain rfl : (2 : Int) = hh := HH2.out
      obtain ⟨hq1, hq2⟩ := hF
      obtain ⟨g0, g1, g2, g3, g4, g5, g6⟩ := ef_cells hq2
      have HQ1 := Hid.mk' hq1
      clear hq1 hq2
      go_wp2_with fail
      exact bodyPost_ret (v := .agg #[.slice none 0 0, .int .i64 0, .bool true, .bool false, .slice p2 X.length d2, .int .i64 2, .bool false]) (by simp [results, Tryz.results98, go_sem, g0, g1, g2, g3, g4, g5, g6]) rfl HQ1.out
    | false =>
      obtain rfl : (3 : Int) = hh := HH2.out
      obtain ⟨hq1, hq2⟩ := hF
      obtain ⟨g0, g1, g2, g3, g4, g5, g6⟩ := ef_cells hq2
      have HQ1 := Hid.mk' hq1
      clear hq1 hq2
      go_wp2_with fail
      exact bodyPost_ret (v := .agg #[.slice none 0 0, .int .i64 0, .bool true, .bool false, .slice p2 X.length d2, .int .i64 3, .bool false]) (by simp [results, Tryz.results98, go_sem, g0, g1, g2, g3, g4, g5, g6]) rfl HQ1.out
end Go.Proofs.YtppefcnopkmhbaaGreatDoor

namespace Go.Proofs.YtppefcnopkmhbaaGreatDoor
open Go.RowKit

set_option maxRecDepth 8000
theorem bg_yes {l : List UInt8} {k : Nat} (h : 0 < k) (hp : (((at8 l (k - 1)).toNat : Int) == 10) = true) : bg l k = k := by
  obtain ⟨j, rfl⟩ : ∃ j, k = j + 1 := ⟨k - 1, by omega⟩
  unfold bg
  rw [if_pos (show le (at8 l j) = true from hp)]
set_option maxHeartbeats 1000000 in
theorem refEnd_any (ao : Option Addr) (n c : Nat) (L : Int) (l : List UInt8) (w : World) (h63 : L ≤ 9223372036854775807) (HT : Hid (Tx w ao n c l)) :
    Calls Tryz.prog 44 #[.slice ao n c, .int .i64 L] w fun e w' => e = pr (aEnd l L) ∧ w' = w := by
  have hbig : (n : Int) ≤ 150000000000000 := by have := HT.out.big; omega
  have HL : Hid (l.length = n) := HT.out.len
  have C0 := refStart_any ao n c L l w h63 HT
  cases hb : lnB l L with
  | true =>
    obtain ⟨k, rfl, hk⟩ := ln_yes hb
    have HA : Hid (pr (aEnd l (k : Int)) = .returned (.tuple #[.int .i64 (en l (sp l k)), .int .i64 0])) := by unfold Hid pr aEnd ans; rw [hb]; rfl
    have HB : pr (aStart l (k : Int)) = .returned (.tuple #[.int .i64 (sp l k), .int .i64 0]) := by unfold pr aStart ans; rw [hb]; rfl
    rw [HB] at C0
    have C1 := Hid.mk' C0
    have hs : sp l k ≤ n := by have := sp_le hk; rw [HL.out] at this; exact this
    clear hb C0 HB
    generalize sp l k = S at *
    go_enter Tryz.func44, Tryz.ntmps44
    go_wp2_with (go_at_call 45; refine C1.out.mono ?_; rintro e w' ⟨rfl, hw⟩; have hq := hw.symm; subst hq)
    go_loopw [6] (fun u wr => ∃ i : Nat, u = .int .i64 i ∧ S ≤ i ∧ i ≤ en l S ∧ wr = w) (fun u _ => n - (intOf u).toNat)
    case atStart => exact ⟨S, rfl, Nat.le_refl _, en_ge l S, by first | rfl | trivial⟩
    case round =>
      obtain ⟨i, rfl, hSi, hiE, hw0⟩ := hrel
      have hE : en l S ≤ n := by have := en_le (t := l) (s := S) (by rw [HL.out]; exact hs); rw [HL.out] at this; exact this
      have hi0 : (0 : Int) ≤ (i : Int) := by omega
      by_cases hlt : i < n
      · obtain ⟨g, o, rfl, hc⟩ := HT.out.at (by omega)
        have hc0 := hc i hlt
        have hin : (i : Int) < (n : Int) := by omega
        clear hc
        cases h10 : (((at8 l i).toNat : Int) == 10) with
        | false =>
          have hne : (((at8 l i).toNat : Int) != 10) = true := by simp only [bne, h10]; rfl
          have HI : Hid (i < en l S) := by
            unfold Hid
            rcases Nat.lt_or_ge i (en l S) with h | h
            · exact h
            · exfalso
              have e0 : en l S = i := by omega
              have := en_edge (t := l) (s := S) (by rw [e0, HL.out]; exact hlt)
              rw [e0, le_of h10] at this
              simp at this
          go_wp2
          go_roundw
          case rel => exact ⟨i + 1, by go_num, by omega, HI.out, by first | trivial | exact hw0⟩
          case measure => first | (simp [intOf]; done) | (simp [intOf]; omega)
        | true =>
          have hne : (((at8 l i).toNat : Int) != 10) = false := by simp only [bne, h10]; rfl
          have HI : Hid (en l S = i) := by
            unfold Hid
            rcases Nat.lt_or_ge i (en l S) with h | h
            · exfalso
              have := en_none hSi h
              rw [le_of h10] at this
              simp at this
            · omega
          go_wp2
          go_ret2
          exact ⟨by rw [HA.out, HI.out]; rfl, by first | trivial | exact hw0⟩
      · have HI : Hid (en l S = i) := by unfold Hid; omega
        have hin : ¬ (i : Int) < (n : Int) := by omega
        go_wp2
        go_ret2
        exact ⟨by rw [HA.out, HI.out]; rfl, by first | trivial | exact hw0⟩
  | false =>
    have HA : Hid (pr (aEnd l L) = .returned (.tuple #[.int .i64 0, .int .i64 2])) := by unfold Hid pr aEnd ans; rw [hb]; rfl
    have HB : pr (aStart l L) = .returned (.tuple #[.int .i64 0, .int .i64 2]) := by unfold pr aStart ans; rw [hb]; rfl
    rw [HB] at C0
    have C1 := Hid.mk' C0
    clear hb C0 HB
    go_enter Tryz.func44, Tryz.ntmps44
    go_wp2_with (go_at_call 45; refine C1.out.mono ?_; rintro e w' ⟨rfl, hw⟩; have hq := hw.symm; subst hq)
    go_ret2
    exact ⟨by rw [HA.out]; rfl, rfl⟩
set_option maxHeartbeats 1000000 in
theorem begin_any (ao : Option Addr) (n c k : Nat) (l : List UInt8) (w : World) (hk : k ≤ n) (HT : Hid (Tx w ao n c l)) :
    Calls Tryz.prog 62 #[.slice ao n c, .int .i64 k] w fun e w' => e = .returned (.int .i64 (bg l k)) ∧ w' = w := by
  have hbig : (n : Int) ≤ 150000000000000 := by have := HT.out.big; omega
  go_enter Tryz.func62, Tryz.ntmps62
  go_wp2_with fail
  go_loopw [1] (fun u wr => ∃ j : Nat, u = .int .i64 (j : Int) ∧ j ≤ n ∧ bg l k = bg l j ∧ wr = w) (fun u _ => (intOf u).toNat)
  case atStart => exact ⟨k, rfl, hk, rfl, rfl⟩
  case round =>
    obtain ⟨j, rfl, hj, hbg, rfl⟩ := hrel
    have HG : Hid (bg l k = bg l j) := hbg
    clear hbg
    by_cases hz : j = 0
    · subst hz
      go_wp2
      go_ret
      exact ⟨by rw [HG.out]; rfl, rfl⟩
    · obtain ⟨g, o, rfl, hc⟩ := HT.out.at (by omega)
      have hc0 := hc (j - 1) (by omega)
      have hi0 : (1 : Int) ≤ (j : Int) := by omega
      have hi1 : (0 : Int) < (j : Int) := by omega
      have hin : (j : Int) - 1 < (n : Int) := by omega
      clear hc
      cases h10 : (((at8 l (j - 1)).toNat : Int) == 10) with
      | true =>
        have hne : (((at8 l (j - 1)).toNat : Int) != 10) = false := by simp only [bne, h10]; rfl
        have HB : Hid (bg l j = j) := bg_yes (by omega) h10
        go_wp2
        go_ret
        exact ⟨by rw [HG.out, HB.out]; rfl, rfl⟩
      | false =>
        have hne : (((at8 l (j - 1)).toNat : Int) != 10) = true := by simp only [bne, h10]; rfl
        have HB : Hid (bg l j = bg l (j - 1)) := by
          unfold Hid
          obtain ⟨i, rfl⟩ : ∃ i, j = i + 1 := ⟨j - 1, by omega⟩
          conv => lhs; unfold bg
          rw [if_neg (by rw [show le (at8 l i) = false from h10]; simp)]
          rfl
        go_wp2
        go_roundw
        case rel => exact ⟨j - 1, by congr 1; omega, by omega, by rw [HG.out, HB.out], by trivial⟩
        case measure => first | (simp [intOf]; done) | (simp [intOf]; omega)
set_option maxHeartbeats 400000 in
theorem refColumn_any (ao : Option Addr) (n c : Nat) (i : Int) (l : List UInt8) (w : World) (HT : Hid (Tx w ao n c l)) :
    Calls Tryz.prog 27 #[.slice ao n c, .int .i64 i] w fun e w' => e = pr (aCol l i) ∧ w' = w := by
  have hlen := HT.out.len
  have hbig : (n : Int) ≤ 150000000000000 := by have := HT.out.big; omega
  cases hb : plB l i with
  | true =>
    obtain ⟨k, rfl, hk⟩ := pl_yes hb
    have HA : Hid (pr (aCol l (k : Int)) = .returned (.tuple #[.int .i64 ((k - bg l k : Nat) : Int), .int .i64 0])) := by unfold Hid pr aCol ans; rw [hb]; rfl
    have hkn : k ≤ n := by omega
    have hk0 : ¬ (k : Int) < 0 := by omega
    have hk1 : ¬ (k : Int) > (n : Int) := by omega
    have hbk : (bg l k : Int) ≤ k := by have := bg_le l k; omega
    have hb0 : (0 : Int) ≤ (bg l k : Int) := by omega
    clear hb hlen
    go_enter Tryz.func27, Tryz.ntmps27
    go_wp2_with (go_at_call 62; refine (begin_any _ _ _ k l _ hkn HT).mono ?_; rintro e w2 ⟨rfl, hw⟩; subst hw)
    go_ret2
    refine ⟨?_, rfl⟩
    rw [HA.out]
    have e1 : ((k - bg l k : Nat) : Int) = (k : Int) - bg l k := by omega
    rw [e1]
    rfl
  | false =>
    have hno := pl_no hlen hb
    have HA : Hid (pr (aCol l i) = .returned (.tuple #[.int .i64 0, .int .i64 2])) := by unfold Hid pr aCol ans; rw [hb]; rfl
    clear hb
    by_cases h0 : i < 0
    · go_enter Tryz.func27, Tryz.ntmps27
      go_wp2
      go_ret2
      exact ⟨by rw [HA.out]; rfl, rfl⟩
    · have h1 : (n : Int) < i := by omega
      clear hno
      go_enter Tryz.func27, Tryz.ntmps27
      go_wp2
      go_ret2
      exact ⟨by rw [HA.out]; rfl, rfl⟩
set_option maxHeartbeats 1000000 in
theorem refAt_any (ao : Option Addr) (n c : Nat) (L C : Int) (l : List UInt8) (w : World) (h63 : L ≤ 9223372036854775807) (hC : C ≤ 9223372036854775807) (HT : Hid (Tx w ao n c l)) :
    Calls Tryz.prog 28 #[.slice ao n c, .int .i64 L, .int .i64 C] w fun e w' => e = pr (aAt l L C) ∧ w' = w := by
  have C0 := refStart_any ao n c L l w h63 HT
  have D0 := refEnd_any ao n c L l w h63 HT
  cases hb : lnB l L with
  | true =>
    obtain ⟨k, rfl, hk⟩ := ln_yes hb
    have HB : pr (aStart l (k : Int)) = .returned (.tuple #[.int .i64 (sp l k), .int .i64 0]) := by unfold pr aStart ans; rw [hb]; rfl
    have HD : pr (aEnd l (k : Int)) = .returned (.tuple #[.int .i64 (en l (sp l k)), .int .i64 0]) := by unfold pr aEnd ans; rw [hb]; rfl
    rw [HB] at C0
    rw [HD] at D0
    by_cases hlow : C < -1
    · have HA : Hid (pr (aAt l (k : Int) C) = .returned (.tuple #[.int .i64 0, .int .i64 2])) := by
        unfold Hid pr aAt ans
        rw [hb, decide_eq_false (show ¬ (-1 ≤ C) by omega)]; rfl
      have C1 := Hid.mk' C0
      clear hb C0 D0 HB HD
      go_enter Tryz.func28, Tryz.ntmps28
      go_wp2_with (go_at_call 45; refine C1.out.mono ?_; rintro e w' ⟨rfl, hw⟩; subst hw)
      go_ret2
      exact ⟨by rw [HA.out]; rfl, rfl⟩
    · have HA : Hid (pr (aAt l (k : Int) C) = .returned (.tuple #[.int .i64 (pc (sp l k) (en l (sp l k)) C), .int .i64 0])) := by
        unfold Hid pr aAt ans
        rw [hb, decide_eq_true (show -1 ≤ C by omega)]; rfl
      have he : en l (sp l k) ≤ n := by have := en_le (sp_le hk); rw [HT.out.len] at this; exact this
      have hse := en_ge l (sp l k)
      have hbig : (n : Int) ≤ 150000000000000 := by have := HT.out.big; omega
      clear HB HD
      generalize en l (sp l k) = E at *
      generalize sp l k = S at *
      have hE : (E : Int) ≤ 150000000000000 := by omega
      have hSE : (S : Int) ≤ (E : Int) := by omega
      have hS0 : (0 : Int) ≤ (S : Int) := by omega
      have C1 := Hid.mk' C0
      have C2 := Hid.mk' D0
      clear hb C0 D0
      by_cases hin : 0 ≤ C ∧ C < (E : Int) - S
      · obtain ⟨j, rfl⟩ := Int.eq_ofNat_of_zero_le hin.1
        have HP : Hid (pc S E (j : Int) = S + j) := by unfold Hid pc; rw [if_pos hin]; simp
        have hin1 := hin.1
        have hin2 := hin.2
        clear hin
        go_enter Tryz.func28, Tryz.ntmps28
        go_wp2_with (first | (go_at_call 45; refine C1.out.mono ?_; rintro e w' ⟨rfl, hw⟩; have hq := hw.symm; subst hq) | (go_at_call 44; refine C2.out.mono ?_; rintro e w' ⟨rfl, hw⟩; have hq := hw.symm; subst hq))
        go_ret2
        refine ⟨?_, rfl⟩
        rw [HA.out, HP.out]
        push_cast
        rfl
      · have HP : Hid (pc S E C = lb S E) := by unfold Hid pc; rw [if_neg hin]
        have hC1 : -1 ≤ C := by omega
        have hout : C < 0 ∨ (0 ≤ C ∧ (E : Int) - S ≤ C) := by omega
        clear hin
        by_cases hlt : S < E
        · have hlt' : (S : Int) < E := by omega
          have HQ : Hid ((lb S E : Int) = (E : Int) - 1) := lb_lt hlt
          rcases hout with h0 | ⟨h0, h1⟩
          · go_enter Tryz.func28, Tryz.ntmps28
            go_wp2_with (first | (go_at_call 45; refine C1.out.mono ?_; rintro e w' ⟨rfl, hw⟩; have hq := hw.symm; subst hq) | (go_at_call 44; refine C2.out.mono ?_; rintro e w' ⟨rfl, hw⟩; have hq := hw.symm; subst hq))
            go_ret2
            exact ⟨by rw [HA.out, HP.out, HQ.out]; rfl, rfl⟩
          · go_enter Tryz.func28, Tryz.ntmps28
            go_wp2_with (first | (go_at_call 45; refine C1.out.mono ?_; rintro e w' ⟨rfl, hw⟩; have hq := hw.symm; subst hq) | (go_at_call 44; refine C2.out.mono ?_; rintro e w' ⟨rfl, hw⟩; have hq := hw.symm; subst hq))
            go_ret2
            exact ⟨by rw [HA.out, HP.out, HQ.out]; rfl, rfl⟩
        · have hlt' : ¬ (S : Int) < E := by omega
          have HQ : Hid (lb S E = S) := lb_eq (by omega)
          rcases hout with h0 | ⟨h0, h1⟩
          · go_enter Tryz.func28, Tryz.ntmps28
            go_wp2_with (first | (go_at_call 45; refine C1.out.mono ?_; rintro e w' ⟨rfl, hw⟩; have hq := hw.symm; subst hq) | (go_at_call 44; refine C2.out.mono ?_; rintro e w' ⟨rfl, hw⟩; have hq := hw.symm; subst hq))
            go_ret2
            exact ⟨by rw [HA.out, HP.out, HQ.out]; rfl, rfl⟩
          · go_enter Tryz.func28, Tryz.ntmps28
            go_wp2_with (first | (go_at_call 45; refine C1.out.mono ?_; rintro e w' ⟨rfl, hw⟩; have hq := hw.symm; subst hq) | (go_at_call 44; refine C2.out.mono ?_; rintro e w' ⟨rfl, hw⟩; have hq := hw.symm; subst hq))
            go_ret2
            exact ⟨by rw [HA.out, HP.out, HQ.out]; rfl, rfl⟩
  | false =>
    have HA : Hid (pr (aAt l L C) = .returned (.tuple #[.int .i64 0, .int .i64 2])) := by unfold Hid pr aAt ans; rw [hb]; rfl
    have HB : pr (aStart l L) = .returned (.tuple #[.int .i64 0, .int .i64 2]) := by unfold pr aStart ans; rw [hb]; rfl
    rw [HB] at C0
    have C1 := Hid.mk' C0
    clear hb C0 D0 HB
    go_enter Tryz.func28, Tryz.ntmps28
    go_wp2_with (go_at_call 45; refine C1.out.mono ?_; rintro e w' ⟨rfl, hw⟩; subst hw)
    go_ret2
    exact ⟨by rw [HA.out]; rfl, rfl⟩
set_option maxHeartbeats 1000000 in
theorem refFirst_any (ao : Option Addr) (n c : Nat) (L : Int) (l : List UInt8) (w : World) (h63 : L ≤ 9223372036854775807) (HT : Hid (Tx w ao n c l)) :
    Calls Tryz.prog 53 #[.slice ao n c, .int .i64 L] w fun e w' => e = pr (aFirst l L) ∧ w' = w := by
  have C0 := refStart_any ao n c L l w h63 HT
  have D0 := refEnd_any ao n c L l w h63 HT
  cases hb : lnB l L with
  | true =>
    obtain ⟨k, rfl, hk⟩ := ln_yes hb
    have HA : Hid (pr (aFirst l (k : Int)) = .returned (.tuple #[.int .i64 (fb l (lb (sp l k) (en l (sp l k))) (en l (sp l k) - sp l k) (sp l k)), .int .i64 0])) := by unfold Hid pr aFirst ans; rw [hb]; rfl
    have HB : pr (aStart l (k : Int)) = .returned (.tuple #[.int .i64 (sp l k), .int .i64 0]) := by unfold pr aStart ans; rw [hb]; rfl
    have HD : pr (aEnd l (k : Int)) = .returned (.tuple #[.int .i64 (en l (sp l k)), .int .i64 0]) := by unfold pr aEnd ans; rw [hb]; rfl
    rw [HB] at C0
    rw [HD] at D0
    have he : en l (sp l k) ≤ n := by have := en_le (sp_le hk); rw [HT.out.len] at this; exact this
    have hse := en_ge l (sp l k)
    have hbig : (n : Int) ≤ 150000000000000 := by have := HT.out.big; omega
    clear HB HD
    generalize en l (sp l k) = E at *
    generalize sp l k = S at *
    have hE : (E : Int) ≤ 150000000000000 := by omega
    have C1 := Hid.mk' C0
    have C2 := Hid.mk' D0
    clear hb C0 D0
    go_enter Tryz.func53, Tryz.ntmps53
    go_wp2_with (first | (go_at_call 45; refine C1.out.mono ?_; rintro e w' ⟨rfl, hw⟩; have hq := hw.symm; subst hq) | (go_at_call 44; refine C2.out.mono ?_; rintro e w' ⟨rfl, hw⟩; have hq := hw.symm; subst hq))
    go_loopw [10] (fun u wr => ∃ i : Nat, u = .int .i64 i ∧ S ≤ i ∧ i ≤ E ∧ fb l (lb S E) (E - S) S = fb l (lb S E) (E - i) i ∧ wr = w) (fun u _ => E - (intOf u).toNat)
    case atStart => exact ⟨S, rfl, Nat.le_refl _, hse, rfl, by first | rfl | trivial⟩
    case round =>
      obtain ⟨i, rfl, hSi, hiE, hfb, hw0⟩ := hrel
      have HF : Hid (fb l (lb S E) (E - S) S = fb l (lb S E) (E - i) i) := hfb
      clear hfb
      by_cases hlt : i < E
      · obtain ⟨g, o, rfl, hc⟩ := HT.out.at (by omega)
        have hc0 := hc i (by omega)
        have hi0 : (0 : Int) ≤ (i : Int) := by omega
        have hin : (i : Int) < (n : Int) := by omega
        have hiE' : (i : Int) < (E : Int) := by omega
        clear hc
        have HN0 : Hid (bl (at8 l i) = (((at8 l i).toNat : Int) == 32 || ((at8 l i).toNat : Int) == 9)) := rfl
        cases h32 : (((at8 l i).toNat : Int) == 32) with
        | true =>
          have hne : (((at8 l i).toNat : Int) != 32) = false := by simp only [bne, h32]; rfl
          have HN : Hid (fb l (lb S E) (E - i) i = fb l (lb S E) (E - (i + 1)) (i + 1)) := by
            unfold Hid
            rw [show E - i = (E - (i + 1)) + 1 from by omega]
            conv => lhs; unfold fb
            rw [if_pos (by rw [HN0.out, h32]; rfl)]
          go_wp2
          go_roundw
          case rel => exact ⟨i + 1, by go_num, by omega, by omega, by rw [HF.out, HN.out], by first | trivial | exact hw0⟩
          case measure => first | (simp [intOf]; done) | (simp [intOf]; omega)
        | false =>
          have hne : (((at8 l i).toNat : Int) != 32) = true := by simp only [bne, h32]; rfl
          cases h9 : (((at8 l i).toNat : Int) == 9) with
          | true =>
            have hne9 : (((at8 l i).toNat : Int) != 9) = false := by simp only [bne, h9]; rfl
            have HN : Hid (fb l (lb S E) (E - i) i = fb l (lb S E) (E - (i + 1)) (i + 1)) := by
              unfold Hid
              rw [show E - i = (E - (i + 1)) + 1 from by omega]
              conv => lhs; unfold fb
              rw [if_pos (by rw [HN0.out, h32, h9]; rfl)]
            go_wp2
            go_roundw
            case rel => exact ⟨i + 1, by go_num, by omega, by omega, by rw [HF.out, HN.out], by first | trivial | exact hw0⟩
            case measure => first | (simp [intOf]; done) | (simp [intOf]; omega)
          | false =>
            have hne9 : (((at8 l i).toNat : Int) != 9) = true := by simp only [bne, h9]; rfl
            have HN : Hid (fb l (lb S E) (E - i) i = i) := by
              unfold Hid
              rw [show E - i = (E - (i + 1)) + 1 from by omega]
              conv => lhs; unfold fb
              rw [if_neg (by rw [HN0.out, h32, h9]; simp)]
            go_wp2
            go_ret2
            exact ⟨by rw [HA.out, HF.out, HN.out]; rfl, by first | trivial | exact hw0⟩
      · obtain rfl : i = E := by omega
        have HN : Hid (fb l (lb S i) (i - i) i = lb S i) := by unfold Hid; rw [Nat.sub_self]; rfl
        by_cases hlt2 : S < i
        · have hlt' : (S : Int) < i := by omega
          have HQ : Hid ((lb S i : Int) = (i : Int) - 1) := lb_lt hlt2
          go_wp2
          go_ret2
          exact ⟨by rw [HA.out, HF.out, HN.out, HQ.out]; rfl, by first | trivial | exact hw0⟩
        · have hlt' : ¬ (S : Int) < i := by omega
          have HQ : Hid (lb S i = S) := lb_eq (by omega)
          go_wp2
          go_ret2
          exact ⟨by rw [HA.out, HF.out, HN.out, HQ.out]; rfl, by first | trivial | exact hw0⟩
  | false =>
    have HA : Hid (pr (aFirst l L) = .returned (.tuple #[.int .i64 0, .int .i64 2])) := by unfold Hid pr aFirst ans; rw [hb]; rfl
    have HB : pr (aStart l L) = .returned (.tuple #[.int .i64 0, .int .i64 2]) := by unfold pr aStart ans; rw [hb]; rfl
    rw [HB] at C0
    have C1 := Hid.mk' C0
    clear hb C0 D0 HB
    go_enter Tryz.func53, Tryz.ntmps53
    go_wp2_with (go_at_call 45; refine C1.out.mono ?_; rintro e w' ⟨rfl, hw⟩; subst hw)
    go_ret2
    exact ⟨by rw [HA.out]; rfl, rfl⟩
end Go.Proofs.YtppefcnopkmhbaaGreatDoor

namespace Go.Proofs.YtppefcnopkmhbaaGreatDoor
open Go.RowKit

set_option maxRecDepth 8000
theorem hasL_none {l : List UInt8} (h : ∀ j, j < l.length → le (at8 l j) = false) : hasL l = false := by
  refine decide_eq_false fun h2 => ?_
  have h3 := List.findIdx_getElem (w := h2)
  rw [← at8_eq h2, h _ h2] at h3
  cases h3
theorem hasL_some {l : List UInt8} {j : Nat} (hj : j < l.length) (h : le (at8 l j) = true) : hasL l = true := by
  refine decide_eq_true (List.findIdx_lt_length.2 ⟨l[j], List.getElem_mem hj, ?_⟩)
  rw [← at8_eq hj]; exact h
set_option maxHeartbeats 2000000 in
theorem rtaken_any (ao : Option Addr) (n c : Nat) (l : List UInt8) (L : Bool) (w : World) (HT : Hid (Tx w ao n c l)) (hn : n ≤ 140737488355328) :
    Calls Tryz.prog 26 #[.slice ao n c, .bool L] w fun e w' => e = .returned (.int .i64 (hwE L l)) ∧ w' = w := by
  have HL : Hid (l.length = n) := HT.out.len
  cases L with
  | true =>
    have HH : Hid (hwE true l = 2) := rfl
    go_enter Tryz.func26, Tryz.ntmps26
    go_wp2
    go_ret
    exact ⟨by rw [HH.out]; rfl, rfl⟩
  | false =>
    go_enter Tryz.func26, Tryz.ntmps26
    go_wp2_with fail
    go_loopw [5] (fun v wr => ∃ i : Nat, v = .int .i64 i ∧ i ≤ n ∧ (∀ j, j < i → le (at8 l j) = false) ∧ wr = w) (fun v _ => n - (intOf v).toNat)
    case atStart => exact ⟨0, rfl, Nat.zero_le _, fun j hj => by omega, rfl⟩
    case round =>
      obtain ⟨i, rfl, hi, hno, rfl⟩ := hrel
      have HNO := Hid.mk' hno
      clear hno
      by_cases hlt : i < n
      · obtain ⟨g, o, rfl, hc⟩ := HT.out.at (by omega)
        have hc0 := hc i hlt
        have hi0 : (0 : Int) ≤ (i : Int) := by omega
        have hin : (i : Int) < (n : Int) := by omega
        clear hc
        cases h10 : (((at8 l i).toNat : Int) == 10) with
        | false =>
          have HN2 : Hid (∀ j, j < i + 1 → le (at8 l j) = false) := fun j hj => by
            by_cases e : j = i
            · subst e; exact le_of h10
            · exact HNO.out j (by omega)
          go_wp2
          go_roundw
          case rel => exact ⟨i + 1, by go_num, by omega, HN2.out, by trivial⟩
          case measure => first | (simp [intOf]; done) | (simp [intOf]; omega)
        | true =>
          have HH : Hid (hwE false l = 2) := by unfold Hid hwE; rw [hasL_some (by rw [HL.out]; exact hlt) (le_of h10)]; rfl
          go_wp2
          go_ret
          exact ⟨by rw [HH.out]; rfl, rfl⟩
      · obtain rfl : i = n := by omega
        have HH : Hid (hwE false l = 3) := by unfold Hid hwE; rw [hasL_none (fun j hj => HNO.out j (by rw [← HL.out]; exact hj))]; rfl
        go_wp2
        go_ret
        exact ⟨by rw [HH.out]; rfl, rfl⟩
theorem rapply_q (ao : Option Addr) (n c : Nat) (T : List UInt8) (eo : Option Addr) (en ec : Nat) (E : List Er) (w : World) (hT : Hid (Tx w ao n c T)) (hb : n ≤ 140737488355328) (HE : Hid (Edz w eo E)) (hn : E.length = en) (heb : en ≤ 140737488355328) {D : List Ed} (hD : E.map Er.d = D) (HM : Mod T D) : Calls Tryz.prog 52 #[.slice ao n c, .slice eo en ec] w fun e w' => TxQ (apU T D) (apE T D) w e w' := by
  subst hD
  refine (rapply_any ao n c T eo en ec E w hT hb HE hn heb HM).mono ?_
  rintro e w' (⟨U, v, h1, rfl, h2, h3⟩ | ⟨h1, rfl, h3⟩)
  · exact ⟨v, by unfold apE; rw [h1]; rfl, by unfold apU; rw [h1]; exact h2, h3⟩
  · exact ⟨.slice none 0 0, by unfold apE; rw [h1]; rfl, by unfold apU; rw [h1]; exact ⟨rfl, .inl ⟨rfl, rfl⟩⟩, h3⟩
set_option maxHeartbeats 2000000 in
theorem rfst_any (ao : Option Addr) (n c : Nat) (l : List UInt8) (eo : Option Addr) (en ec i : Nat) (E : List Er) (w : World) (HT : Hid (Tx w ao n c l)) (hb : n ≤ 140737488355328) (HE : Hid (Edz w eo E)) (hn : E.length = en) (heb : en ≤ 140737488355328) {D : List Ed} (hD : E.map Er.d = D) (HM : Hid (Mod l D)) (hi : (i : Int) ≤ 9223372036854775807) :
    Calls Tryz.prog 30 #[.slice ao n c, .slice eo en ec, .int .i64 (i : Int)] w fun e w' => e = .returned (.int .i64 (fbh l D i)) ∧ Below w.heap.size w w' := by
  have C1 := Hid.mk' (rapply_q ao n c l eo en ec E w HT hb HE hn heb hD HM.out)
  have hul := apU_le HM.out
  have HUL := Hid.mk' hul
  have HFB : Hid (fbh l D i = (aFirst (apU l D) (min (i : Int) (nl (apU l D) : Int))).1) := rfl
  generalize fbh l D i = r at *
  generalize apU l D = U at *
  generalize apE l D = z at *
  have hnl := nl_le U
  obtain ⟨m, hm⟩ : ∃ m : Nat, min (i : Int) (nl U : Int) = (m : Int) := ⟨min i (nl U), by omega⟩
  have HM2 := Hid.mk' hm
  rw [hm] at HFB
  have hmn : min (i : Int) ((nl U : Nat) : Int) = (m : Int) := hm
  have hw1 : wrap64 (nl U : Int) = (nl U : Int) := by unfold wrap64; omega
  have hmle : (m : Int) ≤ 9223372036854775807 := by omega
  have C3 : Hid (∀ W ao' c', Tx W ao' U.length c' U → Calls Tryz.prog 53 #[.slice ao' U.length c', .int .i64 (m : Int)] W fun e w' => ∃ q : Int, e = .returned (.tuple #[.int .i64 r, .int .i64 q]) ∧ w' = W) := fun W ao' c' h => by
    refine (refFirst_any ao' U.length c' m U W hmle h).mono ?_
    rintro e w' ⟨rfl, rfl⟩
    exact ⟨(aFirst U (m : Int)).2, by unfold pr; rw [HFB.out], rfl⟩
  have C2 : Hid (∀ W ao' c', Tx W ao' U.length c' U → Calls Tryz.prog 51 #[.slice ao' U.length c'] W fun e w' => e = .returned (.int .i64 ((nl U : Int) + 1)) ∧ w' = W) := fun W ao' c' h => refCount_any ao' U.length c' U W h
  clear HT HE HM hD hm hn HFB hul
  go_enter Tryz.func30, Tryz.ntmps30
  go_wp2_with fail
  refine C1.out.mono ?_
  rintro e w1 ⟨v, rfl, hO, hB1⟩
  obtain ⟨uo, uc, rfl, hTU⟩ := own_tx hO (by have := HUL.out; omega)
  have KT := Hid.mk' hTU
  have B1 := Hid.mk' hB1
  clear hO hTU hB1 C1
  dsimp only
  go_wp2_with fail
  refine (C2.out w1 uo uc KT.out).mono ?_
  rintro e w2 ⟨rfl, hw3⟩
  have hq := hw3.symm
  subst hq
  clear hw3 C2
  dsimp only
  go_wp2_with fail
  refine (C3.out w1 uo uc KT.out).mono ?_
  rintro e w3 ⟨q, rfl, hw3⟩
  have hq := hw3.symm
  subst hq
  clear hw3 C3
  dsimp only
  go_wp2
  go_ret
  exact ⟨rfl, B1.out⟩
end Go.Proofs.YtppefcnopkmhbaaGreatDoor
