/- Hom, Ynk, Rem -/
import Derived.Test.YtppefcnopkmhbaaGreatDoorPt14
namespace Go.Proofs.YtppefcnopkmhbaaGreatDoor
open Go.RowKit

set_option maxRecDepth 8000
/-- the cursor of what leaves it in its column -/
def hmc (l : List UInt8) (k f : Nat) (L : Bool) (a : Int) : Int := if L then (aAt l a (aCol l (k : Int)).1).1 else (f : Int)
theorem aCol_is {l : List UInt8} {k : Nat} (h : k ≤ l.length) : aCol l (k : Int) = (((k - bg l k : Nat) : Int), 0) := by
  unfold aCol ans plB
  rw [decide_eq_true (show (0 : Int) ≤ (k : Int) ∧ (k : Int) ≤ (l.length : Int) by omega), if_pos rfl]
  rfl
set_option maxHeartbeats 4000000 in
theorem home_any (ao : Option Addr) (n c k f : Nat) (T : Int) (L D : Bool) (a b q : Int) (l : List UInt8) (w : World) (HT : Hid (Tx w ao n c l)) (hk : k ≤ n) (ha : a ≤ 9223372036854775807) :
    Calls Tryz.prog 101 #[tsk (.slice ao n c) (k : Int) (f : Int) T L D a b q] w fun e w' => e = .returned (.int .i64 (hmc l k f L a)) ∧ Below w.heap.size w w' := by
  show Calls Tryz.prog 101 #[.agg #[.slice ao n c, .int .i64 (k : Int), .int .i64 (f : Int), .int .i64 T, .bool L, .bool D, .int .i64 a, .int .i64 b, .int .i64 q]] w _
  obtain ⟨W1, hW1⟩ : ∃ x, w.alloc (.cells #[.slice ao n c, .int .i64 (k : Int), .int .i64 (f : Int), .int .i64 T, .bool L, .bool D, .int .i64 a, .int .i64 b, .int .i64 q] 90) = x := ⟨_, rfl⟩
  have K1 : Hid (Blk W1 w.heap.size 90 (tskC (.slice ao n c) (k : Int) (f : Int) T L D a b q)) := by unfold Hid; rw [← hW1]; exact Blk.new w 90 _
  have L1 : Hid (Below w.heap.size w W1) := by unfold Hid; rw [← hW1]; exact bAlloc (Below.refl _ _) _
  have hlen := HT.out.len
  have hbig := HT.out.big
  have hT1 := HT.out.keep L1.out
  have C1 := column_any ao n c (k : Int) l W1 hT1
  unfold hmc
  rw [aCol_is (by omega)] at C1 ⊢
  unfold pr at C1
  dsimp only at C1 ⊢
  have C2 := lat_any ao n c a ((k - bg l k : Nat) : Int) l W1 ha (by omega) hT1
  generalize ((k - bg l k : Nat) : Int) = col at *
  generalize aAt l a col = y at *
  obtain ⟨y1, y2⟩ := y
  unfold pr at C2
  dsimp only at C2 ⊢
  have D1 := Hid.mk' C1
  have D2 := Hid.mk' C2
  obtain ⟨B, hB⟩ : ∃ b, w.heap.size = b := ⟨_, rfl⟩
  rw [hB] at K1
  obtain ⟨c0, c1, c2, c3, c4, c5, c6, c7, c8⟩ := tsk_cells K1.out
  obtain ⟨z, hz⟩ : ∃ z, (if L = true then y1 else (f : Int)) = z := ⟨_, rfl⟩
  rw [hz]
  have HZ := Hid.mk' hz
  clear hT1 C1 C2 hz
  cases L with
  | true =>
    obtain rfl : y1 = z := HZ.out
    go_enter Tryz.func101, Tryz.ntmps101
    go_wp2_with (first | (go_at_call 130; refine D1.out.mono ?_; rintro e w' ⟨rfl, hw⟩; have hq := hw.symm; subst hq; clear hw) | (go_at_call 131; refine D2.out.mono ?_; rintro e w' ⟨rfl, hw⟩; have hq := hw.symm; subst hq; clear hw) | fail)
    go_ret
    exact ⟨rfl, L1.out⟩
  | false =>
    obtain rfl : (f : Int) = z := HZ.out
    go_enter Tryz.func101, Tryz.ntmps101
    go_wp2_with fail
    go_ret
    exact ⟨rfl, L1.out⟩
end Go.Proofs.YtppefcnopkmhbaaGreatDoor

namespace Go.Proofs.YtppefcnopkmhbaaGreatDoor
open Go.RowKit

set_option maxRecDepth 8000
theorem ef_off {W : World} {B B' e : Nat} {cs : Array Value} (h : Blk W B' e cs) (hne : B' ≠ B) (x0 x1 x2 x3 x4 x5 x6 : Value) :
    Blk (((((((W.setCell ⟨B, 0, none⟩ x0).setCell ⟨B, 1, none⟩ x1).setCell ⟨B, 2, none⟩ x2).setCell ⟨B, 3, none⟩ x3).setCell ⟨B, 4, none⟩ x4).setCell ⟨B, 5, none⟩ x5).setCell ⟨B, 6, none⟩ x6) B' e cs :=
  h.grown (ef_grown W B x0 x1 x2 x3 x4 x5 x6) (by intro h; injection h with h; exact hne h)
theorem tk_len (l : List UInt8) (f t : Nat) (L D : Bool) : (tk l f t L D).length ≤ l.length + 1 := by
  unfold tk
  split
  · rw [List.length_append]; unfold tkb; rw [List.length_take, List.length_drop]; simp; omega
  · unfold tkb; rw [List.length_take, List.length_drop]; omega
/-- what yank answers -/
def yEf (l : List UInt8) (k f t : Nat) (L D : Bool) (a : Int) : Ef := ⟨[], hmc l k f L a, true, L, tk l f t L D, 1, false⟩
set_option maxHeartbeats 4000000 in
set_option linter.unusedSimpArgs false in
theorem yank_any (ao : Option Addr) (n c k f t : Nat) (L D : Bool) (a b q : Int) (l : List UInt8) (w : World) (HT : Hid (Tx w ao n c l)) (hbig : n ≤ 1048576) (hg : rgB l (f : Int) (t : Int) L D = true) (hk : k ≤ n) (ha : a ≤ 9223372036854775807) :
    Calls Tryz.prog 70 #[tsk (.slice ao n c) (k : Int) (f : Int) (t : Int) L D a b q] w fun e w' => EfQ (yEf l k f t L D a) 0 w e w' := by
  show Calls Tryz.prog 70 #[.agg #[.slice ao n c, .int .i64 (k : Int), .int .i64 (f : Int), .int .i64 (t : Int), .bool L, .bool D, .int .i64 a, .int .i64 b, .int .i64 q]] w _
  obtain ⟨W1, hW1⟩ : ∃ x, (w.alloc (.cells #[.slice ao n c, .int .i64 (k : Int), .int .i64 (f : Int), .int .i64 (t : Int), .bool L, .bool D, .int .i64 a, .int .i64 b, .int .i64 q] 90)).alloc (.cells #[.slice none 0 0, .int .i64 0, .bool false, .bool false, .slice none 0 0, .int .i64 0, .bool false] 35) = x := ⟨_, rfl⟩
  have T1 : Hid (Two w W1 (.slice ao n c) (k : Int) (f : Int) (t : Int) L D a b q) := by unfold Hid; rw [← hW1]; exact Two.new w _ _ _ _ _ _ _ _ _
  have CT := Hid.mk' (take_yes ao n c f t L D l W1 (by omega) hg (HT.out.keep T1.out.bel))
  have CH : Hid (∀ W, Below W1.heap.size W1 W → Calls Tryz.prog 101 #[tsk (.slice ao n c) (k : Int) (f : Int) (t : Int) L D a b q] W fun e w' => e = .returned (.int .i64 (hmc l k f L a)) ∧ Below W.heap.size W w') := fun W hW => home_any ao n c k f (t : Int) L D a b q l W ((HT.out.keep T1.out.bel).keep hW) hk ha
  unfold yEf
  have htl := tk_len l f t L D
  rw [HT.out.len] at htl
  generalize tk l f t L D = X at *
  generalize hmc l k f L a = hm at *
  obtain ⟨B, hB⟩ : ∃ b, w.heap.size = b := ⟨_, rfl⟩
  have HB := Hid.mk' hB
  have K1 : Hid (Blk W1 B 90 (tskC (.slice ao n c) (k : Int) (f : Int) (t : Int) L D a b q)) := by unfold Hid; rw [← hB]; exact T1.out.tk
  have J1 : Hid (Blk W1 (B + 1) 35 (ef7 (.slice none 0 0) 0 false false (.slice none 0 0) 0 false)) := by unfold Hid; rw [← hB]; exact T1.out.ef
  have L1 := Hid.mk' T1.out.bel
  have J1s := Hid.mk' J1.out.lt
  obtain ⟨c0, c1, c2, c3, c4, c5, c6, c7, c8⟩ := tsk_cells K1.out
  clear T1 htl hg HT
  go_enter Tryz.func70, Tryz.ntmps70
  go_upto_region 1 with fail
  clear hW1 hB
  go_wp2_with fail
  refine CT.out.mono ?_
  rintro e w2 ⟨v, rfl, hO, hb2⟩
  unfold tr
  have W2 := Hid.mk' (Wb.new hO)
  have B2 := Hid.mk' hb2
  have K2 := Hid.mk' (K1.out.keep hb2)
  have J2 := Hid.mk' (J1.out.keep hb2)
  have HJ1 := Hid.mk' (Nat.lt_of_lt_of_le J1.out.lt hb2.size)
  have HW1 := Hid.mk' L1.out.size
  clear hO hb2 CT K1 J1 c0 c1 c2 c3 c4 c5 c6 c7 c8
  obtain ⟨p2, d2, rfl⟩ := W2.out.shape
  dsimp only
  obtain ⟨W3, hW3⟩ : ∃ x, w2.alloc (.cells #[.bool true, .bool L, .slice p2 X.length d2] 33) = x := ⟨_, rfl⟩
  obtain ⟨Q, hQ⟩ : ∃ q, w2.heap.size = q := ⟨_, rfl⟩
  have HQ := Hid.mk' hQ
  have hb3 : Below w2.heap.size w2 W3 := by rw [← hW3]; exact bAlloc (Below.refl _ _) _
  have R3 : Hid (Blk W3 Q 33 #[.bool true, .bool L, .slice p2 X.length d2]) := by unfold Hid; rw [← hW3, ← hQ]; exact Blk.new w2 33 _
  have K3 := Hid.mk' (K2.out.keep hb3)
  have J3 := Hid.mk' (J2.out.keep hb3)
  have WX3 := Hid.mk' (W2.out.keep hb3)
  have B3 := Hid.mk' (bT B2.out hb3)
  clear hb3 K2 J2 W2
  go_upto_region 2 with fail
  clear hW3 hQ
  have HQB : Hid (Q ≠ B + 1) := by have h := HJ1.out; rw [HQ.out] at h; exact Nat.ne_of_gt h
  have SZ : Hid (Blk W3.drew B 90 (tskC (.slice ao n c) (k : Int) (f : Int) (t : Int) L D a b q) ∧ Blk W3.drew Q 33 #[.bool true, .bool L, .slice p2 X.length d2]) := ⟨K3.out, R3.out⟩
  have J4 : Hid (Blk W3.drew (B + 1) 35 (ef7 (.slice none 0 0) 0 false false (.slice none 0 0) 0 false)) := J3.out
  have WX4 : Hid (Wb W3.drew W1.heap.size w2.heap.size (.slice p2 X.length d2) X) := WX3.out
  have B4 : Hid (Below W1.heap.size W1 W3.drew) := B3.out.drew
  clear K3 R3 J3 WX3 B3 B2
  refine wp_region_held (S := fun w' => Blk w' B 90 (tskC (.slice ao n c) (k : Int) (f : Int) (t : Int) L D a b q) ∧ Blk w' Q 33 #[.bool true, .bool L, .slice p2 X.length d2]) (by kernel_rfl) ?_
  change wpAnyH _ _ _ _ _ _ _ _ (World.drew _)
  generalize W3.drew = V4 at *
  refine wpAnyH_take (i := 0) (v := .agg #[.bool true, .bool L, .slice p2 X.length d2]) rfl (by kernel_rfl) (by kernel_rfl) (by kernel_rfl) (fun _ _ _ h => h) (Or.inl ⟨by rfl, fun w9 h9 => by obtain ⟨h1, h2⟩ := h9; obtain ⟨c0, c1, c2, c3, c4, c5, c6, c7, c8⟩ := tsk_cells h1; have r0 : w9.cell? ⟨Q, 0, none⟩ = some (.bool true) := h2.cell rfl; have r1 : w9.cell? ⟨Q, 1, none⟩ = some (.bool L) := h2.cell rfl; have r2 : w9.cell? ⟨Q, 2, none⟩ = some (.slice p2 X.length d2) := h2.cell rfl; go_simp⟩) SZ.out ?_
  try simp only [Act.put, List.getElem_toArray, List.getElem_cons_zero, List.getElem_cons_succ, List.setIfInBounds_toArray, List.set_cons_zero, List.set_cons_succ]
  refine wpAnyH_take (i := 1) (v := .agg #[.slice ao n c, .int .i64 (k : Int), .int .i64 (f : Int), .int .i64 (t : Int), .bool L, .bool D, .int .i64 a, .int .i64 b, .int .i64 q]) rfl (by kernel_rfl) (by kernel_rfl) (by kernel_rfl) (fun _ _ _ h => h) (Or.inl ⟨by rfl, fun w9 h9 => by obtain ⟨h1, h2⟩ := h9; obtain ⟨c0, c1, c2, c3, c4, c5, c6, c7, c8⟩ := tsk_cells h1; have r0 : w9.cell? ⟨Q, 0, none⟩ = some (.bool true) := h2.cell rfl; have r1 : w9.cell? ⟨Q, 1, none⟩ = some (.bool L) := h2.cell rfl; have r2 : w9.cell? ⟨Q, 2, none⟩ = some (.slice p2 X.length d2) := h2.cell rfl; go_simp⟩) SZ.out ?_
  try simp only [Act.put, List.getElem_toArray, List.getElem_cons_zero, List.getElem_cons_succ, List.setIfInBounds_toArray, List.set_cons_zero, List.set_cons_succ]
  refine wpAnyH_all (rs := [2]) (by kernel_rfl) (by simp) (AllH.cons rfl (fun K hK => ?_) AllH.nil)
  go_simp
  refine (CH.out V4 B4.out).mono ?_
  rintro e w5 ⟨rfl, hb5⟩
  have S5 : Hid (Blk w5 B 90 (tskC (.slice ao n c) (k : Int) (f : Int) (t : Int) L D a b q) ∧ Blk w5 Q 33 #[.bool true, .bool L, .slice p2 X.length d2]) := ⟨SZ.out.1.keep hb5, SZ.out.2.keep hb5⟩
  have J5 := Hid.mk' (J4.out.keep hb5)
  have WX5 := Hid.mk' (WX4.out.keep hb5)
  have B5 := Hid.mk' (bT B4.out hb5)
  clear hb5 CH SZ J4 WX4 B4
  dsimp only
  refine hK _ _ ⟨S5.out, ?_⟩
  clear hK K
  try simp only [Act.put, List.getElem_toArray, List.getElem_cons_zero, List.getElem_cons_succ, List.setIfInBounds_toArray, List.set_cons_zero, List.set_cons_succ]
  refine wpAnyH_take (i := 3) (v := .agg #[.slice none 0 0, .int .i64 hm, .bool true, .bool L, .slice p2 X.length d2, .int .i64 1, .bool false]) rfl (by kernel_rfl) (by kernel_rfl) (by kernel_rfl) (fun _ _ _ h => h) (Yields.yieldsIf (Or.inl ⟨by rfl, fun w => by go_simp⟩)) S5.out ?_
  try simp only [Act.put, List.getElem_toArray, List.getElem_cons_zero, List.getElem_cons_succ, List.setIfInBounds_toArray, List.set_cons_zero, List.set_cons_succ]
  refine wpAnyH_all (rs := [4]) (by kernel_rfl) (by simp) (AllH.cons rfl (fun K hK => ?_) AllH.nil)
  obtain ⟨e0, e1, e2, e3, e4, e5, e6⟩ := ef_cells J5.out
  obtain ⟨f0, f1, f2, f3, f4, f5, f6⟩ := ef_frozen J5.out
  have hbk := ef_store J5.out (.slice none 0 0) (.int .i64 hm) (.bool true) (.bool L) (.slice p2 X.length d2) (.int .i64 1) (.bool false)
  have hgr := ef_grown w5 (B + 1) (.slice none 0 0) (.int .i64 hm) (.bool true) (.bool L) (.slice p2 X.length d2) (.int .i64 1) (.bool false)
  have ho1 := ef_off (B := B + 1) S5.out.1 (Nat.ne_of_lt (Nat.lt_succ_self B)) (.slice none 0 0) (.int .i64 hm) (.bool true) (.bool L) (.slice p2 X.length d2) (.int .i64 1) (.bool false)
  have ho2 := ef_off (B := B + 1) S5.out.2 HQB.out (.slice none 0 0) (.int .i64 hm) (.bool true) (.bool L) (.slice p2 X.length d2) (.int .i64 1) (.bool false)
  go_simp
  generalize (((((((w5.setCell ⟨B + 1, 0, none⟩ (.slice none 0 0)).setCell ⟨B + 1, 1, none⟩ (.int .i64 hm)).setCell ⟨B + 1, 2, none⟩ (.bool true)).setCell ⟨B + 1, 3, none⟩ (.bool L)).setCell ⟨B + 1, 4, none⟩ (.slice p2 X.length d2)).setCell ⟨B + 1, 5, none⟩ (.int .i64 1)).setCell ⟨B + 1, 6, none⟩ (.bool false)) = w6 at *
  have S6 := Hid.mk' (And.intro ho1 ho2)
  have J6 := Hid.mk' hbk
  have G6 := Hid.mk' hgr
  clear hbk hgr ho1 ho2 e0 e1 e2 e3 e4 e5 e6 f0 f1 f2 f3 f4 f5 f6
  refine hK _ _ ⟨S6.out, ?_⟩
  clear hK K
  try simp only [Act.put, List.getElem_toArray, List.getElem_cons_zero, List.getElem_cons_succ, List.setIfInBounds_toArray, List.set_cons_zero, List.set_cons_succ]
  refine wpAnyH_take (i := 5) (v := .int .i64 0) rfl (by kernel_rfl) (by kernel_rfl) (by kernel_rfl) (fun _ _ _ h => h) (Yields.yieldsIf (Or.inl ⟨by rfl, fun w => by go_simp⟩)) S6.out ?_
  try simp only [Act.put, List.getElem_toArray, List.getElem_cons_zero, List.getElem_cons_succ, List.setIfInBounds_toArray, List.set_cons_zero, List.set_cons_succ]
  refine wpAnyH_done (by kernel_rfl) ?_ _
  go_wp2_with fail
  obtain ⟨g0, g1, g2, g3, g4, g5, g6⟩ := ef_cells J6.out
  refine bodyPost_ret (v := .tuple #[.agg #[.slice none 0 0, .int .i64 hm, .bool true, .bool L, .slice p2 X.length d2, .int .i64 1, .bool false], .int .i64 0]) (by simp [results, Tryz.results70, go_sem, g0, g1, g2, g3, g4, g5, g6]) rfl ⟨.slice none 0 0, [], .slice p2 X.length d2, rfl, rfl, ⟨Eds.nil _ _ _, ?_, fun k x hx => by simp [tes] at hx⟩, ?_⟩
  · exact ((WX5.out.grown G6.out (.inl (by have := HB.out; have := HW1.out; have := J1s.out; omega))).wide (by have := HW1.out; omega) (Nat.le_trans (Nat.le_trans (by have := HQ.out; have := S5.out.2.lt; omega) (Nat.le_refl _)) G6.out.size))
  · exact (bT L1.out B5.out).grown G6.out (bT L1.out B5.out).size (fun g hg => by injection hg with hg; have := HB.out; omega)
end Go.Proofs.YtppefcnopkmhbaaGreatDoor

namespace Go.Proofs.YtppefcnopkmhbaaGreatDoor
open Go.RowKit

set_option maxRecDepth 8000
theorem nsum_take (D : List Ed) (k : Nat) : nsum (D.take k) ≤ nsum D := by
  have e : nsum D = nsum (D.take k) + nsum (D.drop k) := by
    conv => lhs; rw [← List.take_append_drop k D]
    unfold nsum
    rw [List.map_append, List.sum_append]
  omega
theorem mod_n {T : List UInt8} {D : List Ed} (h : T.length + nsum D ≤ 140737488355328) : Mod T D := fun k U hU => by
  have h1 := app_len hU
  have h2 := nsum_take D k
  omega
theorem nsum_sw (l : List UInt8) (f t : Nat) (X : List UInt8) : nsum (sw l f t X) ≤ X.length := by
  unfold sw
  split
  · simp [nsum]
  · simp [nsum]
theorem sw_len (l : List UInt8) (f t : Nat) (X : List UInt8) : (sw l f t X).length ≤ 1 := by
  unfold sw
  split <;> simp
/-- where remove leaves the cursor -/
def rmC (l : List UInt8) (D : List Ed) (f : Nat) (L : Bool) (a : Nat) : Int := if L then fbh l D a else (f : Int)
/-- what remove answers -/
def rEf (l : List UInt8) (f t : Nat) (L D : Bool) (a : Nat) : Ef := ⟨sw l f t [], rmC l (sw l f t []) f L a, true, L, tk l f t L D, hwE L (tk l f t L D), false⟩
set_option maxHeartbeats 4000000 in
set_option linter.unusedSimpArgs false in
theorem remove_any (ao : Option Addr) (n c k f t : Nat) (L D : Bool) (a : Nat) (b q : Int) (l : List UInt8) (w : World) (HT : Hid (Tx w ao n c l)) (hbig : n ≤ 1048576) (hg : rgB l (f : Int) (t : Int) L D = true) (hft : f ≤ t) (ht : t ≤ n) (ha : (a : Int) ≤ 9223372036854775807) :
    Calls Tryz.prog 68 #[tsk (.slice ao n c) (k : Int) (f : Int) (t : Int) L D (a : Int) b q] w fun e w' => EfQ (rEf l f t L D a) 0 w e w' := by
  show Calls Tryz.prog 68 #[.agg #[.slice ao n c, .int .i64 (k : Int), .int .i64 (f : Int), .int .i64 (t : Int), .bool L, .bool D, .int .i64 (a : Int), .int .i64 b, .int .i64 q]] w _
  obtain ⟨W1, hW1⟩ : ∃ x, (w.alloc (.cells #[.slice ao n c, .int .i64 (k : Int), .int .i64 (f : Int), .int .i64 (t : Int), .bool L, .bool D, .int .i64 (a : Int), .int .i64 b, .int .i64 q] 90)).alloc (.cells #[.slice none 0 0, .int .i64 0, .bool false, .bool false, .slice none 0 0, .int .i64 0, .bool false] 35) = x := ⟨_, rfl⟩
  have T1 : Hid (Two w W1 (.slice ao n c) (k : Int) (f : Int) (t : Int) L D (a : Int) b q) := by unfold Hid; rw [← hW1]; exact Two.new w _ _ _ _ _ _ _ _ _
  have hln := HT.out.len
  have CK := Hid.mk' (taken_any ao n c f t (k : Int) L D (a : Int) b q l W1 (HT.out.keep T1.out.bel) hbig hg)
  have CS : Hid (∀ W, Below W1.heap.size W1 W → Calls Tryz.prog 83 #[.slice ao n c, .int .i64 (f : Int), .int .i64 (t : Int), .slice none 0 0] W fun e w' => EsP (sw l f t []) W e w') := fun W hW => swap_any W ao n c f t l none 0 0 [] W ((HT.out.keep T1.out.bel).keep hW) hft ht (by omega) (Below.refl _ _) (Wb.nil _ _ _) (by simp)
  have hns := nsum_sw l f t []
  have hsl := sw_len l f t []
  have hM : Mod l (sw l f t []) := mod_n (by simp at hns; omega)
  have CF : Hid (∀ W eo ec F, Below W1.heap.size W1 W → Edz W eo F → F.map Er.d = sw l f t [] → Calls Tryz.prog 84 #[.slice ao n c, .slice eo F.length ec, .int .i64 (a : Int)] W fun e w' => e = .returned (.int .i64 (fbh l (sw l f t []) a)) ∧ Below W.heap.size W w') := fun W eo ec F hW hE hD => firstBehind_any ao n c l eo F.length ec a F W ((HT.out.keep T1.out.bel).keep hW) (by omega) hE rfl (by have := congrArg List.length hD; rw [List.length_map] at this; omega) hD hM ha
  unfold rEf rmC
  generalize tk l f t L D = X at *
  generalize hwE L X = hw at *
  generalize fbh l (sw l f t []) a = fb at *
  generalize sw l f t [] = DD at *
  obtain ⟨B, hB⟩ : ∃ b, w.heap.size = b := ⟨_, rfl⟩
  have HB := Hid.mk' hB
  have K1 : Hid (Blk W1 B 90 (tskC (.slice ao n c) (k : Int) (f : Int) (t : Int) L D (a : Int) b q)) := by unfold Hid; rw [← hB]; exact T1.out.tk
  have J1 : Hid (Blk W1 (B + 1) 35 (ef7 (.slice none 0 0) 0 false false (.slice none 0 0) 0 false)) := by unfold Hid; rw [← hB]; exact T1.out.ef
  have L1 := Hid.mk' T1.out.bel
  have J1s := Hid.mk' J1.out.lt
  have HW1 := Hid.mk' L1.out.size
  obtain ⟨c0, c1, c2, c3, c4, c5, c6, c7, c8⟩ := tsk_cells K1.out
  obtain ⟨cc, hcc⟩ : ∃ cc, (if L = true then fb else (f : Int)) = cc := ⟨_, rfl⟩
  rw [hcc]
  have HCC := Hid.mk' hcc
  clear T1 hg HT hM hns hsl hcc hln
  go_enter Tryz.func68, Tryz.ntmps68
  go_upto_region 1 with fail
  clear hW1 hB
  go_wp2_with fail
  refine CK.out.mono ?_
  rintro e w2 ⟨v, rfl, hO, hb2⟩
  have W2 := Hid.mk' hO
  have B2 := Hid.mk' hb2
  have K2 := Hid.mk' (K1.out.keep hb2)
  have J2 := Hid.mk' (J1.out.keep hb2)
  have HW2 := Hid.mk' hb2.size
  have HJ2 := Hid.mk' (Nat.lt_of_lt_of_le J1s.out hb2.size)
  clear hO hb2 CK K1 J1 c0 c1 c2 c3 c4 c5 c6 c7 c8
  obtain ⟨p2, d2, rfl⟩ := W2.out.shape
  dsimp only
  go_upto_region 2 with fail
  obtain ⟨W3, hW3⟩ : ∃ x, w2.alloc (.cells #[.slice none 0 0, .int .i64 0, .bool true, .bool L, .slice p2 X.length d2, .int .i64 hw, .bool false] 35) = x := ⟨_, rfl⟩
  obtain ⟨Q, hQ⟩ : ∃ q, w2.heap.size = q := ⟨_, rfl⟩
  have HQ := Hid.mk' hQ
  have hb3 : Below w2.heap.size w2 W3 := by rw [← hW3]; exact bAlloc (Below.refl _ _) _
  have R3 : Hid (Blk W3 Q 35 (ef7 (.slice none 0 0) 0 true L (.slice p2 X.length d2) hw false)) := by unfold Hid; rw [← hW3, ← hQ]; exact Blk.new w2 35 _
  have HS3 : Hid (W3.heap.size = Q + 1) := by unfold Hid; rw [← hW3, ← hQ]; exact World.size_alloc _ _
  have K3 := Hid.mk' (K2.out.keep hb3)
  have J3 := Hid.mk' (J2.out.keep hb3)
  have WX3 := Hid.mk' (W2.out.keep hb3)
  have B3 := Hid.mk' (bT B2.out hb3)
  clear hb3 K2 J2 W2
  rw [hW3, hQ]
  clear hW3 hQ
  have HQB : Hid (B + 1 < Q) := by unfold Hid; rw [← HQ.out]; exact HJ2.out
  have SZ : Hid (Blk W3.drew B 90 (tskC (.slice ao n c) (k : Int) (f : Int) (t : Int) L D (a : Int) b q)) := K3.out
  have R4 : Hid (Blk W3.drew Q 35 (ef7 (.slice none 0 0) 0 true L (.slice p2 X.length d2) hw false)) := R3.out
  have J4 : Hid (Blk W3.drew (B + 1) 35 (ef7 (.slice none 0 0) 0 false false (.slice none 0 0) 0 false)) := J3.out
  have WX4 : Hid (Wb W3.drew W1.heap.size w2.heap.size (.slice p2 X.length d2) X) := WX3.out
  have B4 : Hid (Below W1.heap.size W1 W3.drew) := B3.out.drew
  have HS4 : Hid (W3.drew.heap.size = Q + 1) := HS3.out
  clear K3 R3 J3 WX3 B3 B2 HS3
  refine wp_region_held (S := fun w' => Blk w' B 90 (tskC (.slice ao n c) (k : Int) (f : Int) (t : Int) L D (a : Int) b q)) (by kernel_rfl) ?_
  change wpAnyH _ _ _ _ _ _ _ _ (World.drew _)
  generalize W3.drew = V4 at *
  refine wpAnyH_take (i := 0) (v := .pointer (some ⟨B, 0, none⟩)) rfl (by kernel_rfl) (by kernel_rfl) (by kernel_rfl) (fun _ _ _ h => h) (Yields.yieldsIf (Or.inl ⟨by rfl, fun w => by go_simp⟩)) SZ.out ?_
  try simp only [Act.put, List.getElem_toArray, List.getElem_cons_zero, List.getElem_cons_succ, List.setIfInBounds_toArray, List.set_cons_zero, List.set_cons_succ]
  refine wpAnyH_take (i := 1) (v := .slice ao n c) rfl (by kernel_rfl) (by kernel_rfl) (by kernel_rfl) (fun _ _ _ h => h) (Or.inl ⟨by rfl, fun w9 h9 => by obtain ⟨c0, c1, c2, c3, c4, c5, c6, c7, c8⟩ := tsk_cells h9; go_simp⟩) SZ.out ?_
  try simp only [Act.put, List.getElem_toArray, List.getElem_cons_zero, List.getElem_cons_succ, List.setIfInBounds_toArray, List.set_cons_zero, List.set_cons_succ]
  refine wpAnyH_take (i := 2) (v := .pointer (some ⟨B, 2, none⟩)) rfl (by kernel_rfl) (by kernel_rfl) (by kernel_rfl) (fun _ _ _ h => h) (Yields.yieldsIf (Or.inl ⟨by rfl, fun w => by go_simp⟩)) SZ.out ?_
  try simp only [Act.put, List.getElem_toArray, List.getElem_cons_zero, List.getElem_cons_succ, List.setIfInBounds_toArray, List.set_cons_zero, List.set_cons_succ]
  refine wpAnyH_take (i := 3) (v := .pointer (some ⟨B, 2, none⟩)) rfl (by kernel_rfl) (by kernel_rfl) (by kernel_rfl) (fun _ _ _ h => h) (Yields.yieldsIf (Or.inl ⟨by rfl, fun w => by go_simp⟩)) SZ.out ?_
  try simp only [Act.put, List.getElem_toArray, List.getElem_cons_zero, List.getElem_cons_succ, List.setIfInBounds_toArray, List.set_cons_zero, List.set_cons_succ]
  refine wpAnyH_take (i := 4) (v := .int .i64 (f : Int)) rfl (by kernel_rfl) (by kernel_rfl) (by kernel_rfl) (fun _ _ _ h => h) (Or.inl ⟨by rfl, fun w9 h9 => by obtain ⟨c0, c1, c2, c3, c4, c5, c6, c7, c8⟩ := tsk_cells h9; go_simp⟩) SZ.out ?_
  try simp only [Act.put, List.getElem_toArray, List.getElem_cons_zero, List.getElem_cons_succ, List.setIfInBounds_toArray, List.set_cons_zero, List.set_cons_succ]
  refine wpAnyH_take (i := 5) (v := .pointer (some ⟨B, 2, none⟩)) rfl (by kernel_rfl) (by kernel_rfl) (by kernel_rfl) (fun _ _ _ h => h) (Yields.yieldsIf (Or.inl ⟨by rfl, fun w => by go_simp⟩)) SZ.out ?_
  try simp only [Act.put, List.getElem_toArray, List.getElem_cons_zero, List.getElem_cons_succ, List.setIfInBounds_toArray, List.set_cons_zero, List.set_cons_succ]
  refine wpAnyH_take (i := 6) (v := .pointer (some ⟨B, 3, none⟩)) rfl (by kernel_rfl) (by kernel_rfl) (by kernel_rfl) (fun _ _ _ h => h) (Yields.yieldsIf (Or.inl ⟨by rfl, fun w => by go_simp⟩)) SZ.out ?_
  try simp only [Act.put, List.getElem_toArray, List.getElem_cons_zero, List.getElem_cons_succ, List.setIfInBounds_toArray, List.set_cons_zero, List.set_cons_succ]
  refine wpAnyH_take (i := 7) (v := .int .i64 (t : Int)) rfl (by kernel_rfl) (by kernel_rfl) (by kernel_rfl) (fun _ _ _ h => h) (Or.inl ⟨by rfl, fun w9 h9 => by obtain ⟨c0, c1, c2, c3, c4, c5, c6, c7, c8⟩ := tsk_cells h9; go_simp⟩) SZ.out ?_
  try simp only [Act.put, List.getElem_toArray, List.getElem_cons_zero, List.getElem_cons_succ, List.setIfInBounds_toArray, List.set_cons_zero, List.set_cons_succ]
  refine wpAnyH_take (i := 9) (v := .pointer (some ⟨B, 2, none⟩)) rfl (by kernel_rfl) (by kernel_rfl) (by kernel_rfl) (fun _ _ _ h => h) (Yields.yieldsIf (Or.inl ⟨by rfl, fun w => by go_simp⟩)) SZ.out ?_
  try simp only [Act.put, List.getElem_toArray, List.getElem_cons_zero, List.getElem_cons_succ, List.setIfInBounds_toArray, List.set_cons_zero, List.set_cons_succ]
  refine wpAnyH_take (i := 10) (v := .pointer (some ⟨B, 2, none⟩)) rfl (by kernel_rfl) (by kernel_rfl) (by kernel_rfl) (fun _ _ _ h => h) (Yields.yieldsIf (Or.inl ⟨by rfl, fun w => by go_simp⟩)) SZ.out ?_
  try simp only [Act.put, List.getElem_toArray, List.getElem_cons_zero, List.getElem_cons_succ, List.setIfInBounds_toArray, List.set_cons_zero, List.set_cons_succ]
  refine wpAnyH_take (i := 11) (v := .int .i64 (f : Int)) rfl (by kernel_rfl) (by kernel_rfl) (by kernel_rfl) (fun _ _ _ h => h) (Or.inl ⟨by rfl, fun w9 h9 => by obtain ⟨c0, c1, c2, c3, c4, c5, c6, c7, c8⟩ := tsk_cells h9; go_simp⟩) SZ.out ?_
  try simp only [Act.put, List.getElem_toArray, List.getElem_cons_zero, List.getElem_cons_succ, List.setIfInBounds_toArray, List.set_cons_zero, List.set_cons_succ]
  refine wpAnyH_all (rs := [8]) (by kernel_rfl) (by simp) (AllH.cons rfl (fun K hK => ?_) AllH.nil)
  go_simp
  refine (CS.out V4 B4.out).mono ?_
  rintro e w5 ⟨v5, F, rfl, hFD, hE5, hb5⟩
  obtain ⟨eo, ec, rfl, -, -⟩ := hE5.edz
  obtain ⟨en, hen⟩ : ∃ en, F.length = en := ⟨_, rfl⟩
  rw [hen] at hE5 ⊢
  have HEN := Hid.mk' hen
  clear hen
  have HFD := Hid.mk' hFD
  have E5 := Hid.mk' hE5
  have S5 := Hid.mk' (SZ.out.keep hb5)
  have R5 := Hid.mk' (R4.out.keep hb5)
  have J5 := Hid.mk' (J4.out.keep hb5)
  have WX5 := Hid.mk' (WX4.out.keep hb5)
  have B5 := Hid.mk' (bT B4.out hb5)
  have HS5 := Hid.mk' hb5.size
  clear hFD hE5 hb5 CS SZ R4 J4 WX4 B4
  dsimp only
  refine hK _ _ ⟨S5.out, ?_⟩
  clear hK K
  try simp only [Act.put, List.getElem_toArray, List.getElem_cons_zero, List.getElem_cons_succ, List.setIfInBounds_toArray, List.set_cons_zero, List.set_cons_succ]
  refine wpAnyH_take (i := 12) (v := .pointer (some ⟨Q, 0, none⟩)) rfl (by kernel_rfl) (by kernel_rfl) (by kernel_rfl) (fun _ _ _ h => h) (Yields.yieldsIf (Or.inl ⟨by rfl, fun w => by go_simp⟩)) S5.out ?_
  try simp only [Act.put, List.getElem_toArray, List.getElem_cons_zero, List.getElem_cons_succ, List.setIfInBounds_toArray, List.set_cons_zero, List.set_cons_succ]
  refine wpAnyH_all (rs := [13]) (by kernel_rfl) (by simp) (AllH.cons rfl (fun K hK => ?_) AllH.nil)
  have q0 : w5.cell? ⟨Q, 0, none⟩ = some (.slice none 0 0) := R5.out.cell rfl
  have qf : w5.frozen? ⟨Q, 0, none⟩ = false := R5.out.frozen _
  go_simp
  clear q0 qf
  have hbk : Blk (w5.setCell ⟨Q, 0, none⟩ (.slice eo en ec)) Q 35 (ef7 (.slice eo en ec) 0 true L (.slice p2 X.length d2) hw false) := R5.out.set (j := 0) (.slice eo en ec)
  have hgr := grown_set w5 Q 0 (.slice eo en ec)
  have hS6 := S5.out.off (B := Q) (j := 0) (Nat.ne_of_lt (Nat.lt_of_succ_lt HQB.out)) (.slice eo en ec)
  generalize w5.setCell ⟨Q, 0, none⟩ (.slice eo en ec) = w6 at *
  have S6 := Hid.mk' hS6
  have R6 := Hid.mk' hbk
  have G6 := Hid.mk' hgr
  clear hbk hgr hS6 R5 S5
  refine hK _ _ ⟨S6.out, ?_⟩
  clear hK K
  try simp only [Act.put, List.getElem_toArray, List.getElem_cons_zero, List.getElem_cons_succ, List.setIfInBounds_toArray, List.set_cons_zero, List.set_cons_succ]
  refine wpAnyH_take (i := 14) (v := .pointer (some ⟨Q, 1, none⟩)) rfl (by kernel_rfl) (by kernel_rfl) (by kernel_rfl) (fun _ _ _ h => h) (Yields.yieldsIf (Or.inl ⟨by rfl, fun w => by go_simp⟩)) S6.out ?_
  try simp only [Act.put, List.getElem_toArray, List.getElem_cons_zero, List.getElem_cons_succ, List.setIfInBounds_toArray, List.set_cons_zero, List.set_cons_succ]
  refine wpAnyH_all (rs := [15]) (by kernel_rfl) (by simp) (AllH.cons rfl (fun K hK => ?_) AllH.nil)
  have q1 : w6.cell? ⟨Q, 1, none⟩ = some (.int .i64 0) := R6.out.cell rfl
  have qf : w6.frozen? ⟨Q, 1, none⟩ = false := R6.out.frozen _
  go_simp
  clear q1 qf
  have hbk : Blk (w6.setCell ⟨Q, 1, none⟩ (.int .i64 (f : Int))) Q 35 (ef7 (.slice eo en ec) (f : Int) true L (.slice p2 X.length d2) hw false) := R6.out.set (j := 1) (.int .i64 (f : Int))
  have hgr := G6.out.trans (grown_set w6 Q 1 (.int .i64 (f : Int)))
  have hS7 := S6.out.off (B := Q) (j := 1) (Nat.ne_of_lt (Nat.lt_of_succ_lt HQB.out)) (.int .i64 (f : Int))
  generalize w6.setCell ⟨Q, 1, none⟩ (.int .i64 (f : Int)) = w7 at *
  have S7 := Hid.mk' hS7
  have R7 := Hid.mk' hbk
  have G7 := Hid.mk' hgr
  clear hbk hgr hS7 R6 S6 G6
  refine hK _ _ ⟨S7.out, ?_⟩
  clear hK K
  try simp only [Act.put, List.getElem_toArray, List.getElem_cons_zero, List.getElem_cons_succ, List.setIfInBounds_toArray, List.set_cons_zero, List.set_cons_succ]
  refine wpAnyH_done (by kernel_rfl) ?_ _
  have E7 : Hid (Eds w7 (Q + 1) w5.heap.size (.slice eo en ec) F) := by
    have h1 := HS4.out
    have h2 := E5.out
    rw [h1] at h2
    exact h2.grown G7.out (.inl (Nat.lt_succ_self Q))
  have J7 : Hid (Blk w7 (B + 1) 35 (ef7 (.slice none 0 0) 0 false false (.slice none 0 0) 0 false)) := J5.out.grown G7.out (by intro h; injection h with h; exact Nat.ne_of_lt HQB.out h)
  have WX7 : Hid (Wb w7 W1.heap.size Q (.slice p2 X.length d2) X) := by
    have h := WX5.out.grown G7.out (B := Q) (.inr (by rw [HQ.out]; exact Nat.le_refl _))
    rwa [HQ.out] at h
  have B7 : Hid (Below W1.heap.size W1 w7) := B5.out.grown G7.out B5.out.size (fun g hg => by injection hg with hg; have := J1s.out; have := B5.out.size; rw [← hg, ← HQ.out]; exact HW2.out)
  have HS7 : Hid (w5.heap.size ≤ w7.heap.size) := G7.out.size
  have HS6 : Hid (Q + 1 ≤ w5.heap.size) := by unfold Hid; rw [← HS4.out]; exact HS5.out
  clear G7 J5 WX5 B5 E5 HS4 HS5
  obtain ⟨c0, c1, c2, c3, c4, c5, c6, c7, c8⟩ := tsk_cells S7.out
  obtain ⟨e0, e1, e2, e3, e4, e5, e6⟩ := ef_cells R7.out
  go_upto_if 23 with fail
  go_cut [] from 24 to 31 (fun wx => Hid (Blk wx Q 35 (ef7 (.slice eo en ec) cc true L (.slice p2 X.length d2) hw false)) ∧ Hid (Blk wx (B + 1) 35 (ef7 (.slice none 0 0) 0 false false (.slice none 0 0) 0 false)) ∧ Hid (Wb wx W1.heap.size Q (.slice p2 X.length d2) X) ∧ Hid (Eds wx (Q + 1) w5.heap.size (.slice eo en ec) F) ∧ Hid (Below W1.heap.size W1 wx) ∧ Hid (w5.heap.size ≤ wx.heap.size))
  case first =>
    cases L with
    | false =>
      obtain rfl : (f : Int) = cc := HCC.out
      go_wp2_with fail
      go_meet
      exact ⟨R7.out, J7.out, WX7.out, E7.out, B7.out, HS7.out⟩
    | true =>
      obtain rfl : fb = cc := HCC.out
      have hZ : Edz w7 eo F := by
        obtain ⟨eo2, ec2, e, hZ, -⟩ := E7.out.edz
        simp at e
        rw [e.1]; exact hZ
      have CF7 := CF.out w7 eo ec F B7.out hZ HFD.out
      rw [HEN.out] at CF7
      have CF8 := Hid.mk' CF7
      clear hZ CF7
      go_wp2_with fail
      refine CF8.out.mono ?_
      rintro e w8 ⟨rfl, hb8⟩
      have R8 := Hid.mk' (R7.out.keep hb8)
      have J8 := Hid.mk' (J7.out.keep hb8)
      have WX8 := Hid.mk' (WX7.out.keep hb8)
      have E8 := Hid.mk' (E7.out.keep hb8)
      have B8 := Hid.mk' (bT B7.out hb8)
      have HS8 : Hid (w5.heap.size ≤ w8.heap.size) := Nat.le_trans HS7.out hb8.size
      clear hb8 CF8 CF R7 J7 WX7 E7 B7 HS7 c0 c1 c2 c3 c4 c5 c6 c7 c8 e0 e1 e2 e3 e4 e5 e6
      have q1 : w8.cell? ⟨Q, 1, none⟩ = some (.int .i64 (f : Int)) := R8.out.cell rfl
      have qf : w8.frozen? ⟨Q, 1, none⟩ = false := R8.out.frozen _
      dsimp only
      go_wp2_with fail
      go_meet
      have hgr := grown_set w8 Q 1 (.int .i64 fb)
      refine ⟨R8.out.set (j := 1) (.int .i64 fb), J8.out.grown hgr (by intro h; injection h with h; exact Nat.ne_of_lt HQB.out h), WX8.out.grown hgr (.inr (Nat.le_refl _)), E8.out.grown hgr (.inl (Nat.lt_succ_self Q)), B8.out.grown hgr B8.out.size (fun g hg => by injection hg with hg; rw [← hg, ← HQ.out]; exact HW2.out), Nat.le_trans HS8.out hgr.size⟩
  case rest =>
    obtain ⟨KR, KJ, KX, KE, KB, KS⟩ := hcut
    obtain ⟨e0, e1, e2, e3, e4, e5, e6⟩ := ef_cells KR.out
    obtain ⟨j0, j1, j2, j3, j4, j5, j6⟩ := ef_cells KJ.out
    obtain ⟨f0, f1, f2, f3, f4, f5, f6⟩ := ef_frozen KJ.out
    have hbk := ef_store KJ.out (.slice eo en ec) (.int .i64 cc) (.bool true) (.bool L) (.slice p2 X.length d2) (.int .i64 hw) (.bool false)
    have hgr := ef_grown wc (B + 1) (.slice eo en ec) (.int .i64 cc) (.bool true) (.bool L) (.slice p2 X.length d2) (.int .i64 hw) (.bool false)
    go_wp2_with fail
    have G9 := Hid.mk' hgr
    generalize (((((((wc.setCell ⟨B + 1, 0, none⟩ (.slice eo en ec)).setCell ⟨B + 1, 1, none⟩ (.int .i64 cc)).setCell ⟨B + 1, 2, none⟩ (.bool true)).setCell ⟨B + 1, 3, none⟩ (.bool L)).setCell ⟨B + 1, 4, none⟩ (.slice p2 X.length d2)).setCell ⟨B + 1, 5, none⟩ (.int .i64 hw)).setCell ⟨B + 1, 6, none⟩ (.bool false)) = w9 at *
    obtain ⟨g0, g1, g2, g3, g4, g5, g6⟩ := ef_cells hbk
    refine bodyPost_ret (v := .tuple #[.agg #[.slice eo en ec, .int .i64 cc, .bool true, .bool L, .slice p2 X.length d2, .int .i64 hw, .bool false], .int .i64 0]) (by simp [results, Tryz.results68, go_sem, g0, g1, g2, g3, g4, g5, g6]) rfl ⟨.slice eo en ec, F, .slice p2 X.length d2, rfl, HFD.out, ?_, ?_⟩
    · have h1 := KX.out.grown G9.out (.inl J1s.out)
      have h2 := KE.out.grown G9.out (.inl (Nat.lt_of_lt_of_le HQB.out (Nat.le_succ Q)))
      refine (Efm.two (h1.wide (Nat.le_refl _) (Nat.le_succ Q)) (Below.refl _ _) h2 ?_ HS6.out).wide HW1.out (Nat.le_trans KS.out G9.out.size)
      have := HW2.out
      rw [HQ.out] at this
      exact Nat.le_succ_of_le this
    · exact (bT L1.out KB.out).grown G9.out (bT L1.out KB.out).size (fun g hg => by injection hg with hg; rw [← hg, HB.out]; exact Nat.le_succ B)
end Go.Proofs.YtppefcnopkmhbaaGreatDoor
