/- ExtentTake walked. -/
import Derived.Test.YtbknnicpdkpmiaaRta
import Derived.Test.YtbknnicpdkpmiaaAwk
namespace Go.Proofs.Ytbknnicpdkpmiaa
open Go.RowKit

set_option maxRecDepth 8000
theorem xr (x : UInt8) : bits BinOp.xor IntKind.u8 (x.toNat : Int) 85 = ((x ^^^ 85).toNat : Int) := by
  have h : ∀ k : Fin 256, bits BinOp.xor IntKind.u8 ((UInt8.ofNat k.val).toNat : Int) 85 = (((UInt8.ofNat k.val) ^^^ 85).toNat : Int) := by decide +kernel
  have := h ⟨x.toNat, x.toNat_lt⟩
  simpa using this
theorem bv_set (Y : List UInt8) (i : Nat) (x : UInt8) : (bv Y).set i (.int .u8 (x.toNat : Int)) = bv (Y.set i x) := by
  unfold bv; rw [List.map_set]
theorem own_new (w : World) (cs : Array Value) (e s : Nat) (hs : cs.size = s) : (w.alloc (.cells cs e)).ownsRow w.heap.size e s (.slice (some ⟨w.heap.size, 0, none⟩) 1 1) 1 cs.toList := by
  refine ⟨by simp [hs], .inr ⟨w.heap.size, 1, cs, rfl, Nat.le_refl _, heap_alloc_new w _, Nat.le_refl _, by decide, by omega, ?_⟩⟩
  rw [List.take_of_length_le (by simp [hs])]
theorem both_take (n : Nat) (l : List UInt8) (hbig : n ≤ 140737488351232) (hl : l.length = n) (F T : Int) (L D : Bool) : ∃ (S L' : Bool) (E : Int) (X : List UInt8), X.length ≤ n + 1 ∧
    (∀ ao c W, Tx W ao n c l → Calls Try.prog 14 #[.slice ao n c, .agg #[.int .i64 F, .int .i64 T, .bool L, .bool D]] W fun e w' => ∃ v, e = tr S L' v E ∧ w'.ownsRow W.heap.size 5 1 v X.length (bv X) ∧ Below W.heap.size W w') ∧
    (∀ ao c W, Tx W ao n c l → Calls Try.prog 13 #[.slice ao n c, .agg #[.int .i64 F, .int .i64 T, .bool L, .bool D]] W fun e w' => ∃ v, e = tr S L' v E ∧ w'.ownsRow W.heap.size 5 1 v X.length (bv X) ∧ Below W.heap.size W w') := by
  cases h : rgB l F T L D with
  | false =>
    refine ⟨false, false, 2, [], Nat.zero_le _, fun ao c W hT => ?_, fun ao c W hT => ?_⟩
    · refine (take_no ao n c F T L D l W hT h).mono ?_
      rintro e w' ⟨rfl, hb⟩
      exact ⟨_, rfl, World.ownsRow_nil _ _ _ _, hb⟩
    · refine (rtake_no ao n c F T L D l W hT h).mono ?_
      rintro e w' ⟨rfl, hb⟩
      exact ⟨_, rfl, World.ownsRow_nil _ _ _ _, hb⟩
  | true =>
    obtain ⟨f, t, rfl, rfl, hft, htn⟩ := rg_nat h
    refine ⟨true, L, 0, tk l f t L D, ?_, fun ao c W hT => take_yes ao n c f t L D l W hbig h hT, fun ao c W hT => rtake_yes ao n c f t L D l W hbig h hT⟩
    have hb : (tkb l f t (L && D)).length ≤ n := by unfold tkb; simp; omega
    unfold tk
    split
    · rw [List.length_append]; simp; omega
    · omega

set_option maxRecDepth 100000 in
set_option maxHeartbeats 8000000 in
theorem extentTake_walk (ao : Option Addr) (n c : Nat) (F T : Int) (L D : Bool) (l : List UInt8) (w : World) (hbig : n ≤ 140737488351232) (HT : Hid (Tx w ao n c l)) :
    Calls Try.prog 5 #[.slice ao n c, .agg #[.int .i64 F, .int .i64 T, .bool L, .bool D]] w fun e w' => e = .returned (.bool true) ∧ Below w.heap.size w w' := by
  obtain ⟨i5, hi5, hz5, hs5, hb5⟩ := info_parts info5
  have hlen := Hid.mk' HT.out.len
  obtain ⟨S, L', E, X, hX, c14, c13⟩ := both_take n l hbig hlen.out F T L D
  unfold tr at c14 c13
  have C14 := Hid.mk' c14
  have C13 := Hid.mk' c13
  clear c14 c13
  obtain ⟨m, hm⟩ : ∃ m, X.length = m := ⟨_, rfl⟩
  rw [hm] at C14 C13 hX
  have HM := Hid.mk' hm
  clear hm
  have hmI : (m : Int) ≤ 140737488351233 := by omega
  have hnI : (n : Int) ≤ 140737488351232 := by omega
  go_enter Try.func5, Try.ntmps5
  go_wp2_with fail
  refine (alive_any _).mono ?_
  rintro e w1 ⟨rfl, hb1⟩
  have R1 : Hid (Rws w w1 [⟨27, 4, .slice (some ⟨w.heap.size, 0, none⟩) 1 1, 1, [.int .i64 F, .int .i64 T, .bool L, .bool D]⟩]) := (((Rws.nil w).new (bAlloc (Below.refl _ w) (.cells #[.int .i64 F, .int .i64 T, .bool L, .bool D] 27)) (own_new w _ 27 4 rfl)).keep hb1)
  clear hb1
  have p0 := ((R1.out.own 0 _ rfl).cellAt 0 (by show 0 < 1 * 4; decide))
  have p1 := ((R1.out.own 0 _ rfl).cellAt 1 (by show 1 < 1 * 4; decide))
  have p2 := ((R1.out.own 0 _ rfl).cellAt 2 (by show 2 < 1 * 4; decide))
  have p3 := ((R1.out.own 0 _ rfl).cellAt 3 (by show 3 < 1 * 4; decide))
  simp only [List.getElem?_cons_zero, List.getElem?_cons_succ] at p0 p1 p2 p3
  have pz := ((R1.out.own 0 _ rfl).lt _ rfl).2
  go_wp2_with fail
  refine (C13.out _ _ _ (HT.out.keep R1.out.bel)).mono ?_
  rintro e w2 ⟨vw, rfl, hOw, hbw⟩
  obtain ⟨aw, cw, ew⟩ := own_shape hOw
  subst ew
  have R2 : Hid (Rws w w2 [⟨27, 4, .slice (some ⟨w.heap.size, 0, none⟩) 1 1, 1, [.int .i64 F, .int .i64 T, .bool L, .bool D]⟩, ⟨5, 1, .slice aw m cw, m, bv X⟩]) := R1.out.new hbw hOw
  clear hOw hbw R1 p0 p1 p2 p3 pz
  have R3 : Hid (Rws w (w2.alloc (.cells #[.bool S, .bool L', .slice aw m cw] 38)) [⟨27, 4, .slice (some ⟨w.heap.size, 0, none⟩) 1 1, 1, [.int .i64 F, .int .i64 T, .bool L, .bool D]⟩, ⟨5, 1, .slice aw m cw, m, bv X⟩, ⟨38, 3, .slice (some ⟨w2.heap.size, 0, none⟩) 1 1, 1, [.bool S, .bool L', .slice aw m cw]⟩]) := R2.out.new (bAlloc (Below.refl _ w2) (.cells #[.bool S, .bool L', .slice aw m cw] 38)) (own_new w2 _ 38 3 rfl)
  have own0 : ((w2.alloc (.cells #[.bool S, .bool L', .slice aw m cw] 38)).alloc (.cells #[] 5)).ownsRow (w2.heap.size + 1) 5 1 (.slice (some ⟨w2.heap.size + 1, 0, none⟩) 0 0) 0 [] := by
    have := World.ownsRow_made (w2.alloc (.cells #[.bool S, .bool L', .slice aw m cw] 38)) #[] 0 (base := w2.heap.size + 1) (e := 5) (size := 1) (by simp) (by decide) rfl
    rwa [World.size_alloc] at this
  have OWN0 := Hid.mk' own0
  clear own0 R2
  go_wp2_with (at_builtin; refine append_srv rfl (.tmp 24) (.tmp 25) 22 rfl (w2.heap.size + 1) 5 i5 (.int .u8 0) 1 1 Try.underlying22 hi5 hz5 hs5 hb5 rfl (by decide) (.slice (some ⟨w2.heap.size + 1, 0, none⟩) 0 0) 0 [] rfl OWN0.out (.slice ao n c) n (bv l) rfl ((HT.out.keep (bT R3.out.bel (bAlloc (Below.refl _ _) _))).srv) (by rw [bv_length]; have := hlen.out; omega) (bv_one _) (by unfold maxLen; omega) (by omega) (by simp) ?_)
  intro v4 w4 hown4 hgrow4 _
  have HB4 : Hid (Below (w2.heap.size + 1) (w2.alloc (.cells #[.bool S, .bool L', .slice aw m cw] 38)) w4) := (bAlloc' (by simp) _).grown hgrow4 (by simp) (fun k hk => by simp [Value.ownBlock] at hk; omega)
  have HO4 : Hid (w4.ownsRow (w2.heap.size + 1) 5 1 v4 n (bv l)) := by unfold Hid; simpa using hown4
  obtain ⟨a4, c4, hv4⟩ := own_shape HO4.out
  subst hv4
  have hs4 := HB4.out.size
  clear hown4 hgrow4 OWN0
  go_wp2_with (at_builtin; refine append_srv rfl (.tmp 26) (.tmp 27) 22 rfl (w2.heap.size + 1) 5 i5 (.int .u8 0) 1 1 Try.underlying22 hi5 hz5 hs5 hb5 rfl (by decide) (.slice a4 n c4) n (bv l) rfl (HO4.out.alloc _) (.slice (some ⟨w4.heap.size, 0, none⟩) 2 2) 2 [.int .u8 161, .int .u8 162] rfl (.inr ⟨⟨w4.heap.size, 0, none⟩, 2, rfl, fun j t hj => lit_cells w4 _ 5 j t hj⟩) rfl (by intro u hu; simp at hu; rcases hu with rfl | rfl <;> rfl) (by unfold maxLen; omega) (by omega) (by have := hs4; simp at this ⊢; omega) ?_)
  intro v5 w5 hown5 hgrow5 _
  have hbel5 : Below (w2.heap.size + 1) (w2.alloc (.cells #[.bool S, .bool L', .slice aw m cw] 38)) w5 := (HB4.out.alloc (by have := hs4; simp at this; omega) _).grown hgrow5 (by have := hs4; simp at this ⊢; omega) (fun k hk => (HO4.out.lt k hk).1)
  obtain ⟨gF, cF, hv5, hcF, -⟩ := own_some hown5 (by omega)
  subst hv5
  have R5 : Hid (Rws w w5 [⟨27, 4, .slice (some ⟨w.heap.size, 0, none⟩) 1 1, 1, [.int .i64 F, .int .i64 T, .bool L, .bool D]⟩, ⟨5, 1, .slice aw m cw, m, bv X⟩, ⟨38, 3, .slice (some ⟨w2.heap.size, 0, none⟩) 1 1, 1, [.bool S, .bool L', .slice aw m cw]⟩, ⟨5, 1, .slice (some ⟨gF, 0, none⟩) (n + 2) cF, n + 2, bv l ++ [.int .u8 161, .int .u8 162]⟩]) := R3.out.new (by rw [World.size_alloc]; exact hbel5) (by rw [World.size_alloc]; exact hown5)
  have txF : ∀ W, W.ownsRow w.heap.size 5 1 (.slice (some ⟨gF, 0, none⟩) (n + 2) cF) (n + 2) (bv l ++ [.int .u8 161, .int .u8 162]) → Tx W (some ⟨gF, 0, none⟩) n cF l := fun W hW => by
    refine ⟨hlen.out, by omega, by omega, (fun h => by cases h), fun a ha j hj => ?_⟩
    obtain rfl : (⟨gF, 0, none⟩ : Addr) = a := by simpa using ha
    rw [add_none, Nat.zero_add, hW.cellAt j (by omega), List.getElem?_append_left (by rw [bv_length, hlen.out]; exact hj)]
    exact bv_at l j (by rw [hlen.out]; exact hj)
  have HTF := Hid.mk' txF
  clear hown5 hgrow5 hbel5 HO4 HB4 txF R3 hs4
  have hncF : (n : Int) ≤ (cF : Int) := by omega
  have hn0 : (0 : Int) ≤ (n : Int) := by omega
  have hcF0 : ¬ cF = 0 := by omega
  have p0 := ((R5.out.own 0 _ rfl).cellAt 0 (by show 0 < 1 * 4; decide))
  have p1 := ((R5.out.own 0 _ rfl).cellAt 1 (by show 1 < 1 * 4; decide))
  have p2 := ((R5.out.own 0 _ rfl).cellAt 2 (by show 2 < 1 * 4; decide))
  have p3 := ((R5.out.own 0 _ rfl).cellAt 3 (by show 3 < 1 * 4; decide))
  simp only [List.getElem?_cons_zero, List.getElem?_cons_succ] at p0 p1 p2 p3
  have pz := ((R5.out.own 0 _ rfl).lt _ rfl).2
  go_wp2_with fail
  refine (C14.out _ _ _ (HTF.out _ (R5.out.own 3 _ rfl))).mono ?_
  rintro e w6 ⟨va, rfl, hOa, hba⟩
  obtain ⟨aa, ca, ea⟩ := own_shape hOa
  subst ea
  have R6 : Hid (Rws w w6 [⟨27, 4, .slice (some ⟨w.heap.size, 0, none⟩) 1 1, 1, [.int .i64 F, .int .i64 T, .bool L, .bool D]⟩, ⟨5, 1, .slice aw m cw, m, bv X⟩, ⟨38, 3, .slice (some ⟨w2.heap.size, 0, none⟩) 1 1, 1, [.bool S, .bool L', .slice aw m cw]⟩, ⟨5, 1, .slice (some ⟨gF, 0, none⟩) (n + 2) cF, n + 2, bv l ++ [.int .u8 161, .int .u8 162]⟩, ⟨5, 1, .slice aa m ca, m, bv X⟩]) := R5.out.new hba hOa
  clear hOa hba R5 p0 p1 p2 p3 pz
  have R6b : Hid (Rws w (w6.alloc (.cells #[.bool S, .bool L', .slice aa m ca] 38)) [⟨27, 4, .slice (some ⟨w.heap.size, 0, none⟩) 1 1, 1, [.int .i64 F, .int .i64 T, .bool L, .bool D]⟩, ⟨5, 1, .slice aw m cw, m, bv X⟩, ⟨38, 3, .slice (some ⟨w2.heap.size, 0, none⟩) 1 1, 1, [.bool S, .bool L', .slice aw m cw]⟩, ⟨5, 1, .slice (some ⟨gF, 0, none⟩) (n + 2) cF, n + 2, bv l ++ [.int .u8 161, .int .u8 162]⟩, ⟨5, 1, .slice aa m ca, m, bv X⟩, ⟨38, 3, .slice (some ⟨w6.heap.size, 0, none⟩) 1 1, 1, [.bool S, .bool L', .slice aa m ca]⟩]) := R6.out.new (bAlloc (Below.refl _ w6) (.cells #[.bool S, .bool L', .slice aa m ca] 38)) (own_new w6 _ 38 3 rfl)
  have p0 := ((R6.out.own 0 _ rfl).cellAt 0 (by show 0 < 1 * 4; decide))
  have p1 := ((R6.out.own 0 _ rfl).cellAt 1 (by show 1 < 1 * 4; decide))
  have p2 := ((R6.out.own 0 _ rfl).cellAt 2 (by show 2 < 1 * 4; decide))
  have p3 := ((R6.out.own 0 _ rfl).cellAt 3 (by show 3 < 1 * 4; decide))
  simp only [List.getElem?_cons_zero, List.getElem?_cons_succ] at p0 p1 p2 p3
  have pz := ((R6.out.own 0 _ rfl).lt _ rfl).2
  clear R6
  go_wp2_with fail
  refine (C14.out _ _ _ (HTF.out _ (R6b.out.own 3 _ rfl))).mono ?_
  rintro e w7 ⟨vb, rfl, hOb, hbb⟩
  obtain ⟨ab, cb, eb⟩ := own_shape hOb
  subst eb
  have R7 : Hid (Rws w w7 [⟨27, 4, .slice (some ⟨w.heap.size, 0, none⟩) 1 1, 1, [.int .i64 F, .int .i64 T, .bool L, .bool D]⟩, ⟨5, 1, .slice aw m cw, m, bv X⟩, ⟨38, 3, .slice (some ⟨w2.heap.size, 0, none⟩) 1 1, 1, [.bool S, .bool L', .slice aw m cw]⟩, ⟨5, 1, .slice (some ⟨gF, 0, none⟩) (n + 2) cF, n + 2, bv l ++ [.int .u8 161, .int .u8 162]⟩, ⟨5, 1, .slice aa m ca, m, bv X⟩, ⟨38, 3, .slice (some ⟨w6.heap.size, 0, none⟩) 1 1, 1, [.bool S, .bool L', .slice aa m ca]⟩, ⟨5, 1, .slice ab m cb, m, bv X⟩]) := R6b.out.new hbb hOb
  clear hOb hbb R6b p0 p1 p2 p3 pz C13 C14
  have R7b : Hid (Rws w (w7.alloc (.cells #[.bool S, .bool L', .slice ab m cb] 38)) [⟨27, 4, .slice (some ⟨w.heap.size, 0, none⟩) 1 1, 1, [.int .i64 F, .int .i64 T, .bool L, .bool D]⟩, ⟨5, 1, .slice aw m cw, m, bv X⟩, ⟨38, 3, .slice (some ⟨w2.heap.size, 0, none⟩) 1 1, 1, [.bool S, .bool L', .slice aw m cw]⟩, ⟨5, 1, .slice (some ⟨gF, 0, none⟩) (n + 2) cF, n + 2, bv l ++ [.int .u8 161, .int .u8 162]⟩, ⟨5, 1, .slice aa m ca, m, bv X⟩, ⟨38, 3, .slice (some ⟨w6.heap.size, 0, none⟩) 1 1, 1, [.bool S, .bool L', .slice aa m ca]⟩, ⟨5, 1, .slice ab m cb, m, bv X⟩, ⟨38, 3, .slice (some ⟨w7.heap.size, 0, none⟩) 1 1, 1, [.bool S, .bool L', .slice ab m cb]⟩]) := R7.out.new (bAlloc (Below.refl _ w7) (.cells #[.bool S, .bool L', .slice ab m cb] 38)) (own_new w7 _ 38 3 rfl)
  have q0 := ((R7.out.own 2 _ rfl).cellAt 0 (by show 0 < 1 * 3; decide))
  have q1 := ((R7.out.own 2 _ rfl).cellAt 1 (by show 1 < 1 * 3; decide))
  have q2 := ((R7.out.own 2 _ rfl).cellAt 2 (by show 2 < 1 * 3; decide))
  simp only [List.getElem?_cons_zero, List.getElem?_cons_succ] at q0 q1 q2
  have qz := ((R7.out.own 2 _ rfl).lt _ rfl).2
  have r0 := ((R7.out.own 5 _ rfl).cellAt 0 (by show 0 < 1 * 3; decide))
  have r1 := ((R7.out.own 5 _ rfl).cellAt 1 (by show 1 < 1 * 3; decide))
  have r2 := ((R7.out.own 5 _ rfl).cellAt 2 (by show 2 < 1 * 3; decide))
  simp only [List.getElem?_cons_zero, List.getElem?_cons_succ] at r0 r1 r2
  have rz := ((R7.out.own 5 _ rfl).lt _ rfl).2
  clear R7
  have txX : ∀ (W : World) (v : Value) (ax : Option Addr) (cx : Nat), v = .slice ax m cx → W.ownsRow w.heap.size 5 1 v m (bv X) → Tx W ax m cx X := fun W v ax cx hv hW => by
    have hl := HM.out
    obtain ⟨ay, cy, hy, hT⟩ := own_txl hW (by omega)
    rw [hv] at hy
    obtain ⟨e1, e2⟩ : ax = ay ∧ cx = cy := by simpa using hy
    subst e1 e2
    exact hT
  have TXX := Hid.mk' txX
  clear txX
  go_wp2_with fail
  refine (same_yes S L' aa aw m m ca cw X _ (TXX.out _ _ _ _ rfl (R7b.out.own 4 _ rfl)) (TXX.out _ _ _ _ rfl (R7b.out.own 1 _ rfl))).mono ?_
  rintro e w8 ⟨rfl, hb8⟩
  have R8 := Hid.mk' (R7b.out.keep hb8)
  clear hb8 R7b q0 q1 q2 qz r0 r1 r2 rz
  have q0 := ((R8.out.own 2 _ rfl).cellAt 0 (by show 0 < 1 * 3; decide))
  have q1 := ((R8.out.own 2 _ rfl).cellAt 1 (by show 1 < 1 * 3; decide))
  have q2 := ((R8.out.own 2 _ rfl).cellAt 2 (by show 2 < 1 * 3; decide))
  simp only [List.getElem?_cons_zero, List.getElem?_cons_succ] at q0 q1 q2
  have qz := ((R8.out.own 2 _ rfl).lt _ rfl).2
  have r0 := ((R8.out.own 7 _ rfl).cellAt 0 (by show 0 < 1 * 3; decide))
  have r1 := ((R8.out.own 7 _ rfl).cellAt 1 (by show 1 < 1 * 3; decide))
  have r2 := ((R8.out.own 7 _ rfl).cellAt 2 (by show 2 < 1 * 3; decide))
  simp only [List.getElem?_cons_zero, List.getElem?_cons_succ] at r0 r1 r2
  have rz := ((R8.out.own 7 _ rfl).lt _ rfl).2
  go_wp2_with fail
  refine (same_yes S L' ab aw m m cb cw X _ (TXX.out _ _ _ _ rfl (R8.out.own 6 _ rfl)) (TXX.out _ _ _ _ rfl (R8.out.own 1 _ rfl))).mono ?_
  rintro e w9 ⟨rfl, hb9⟩
  have R9 := Hid.mk' (R8.out.keep hb9)
  clear hb9 R8 q0 q1 q2 qz r0 r1 r2 rz
  go_wp2_with fail
  go_loopw [13] (fun x wr => ∃ (i : Nat) (Y : List UInt8), x = .int .i64 i ∧ i ≤ m ∧ Y.length = m ∧ Rws w wr [⟨27, 4, .slice (some ⟨w.heap.size, 0, none⟩) 1 1, 1, [.int .i64 F, .int .i64 T, .bool L, .bool D]⟩, ⟨5, 1, .slice aw m cw, m, bv X⟩, ⟨38, 3, .slice (some ⟨w2.heap.size, 0, none⟩) 1 1, 1, [.bool S, .bool L', .slice aw m cw]⟩, ⟨5, 1, .slice (some ⟨gF, 0, none⟩) (n + 2) cF, n + 2, bv l ++ [.int .u8 161, .int .u8 162]⟩, ⟨5, 1, .slice aa m ca, m, bv Y⟩, ⟨38, 3, .slice (some ⟨w6.heap.size, 0, none⟩) 1 1, 1, [.bool S, .bool L', .slice aa m ca]⟩, ⟨5, 1, .slice ab m cb, m, bv X⟩, ⟨38, 3, .slice (some ⟨w7.heap.size, 0, none⟩) 1 1, 1, [.bool S, .bool L', .slice ab m cb]⟩]) (fun x _ => m - (intOf x).toNat)
  case atStart => exact ⟨0, X, rfl, Nat.zero_le _, HM.out, R9.out⟩
  case round =>
    obtain ⟨i, Y, rfl, hi, hY, hR⟩ := hrel
    have R10 := Hid.mk' hR
    have HY := Hid.mk' hY
    clear hR R9 hY
    have hi0 : (0 : Int) ≤ (i : Int) := by omega
    have r0 := ((R10.out.own 5 _ rfl).cellAt 0 (by show 0 < 1 * 3; decide))
    have r1 := ((R10.out.own 5 _ rfl).cellAt 1 (by show 1 < 1 * 3; decide))
    have r2 := ((R10.out.own 5 _ rfl).cellAt 2 (by show 2 < 1 * 3; decide))
    simp only [List.getElem?_cons_zero, List.getElem?_cons_succ] at r0 r1 r2
    have rz := ((R10.out.own 5 _ rfl).lt _ rfl).2
    by_cases hlt : i < m
    · have hi1 : (i : Int) < (m : Int) := by omega
      have O10 := Hid.mk' (R10.out.own 4 _ rfl)
      obtain ⟨ga, ca', hva, -, -⟩ := own_some O10.out (show 1 ≤ m by omega)
      have hva2 : aa = some ⟨ga, 0, none⟩ := by simp at hva; exact hva.1
      subst hva2
      have hcz : wr.cell? ⟨ga, i, none⟩ = some (.int .u8 ((at8 Y i).toNat : Int)) := by
        rw [O10.out.cellAt i (by show i < m * 1; omega)]; exact bv_at Y i (by rw [HY.out]; exact hlt)
      have fz := O10.out.frozenAt i
      have hxr := xr (at8 Y i)
      have R11 : Hid (Rws w (wr.setCell ⟨ga, i, none⟩ (.int .u8 ((at8 Y i ^^^ 85).toNat : Int))) [⟨27, 4, .slice (some ⟨w.heap.size, 0, none⟩) 1 1, 1, [.int .i64 F, .int .i64 T, .bool L, .bool D]⟩, ⟨5, 1, .slice aw m cw, m, bv X⟩, ⟨38, 3, .slice (some ⟨w2.heap.size, 0, none⟩) 1 1, 1, [.bool S, .bool L', .slice aw m cw]⟩, ⟨5, 1, .slice (some ⟨gF, 0, none⟩) (n + 2) cF, n + 2, bv l ++ [.int .u8 161, .int .u8 162]⟩, ⟨5, 1, .slice (some ⟨ga, 0, none⟩) m ca, m, bv (Y.set i (at8 Y i ^^^ 85))⟩, ⟨38, 3, .slice (some ⟨w6.heap.size, 0, none⟩) 1 1, 1, [.bool S, .bool L', .slice (some ⟨ga, 0, none⟩) m ca]⟩, ⟨5, 1, .slice ab m cb, m, bv X⟩, ⟨38, 3, .slice (some ⟨w7.heap.size, 0, none⟩) 1 1, 1, [.bool S, .bool L', .slice ab m cb]⟩]) := by
        have := R10.out.store (i := 4) rfl i (.int .u8 ((at8 Y i ^^^ 85).toNat : Int))
        rw [bv_set] at this
        exact this
      clear hva
      go_wp2
      go_roundw
      case rel => exact ⟨i + 1, _, by go_num, by omega, by rw [List.length_set]; exact HY.out, R11.out⟩
      case measure => simp [intOf]; omega
    · have hi1 : ¬ (i : Int) < (m : Int) := by omega
      go_wp2_with fail
      go_loopw [14] (fun x wr => ∃ (k : Nat) (v : Value) (ys : List Value), x = .int .i64 k ∧ k ≤ 10 ∧ Rws w wr [⟨27, 4, .slice (some ⟨w.heap.size, 0, none⟩) 1 1, 1, [.int .i64 F, .int .i64 T, .bool L, .bool D]⟩, ⟨5, 1, .slice aw m cw, m, bv X⟩, ⟨38, 3, .slice (some ⟨w2.heap.size, 0, none⟩) 1 1, 1, [.bool S, .bool L', .slice aw m cw]⟩, ⟨5, 1, .slice (some ⟨gF, 0, none⟩) (n + 2) cF, n + 2, bv l ++ [.int .u8 161, .int .u8 162]⟩, ⟨5, 1, v, m + k, ys⟩, ⟨38, 3, .slice (some ⟨w6.heap.size, 0, none⟩) 1 1, 1, [.bool S, .bool L', v]⟩, ⟨5, 1, .slice ab m cb, m, bv X⟩, ⟨38, 3, .slice (some ⟨w7.heap.size, 0, none⟩) 1 1, 1, [.bool S, .bool L', .slice ab m cb]⟩]) (fun x _ => 10 - (intOf x).toNat)
      case atStart => exact ⟨0, _, _, rfl, by omega, R10.out⟩
      case round =>
        obtain ⟨k, v, ys, rfl, hk, hR⟩ := hrel
        have R12 := Hid.mk' hR
        clear hR R10 r0 r1 r2 rz
        obtain ⟨ax, cx, hv⟩ := own_shape (R12.out.own 4 _ rfl)
        simp only at hv
        subst hv
        have hk0 : (0 : Int) ≤ (k : Int) := by omega
        have r0 := ((R12.out.own 5 _ rfl).cellAt 0 (by show 0 < 1 * 3; decide))
        have r1 := ((R12.out.own 5 _ rfl).cellAt 1 (by show 1 < 1 * 3; decide))
        have r2 := ((R12.out.own 5 _ rfl).cellAt 2 (by show 2 < 1 * 3; decide))
        simp only [List.getElem?_cons_zero, List.getElem?_cons_succ] at r0 r1 r2
        have rz := ((R12.out.own 5 _ rfl).lt _ rfl).2
        have fr2 := (R12.out.own 5 _ rfl).frozenAt 2
        by_cases hlk : k < 10
        · have hk1 : (k : Int) < 10 := by omega
          go_wp2_with (at_builtin; refine append_srv rfl (.tmp 84) (.tmp 85) 22 rfl w.heap.size 5 i5 (.int .u8 0) 1 1 Try.underlying22 hi5 hz5 hs5 hb5 rfl (by decide) (.slice ax (m + k) cx) (m + k) ys rfl ((R12.out.own 4 _ rfl).alloc _) (.slice (some ⟨wr.heap.size, 0, none⟩) 1 1) 1 [.int .u8 119] rfl (.inr ⟨⟨wr.heap.size, 0, none⟩, 1, rfl, fun j t hj => lit_cells wr _ 5 j t hj⟩) rfl (by intro u hu; simp at hu; subst hu; rfl) (by unfold maxLen; omega) (by omega) (by have := R12.out.bel.size; simp; omega) ?_)
          intro v13 w13 hown13 hgrow13 hfr13
          obtain ⟨ax2, cx2, hv2⟩ := own_shape hown13
          subst hv2
          have R13 := Hid.mk' ((R12.out.alloc (.cells #[.int .u8 119] 5)).grow (i := 4) rfl hgrow13 hown13 (by rcases hfr13 with e | ⟨q, e, hq⟩; exact .inl e; exact .inr ⟨q, e, by simpa using hq⟩))
          have R14 := Hid.mk' (R13.out.store (i := 5) rfl 2 (.slice ax2 (m + k + 1) cx2))
          have g2 := (R13.out.own 5 _ rfl).cellAt 2 (by show 2 < 1 * 3; decide)
          simp only [List.getElem?_cons_zero, List.getElem?_cons_succ] at g2
          have fg2 := (R13.out.own 5 _ rfl).frozenAt 2
          have gz := ((R13.out.own 5 _ rfl).lt _ rfl).2
          clear hown13 hgrow13 hfr13 R12 R13 r0 r1 r2 rz fr2
          go_wp2
          go_roundw
          case rel => exact ⟨k + 1, _, _, by go_num, by omega, R14.out⟩
          case measure => simp [intOf]; omega
        · have hk1 : ¬ (k : Int) < 10 := by omega
          obtain rfl : k = 10 := by omega
          clear hlk hk hk1 hk0 hlt hi hi0 hi1
          clear r0 r1 r2 rz fr2
          have q0 := ((R12.out.own 2 _ rfl).cellAt 0 (by show 0 < 1 * 3; decide))
          have q1 := ((R12.out.own 2 _ rfl).cellAt 1 (by show 1 < 1 * 3; decide))
          have q2 := ((R12.out.own 2 _ rfl).cellAt 2 (by show 2 < 1 * 3; decide))
          simp only [List.getElem?_cons_zero, List.getElem?_cons_succ] at q0 q1 q2
          have qz := ((R12.out.own 2 _ rfl).lt _ rfl).2
          have r0 := ((R12.out.own 7 _ rfl).cellAt 0 (by show 0 < 1 * 3; decide))
          have r1 := ((R12.out.own 7 _ rfl).cellAt 1 (by show 1 < 1 * 3; decide))
          have r2 := ((R12.out.own 7 _ rfl).cellAt 2 (by show 2 < 1 * 3; decide))
          simp only [List.getElem?_cons_zero, List.getElem?_cons_succ] at r0 r1 r2
          have rz := ((R12.out.own 7 _ rfl).lt _ rfl).2
          go_wp2_with fail
          refine (same_yes S L' ab aw m m cb cw X _ (TXX.out _ _ _ _ rfl (R12.out.own 6 _ rfl)) (TXX.out _ _ _ _ rfl (R12.out.own 1 _ rfl))).mono ?_
          rintro e w15 ⟨rfl, hb15⟩
          have R15 := Hid.mk' (R12.out.keep hb15)
          clear hb15 R12 q0 q1 q2 qz r0 r1 r2 rz
          have O15 := Hid.mk' (R15.out.own 3 _ rfl)
          have V1 := conv_tx (HTF.out w15 O15.out)
          have V2 := conv_tx (HT.out.keep R15.out.bel)
          have c1 : w15.cell? ⟨gF, n, none⟩ = some (.int .u8 161) := by rw [O15.out.cellAt n (by show n < (n + 2) * 1; omega)]; show (bv l ++ [Value.int .u8 161, Value.int .u8 162])[n]? = _; rw [List.getElem?_append_right (by rw [bv_length, hlen.out]; exact Nat.le_refl _), bv_length, hlen.out, Nat.sub_self]; rfl
          have c2 : w15.cell? ⟨gF, n + 1, none⟩ = some (.int .u8 162) := by rw [O15.out.cellAt (n + 1) (by show n + 1 < (n + 2) * 1; omega)]; show (bv l ++ [Value.int .u8 161, Value.int .u8 162])[n + 1]? = _; rw [List.getElem?_append_right (by rw [bv_length, hlen.out]; omega), bv_length, hlen.out, show n + 1 - n = 1 from by omega]; rfl
          have hw1 : IntKind.i64.wrap ((n : Int) + 1) = (n : Int) + 1 := by rw [IntKind.wrap_i64]; omega
          have hnn : (n : Int) < (n : Int) + 2 := by omega
          have hnm : (n : Int) + 1 < (n : Int) + 2 := by omega
          have hn1 : (0 : Int) ≤ (n : Int) + 1 := by omega
          clear O15
          go_wp2_with fail
          have R15' : Hid (∃ Z : List UInt8, Z.length = n + 2 ∧ Rws w w15 [⟨27, 4, .slice (some ⟨w.heap.size, 0, none⟩) 1 1, 1, [.int .i64 F, .int .i64 T, .bool L, .bool D]⟩, ⟨5, 1, .slice aw m cw, m, bv X⟩, ⟨38, 3, .slice (some ⟨w2.heap.size, 0, none⟩) 1 1, 1, [.bool S, .bool L', .slice aw m cw]⟩, ⟨5, 1, .slice (some ⟨gF, 0, none⟩) (n + 2) cF, n + 2, bv Z⟩, ⟨5, 1, .slice ax (m + 10) cx, m + 10, ys⟩, ⟨38, 3, .slice (some ⟨w6.heap.size, 0, none⟩) 1 1, 1, [.bool S, .bool L', .slice ax (m + 10) cx]⟩, ⟨5, 1, .slice ab m cb, m, bv X⟩, ⟨38, 3, .slice (some ⟨w7.heap.size, 0, none⟩) 1 1, 1, [.bool S, .bool L', .slice ab m cb]⟩]) := ⟨l ++ [161, 162], by rw [List.length_append, hlen.out]; rfl, by rw [show bv (l ++ [161, 162]) = bv l ++ [.int .u8 161, .int .u8 162] from by simp [bv]]; exact R15.out⟩
          clear R15 V1 V2 c1 c2
          go_loopw [15] (fun x wr => ∃ (j : Nat) (Z : List UInt8), x = .int .i64 j ∧ j ≤ n ∧ Z.length = n + 2 ∧ Rws w wr [⟨27, 4, .slice (some ⟨w.heap.size, 0, none⟩) 1 1, 1, [.int .i64 F, .int .i64 T, .bool L, .bool D]⟩, ⟨5, 1, .slice aw m cw, m, bv X⟩, ⟨38, 3, .slice (some ⟨w2.heap.size, 0, none⟩) 1 1, 1, [.bool S, .bool L', .slice aw m cw]⟩, ⟨5, 1, .slice (some ⟨gF, 0, none⟩) (n + 2) cF, n + 2, bv Z⟩, ⟨5, 1, .slice ax (m + 10) cx, m + 10, ys⟩, ⟨38, 3, .slice (some ⟨w6.heap.size, 0, none⟩) 1 1, 1, [.bool S, .bool L', .slice ax (m + 10) cx]⟩, ⟨5, 1, .slice ab m cb, m, bv X⟩, ⟨38, 3, .slice (some ⟨w7.heap.size, 0, none⟩) 1 1, 1, [.bool S, .bool L', .slice ab m cb]⟩]) (fun x _ => n - (intOf x).toNat)
          case atStart =>
            obtain ⟨Z, hZ, hR⟩ := R15'.out
            exact ⟨0, Z, rfl, Nat.zero_le _, hZ, hR⟩
          case round =>
            obtain ⟨j, Z, rfl, hj, hZ, hR⟩ := hrel
            have R16 := Hid.mk' hR
            have HZ := Hid.mk' hZ
            clear hR R15' hZ
            have hj0 : (0 : Int) ≤ (j : Int) := by omega
            by_cases hlj : j < n
            · have hj1 : (j : Int) < (n : Int) := by omega
              have O16 := Hid.mk' (R16.out.own 3 _ rfl)
              have hcz : wr.cell? ⟨gF, j, none⟩ = some (.int .u8 ((at8 Z j).toNat : Int)) := by
                rw [O16.out.cellAt j (by show j < (n + 2) * 1; omega)]; exact bv_at Z j (by rw [HZ.out]; omega)
              have fz := O16.out.frozenAt j
              have hxr := xr (at8 Z j)
              have R17 : Hid (Rws w (wr.setCell ⟨gF, j, none⟩ (.int .u8 ((at8 Z j ^^^ 85).toNat : Int))) [⟨27, 4, .slice (some ⟨w.heap.size, 0, none⟩) 1 1, 1, [.int .i64 F, .int .i64 T, .bool L, .bool D]⟩, ⟨5, 1, .slice aw m cw, m, bv X⟩, ⟨38, 3, .slice (some ⟨w2.heap.size, 0, none⟩) 1 1, 1, [.bool S, .bool L', .slice aw m cw]⟩, ⟨5, 1, .slice (some ⟨gF, 0, none⟩) (n + 2) cF, n + 2, bv (Z.set j (at8 Z j ^^^ 85))⟩, ⟨5, 1, .slice ax (m + 10) cx, m + 10, ys⟩, ⟨38, 3, .slice (some ⟨w6.heap.size, 0, none⟩) 1 1, 1, [.bool S, .bool L', .slice ax (m + 10) cx]⟩, ⟨5, 1, .slice ab m cb, m, bv X⟩, ⟨38, 3, .slice (some ⟨w7.heap.size, 0, none⟩) 1 1, 1, [.bool S, .bool L', .slice ab m cb]⟩]) := by
                have := R16.out.store (i := 3) rfl j (.int .u8 ((at8 Z j ^^^ 85).toNat : Int))
                rw [bv_set] at this
                exact this
              go_wp2
              go_roundw
              case rel => exact ⟨j + 1, _, by go_num, by omega, by rw [List.length_set]; exact HZ.out, R17.out⟩
              case measure => simp [intOf]; omega
            · have hj1 : ¬ (j : Int) < (n : Int) := by omega
              have q0 := ((R16.out.own 2 _ rfl).cellAt 0 (by show 0 < 1 * 3; decide))
              have q1 := ((R16.out.own 2 _ rfl).cellAt 1 (by show 1 < 1 * 3; decide))
              have q2 := ((R16.out.own 2 _ rfl).cellAt 2 (by show 2 < 1 * 3; decide))
              simp only [List.getElem?_cons_zero, List.getElem?_cons_succ] at q0 q1 q2
              have qz := ((R16.out.own 2 _ rfl).lt _ rfl).2
              have r0 := ((R16.out.own 7 _ rfl).cellAt 0 (by show 0 < 1 * 3; decide))
              have r1 := ((R16.out.own 7 _ rfl).cellAt 1 (by show 1 < 1 * 3; decide))
              have r2 := ((R16.out.own 7 _ rfl).cellAt 2 (by show 2 < 1 * 3; decide))
              simp only [List.getElem?_cons_zero, List.getElem?_cons_succ] at r0 r1 r2
              have rz := ((R16.out.own 7 _ rfl).lt _ rfl).2
              go_wp2_with fail
              refine (same_yes S L' ab aw m m cb cw X _ (TXX.out _ _ _ _ rfl (R16.out.own 6 _ rfl)) (TXX.out _ _ _ _ rfl (R16.out.own 1 _ rfl))).mono ?_
              rintro e w17 ⟨rfl, hb17⟩
              have R18 := Hid.mk' (R16.out.keep hb17)
              clear hb17 R16 q0 q1 q2 qz r0 r1 r2 rz
              have q0 := ((R18.out.own 2 _ rfl).cellAt 0 (by show 0 < 1 * 3; decide))
              have q1 := ((R18.out.own 2 _ rfl).cellAt 1 (by show 1 < 1 * 3; decide))
              have q2 := ((R18.out.own 2 _ rfl).cellAt 2 (by show 2 < 1 * 3; decide))
              simp only [List.getElem?_cons_zero, List.getElem?_cons_succ] at q0 q1 q2
              have qz := ((R18.out.own 2 _ rfl).lt _ rfl).2
              have r0 := ((R18.out.own 5 _ rfl).cellAt 0 (by show 0 < 1 * 3; decide))
              have r1 := ((R18.out.own 5 _ rfl).cellAt 1 (by show 1 < 1 * 3; decide))
              have r2 := ((R18.out.own 5 _ rfl).cellAt 2 (by show 2 < 1 * 3; decide))
              simp only [List.getElem?_cons_zero, List.getElem?_cons_succ] at r0 r1 r2
              have rz := ((R18.out.own 5 _ rfl).lt _ rfl).2
              have hwm : IntKind.i64.wrap ((m : Int) + 10) = (m : Int) + 10 := by rw [IntKind.wrap_i64]; omega
              go_wp2
              go_ret
              exact ⟨rfl, R18.out.bel⟩

end Go.Proofs.Ytbknnicpdkpmiaa
