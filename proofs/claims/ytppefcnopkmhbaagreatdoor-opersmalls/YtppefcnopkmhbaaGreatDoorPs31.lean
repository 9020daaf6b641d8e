/- Law, Awk9, Csp, Fts, Fpr, Fpd, Rjn -/
import Derived.Test.YtppefcnopkmhbaaGreatDoorPs30
import Derived.Test.YtppefcnopkmhbaaGreatDoorPs18
import Derived.Lib.SmallJoins
import Derived.Test.YtppefcnopkmhbaaGreatDoorPs24
import Derived.Test.YtppefcnopkmhbaaGreatDoorPs29
import Derived.Test.YtppefcnopkmhbaaGreatDoorPs27
namespace Go.Proofs.YtppefcnopkmhbaaGreatDoor
open Go.RowKit

set_option maxRecDepth 8000
theorem lit_tx {W : World} {B n : Nat} {l : List UInt8} {cs : Array Value} (h : Blk W B 5 cs) (hc : cs.toList = bv l) (hn : l.length = n) (hb : n ≤ 1000000) : Tx W (some ⟨B, 0, none⟩) n n l := by
  refine ⟨hn, Nat.le_refl _, by omega, (fun e => by cases e), fun a ha j hj => ?_⟩
  injection ha with ha
  subst ha
  rw [show (⟨B, 0, none⟩ : Addr).add j = ⟨B, j, none⟩ by rw [add_none, Nat.zero_add]]
  refine h.cell ?_
  rw [← Array.getElem?_toList, hc]
  exact bv_at l j (by omega)
theorem lit_tx2 {W : World} {n : Nat} {l : List UInt8} {cs : Array Value} {m : Nat × Nat} (hc : cs.toList = bv l) (hn : l.length = n) (hb : n ≤ 1000000) : Tx (W.alloc (.cells cs 5 m)) (some ⟨W.heap.size, 0, none⟩) n n l := by
  refine ⟨hn, Nat.le_refl _, by omega, (fun e => by cases e), fun a ha j hj => ?_⟩
  injection ha with ha
  subst ha
  rw [show (⟨W.heap.size, 0, none⟩ : Addr).add j = ⟨W.heap.size, j, none⟩ by rw [add_none, Nat.zero_add]]
  have h0 : (W.alloc (.cells cs 5 m)).heap[W.heap.size]? = some (.cells cs 5 m) := heap_alloc_new W _
  have h1 : cs[j]? = some (.int .u8 ((at8 l j).toNat : Int)) := by rw [← Array.getElem?_toList, hc]; exact bv_at l j (by omega)
  rw [cell_of_row _ W.heap.size j cs 5 m h0]
  exact h1
/-- the one edit of a list -/
theorem Eds.single {W : World} {lo hi : Nat} {v : Value} {F : List Er} {d : Ed} (h : Eds W lo hi v F) (hF : F.map Er.d = [d]) :
    ∃ g cap p1 c1 p2 c2, v = .slice (some ⟨g, 0, none⟩) 1 cap ∧ W.cell? ⟨g, 0, none⟩ = some (.int .i64 d.a) ∧ W.cell? ⟨g, 1, none⟩ = some (.slice p1 d.O.length c1) ∧ W.cell? ⟨g, 2, none⟩ = some (.slice p2 d.N.length c2) ∧ Tx W p1 d.O.length c1 d.O ∧ Tx W p2 d.N.length c2 d.N := by
  match F, hF, h with
  | [], hF, _ => simp at hF
  | [r], hF, h =>
    simp at hF
    subst hF
    obtain ⟨ao, c, hv, hZ, _⟩ := h.edz
    obtain ⟨g, cap, e, _, _⟩ := own_some h.row (by simp)
    rw [hv] at e
    injection e with e1 e2 e3
    obtain ⟨g', o', e', k1, k2, k3⟩ := hZ.row 0 r rfl
    rw [e1] at e'
    injection e' with e'
    injection e' with e4 e5
    subst e4 e5
    have t := hZ.txs 0 r rfl
    have hO : r.O.length = r.o := t.t1.len
    have hN : r.N.length = r.n := t.t2.len
    have k1' : W.cell? ⟨g, 0, none⟩ = some (.int .i64 r.a) := by simpa using k1
    have k2' : W.cell? ⟨g, 1, none⟩ = some (.slice r.p1 r.o r.c1) := by simpa using k2
    have k3' : W.cell? ⟨g, 2, none⟩ = some (.slice r.p2 r.n r.c2) := by simpa using k3
    refine ⟨g, c, r.p1, r.c1, r.p2, r.c2, by rw [hv, e1]; rfl, k1', ?_, ?_, ?_, ?_⟩
    · show _ = some (Value.slice r.p1 r.O.length r.c1); rw [hO]; exact k2'
    · show _ = some (Value.slice r.p2 r.N.length r.c2); rw [hN]; exact k3'
    · show Tx W r.p1 r.O.length r.c1 r.O; rw [hO]; exact t.t1
    · show Tx W r.p2 r.N.length r.c2 r.N; rw [hN]; exact t.t2
  | _ :: _ :: _, hF, _ => simp at hF
end Go.Proofs.YtppefcnopkmhbaaGreatDoor

namespace Go.Proofs.YtppefcnopkmhbaaGreatDoor
open Go.RowKit

set_option maxRecDepth 8000
theorem aw_do : doX [104, 101, 108, 108, 111] 0 ⟨#[100]⟩ 0 2 false false 1 = (⟨[⟨0, [104, 101], []⟩], 0, true, false, [104, 101], 3, false⟩, 0) := by kernel_rfl
theorem aw_put : ptX [108, 108, 111] 0 1 true false [104, 101] true = (⟨[⟨0, [], [104, 101]⟩], 1, false, false, [], 0, false⟩, 0) := by kernel_rfl
theorem conv_lit (W : World) (C : Array Value) (n g : Nat) (hg : g = W.heap.size) : (convert 22 22 (.slice (some ⟨g, 0, none⟩) n n)).run Tryz.prog (W.alloc (.cells C 5)) = .ok (.slice (some ⟨g, 0, none⟩) n n) (W.alloc (.cells C 5 (C.size, C.size + 1))) :=
  Joins.run_convert_bytes_const_at W 22 5 C n n g hg Tryz.underlying22 Tryz.underlying5
set_option maxHeartbeats 4000000 in
set_option linter.unusedSimpArgs false in
theorem awake_any (w : World) : Calls Tryz.prog 7 #[] w fun e w' => e = .returned (.bool true) ∧ Below w.heap.size w w' := by
  obtain ⟨W1, hW1⟩ : ∃ x, w.alloc (.cells #[.int .u8 104, .int .u8 101, .int .u8 108, .int .u8 108, .int .u8 111] 5 (5, 6)) = x := ⟨_, rfl⟩
  obtain ⟨q, hq⟩ : ∃ q, w.heap.size = q := ⟨_, rfl⟩
  have hT1 : Tx W1 (some ⟨q, 0, none⟩) 5 5 [104, 101, 108, 108, 111] := by rw [← hW1, ← hq]; exact lit_tx2 rfl rfl (by omega)
  have hb1 : Below w.heap.size w W1 := by rw [← hW1]; exact bAlloc (Below.refl _ _) _
  have C0 := do_any (some ⟨q, 0, none⟩) 5 5 [104, 101, 108, 108, 111] 0 ⟨#[100]⟩ 0 2 false false 1 W1 hT1 (by omega)
  rw [aw_do] at C0
  have CD := Hid.mk' C0
  have B1 := Hid.mk' hb1
  have cv1 : (convert 22 22 (.slice (some ⟨q, 0, none⟩) 5 5)).run Tryz.prog (w.alloc (.cells #[.int .u8 104, .int .u8 101, .int .u8 108, .int .u8 108, .int .u8 111] 5)) = .ok (.slice (some ⟨q, 0, none⟩) 5 5) W1 := by rw [← hW1]; exact conv_lit w _ 5 q hq.symm
  clear C0 hT1 hb1
  go_enter Tryz.func7, Tryz.ntmps7
  go_wp2_with fail
  refine CD.out.mono ?_
  rintro e w2 ⟨v, F, tv, rfl, hF, hM, hb2⟩
  obtain ⟨g1, k1, p1, c1, p2, c2, rfl, -, e1, -, t1, -⟩ := hM.eds.single hF
  obtain ⟨tp, tc, rfl⟩ := hM.tx.shape
  have hTV : Tx w2 tp 2 tc [104, 101] := hM.tx.tx (by simp)
  have B2 := Hid.mk' (bT B1.out hb2)
  have E1 : Hid (w2.cell? ⟨g1, 1, none⟩ = some (.slice p1 2 c1)) := e1
  have T1 : Hid (Tx w2 p1 2 c1 [104, 101]) := t1
  have TV := Hid.mk' hTV
  clear hF hM hb2 e1 t1 hTV CD hW1
  unfold efV
  dsimp only [List.length_cons, List.length_nil, Nat.zero_add, Nat.reduceAdd]
  go_upto_region 2 with fail
  obtain ⟨q1, hq1⟩ : ∃ q, w2.heap.size = q := ⟨_, rfl⟩
  have hb3 : Below w2.heap.size w2 (w2.alloc (.cells #[.slice (some ⟨g1, 0, none⟩) 1 k1, .int .i64 0, .bool true, .bool false, .slice tp 2 tc, .int .i64 3, .bool false] 35)) := bAlloc (Below.refl _ _) _
  have hk3 : Blk (w2.alloc (.cells #[.slice (some ⟨g1, 0, none⟩) 1 k1, .int .i64 0, .bool true, .bool false, .slice tp 2 tc, .int .i64 3, .bool false] 35)) q1 35 #[.slice (some ⟨g1, 0, none⟩) 1 k1, .int .i64 0, .bool true, .bool false, .slice tp 2 tc, .int .i64 3, .bool false] := by rw [← hq1]; exact Blk.new w2 35 _
  rw [hq1]
  generalize w2.alloc (.cells #[.slice (some ⟨g1, 0, none⟩) 1 k1, .int .i64 0, .bool true, .bool false, .slice tp 2 tc, .int .i64 3, .bool false] 35) = w3 at *
  have B3 := Hid.mk' (bT B2.out hb3)
  have E1' := Hid.mk' (cell_keep E1.out hb3)
  have T1' := Hid.mk' (T1.out.keep hb3)
  have TV' := Hid.mk' (TV.out.keep hb3)
  have K3 := Hid.mk' hk3
  obtain ⟨W4, hW4⟩ : ∃ x, w3.alloc (.cells #[.int .u8 108, .int .u8 108, .int .u8 111] 5 (3, 4)) = x := ⟨_, rfl⟩
  obtain ⟨r, hr⟩ : ∃ q, w3.heap.size = q := ⟨_, rfl⟩
  have hb4 : Below w3.heap.size w3 W4 := by rw [← hW4]; exact bAlloc (Below.refl _ _) _
  have hT4 : Tx W4 (some ⟨r, 0, none⟩) 3 3 [108, 108, 111] := by rw [← hW4, ← hr]; exact lit_tx2 rfl rfl (by omega)
  have C1 := put_any (some ⟨r, 0, none⟩) 3 3 [108, 108, 111] 0 1 true false tp 2 tc [104, 101] true W4 hT4 (TV'.out.keep hb4) (by omega) (by omega)
  rw [aw_put] at C1
  have CP := Hid.mk' C1
  have B4 := Hid.mk' (bT B3.out hb4)
  have E4 := Hid.mk' (cell_keep E1'.out hb4)
  have T4 := Hid.mk' (T1'.out.keep hb4)
  have V4 := Hid.mk' (TV'.out.keep hb4)
  have K4 := Hid.mk' (K3.out.keep hb4)
  have x2 : W4.cell? ⟨q1, 2, none⟩ = some (.bool true) := K4.out.cell rfl
  have x3 : W4.cell? ⟨q1, 3, none⟩ = some (.bool false) := K4.out.cell rfl
  have x4 : W4.cell? ⟨q1, 4, none⟩ = some (.slice tp 2 tc) := K4.out.cell rfl
  have cv2 : (convert 22 22 (.slice (some ⟨r, 0, none⟩) 3 3)).run Tryz.prog (w3.alloc (.cells #[.int .u8 108, .int .u8 108, .int .u8 111] 5)) = .ok (.slice (some ⟨r, 0, none⟩) 3 3) W4 := by rw [← hW4]; exact conv_lit w3 _ 3 r hr.symm
  clear hb3 hk3 hq1 E1 T1 TV hb4 hT4 C1 E1' T1' TV' K3
  go_wp2_with fail
  refine CP.out.mono ?_
  rintro e w5 ⟨v, F, tv, rfl, hF, hM, hb5⟩
  obtain ⟨g2, k2, p3, c3, p4, c4, rfl, -, -, e2, -, t2⟩ := hM.eds.single hF
  obtain ⟨tp2, tc2, rfl⟩ := hM.tx.shape
  have B5 := Hid.mk' (bT B4.out hb5)
  have E5 := Hid.mk' (cell_keep E4.out hb5)
  have T5 := Hid.mk' (T4.out.keep hb5)
  have V5 := Hid.mk' (V4.out.keep hb5)
  have K5 := Hid.mk' (K4.out.keep hb5)
  have E2 : Hid (w5.cell? ⟨g2, 2, none⟩ = some (.slice p4 2 c4)) := e2
  have T2 : Hid (Tx w5 p4 2 c4 [104, 101]) := t2
  clear hF hM hb5 e2 t2 CP hW4 E4 T4 V4 K4 x2 x3 x4
  unfold efV
  dsimp only [List.length_cons, List.length_nil, Nat.zero_add, Nat.reduceAdd]
  go_upto_region 3 with fail
  obtain ⟨q2, hq2⟩ : ∃ q, w5.heap.size = q := ⟨_, rfl⟩
  have hb6 : Below w5.heap.size w5 (w5.alloc (.cells #[.slice (some ⟨g2, 0, none⟩) 1 k2, .int .i64 1, .bool false, .bool false, .slice tp2 0 tc2, .int .i64 0, .bool false] 35)) := bAlloc (Below.refl _ _) _
  have hk6 : Blk (w5.alloc (.cells #[.slice (some ⟨g2, 0, none⟩) 1 k2, .int .i64 1, .bool false, .bool false, .slice tp2 0 tc2, .int .i64 0, .bool false] 35)) q2 35 #[.slice (some ⟨g2, 0, none⟩) 1 k2, .int .i64 1, .bool false, .bool false, .slice tp2 0 tc2, .int .i64 0, .bool false] := by rw [← hq2]; exact Blk.new w5 35 _
  rw [hq2]
  generalize w5.alloc (.cells #[.slice (some ⟨g2, 0, none⟩) 1 k2, .int .i64 1, .bool false, .bool false, .slice tp2 0 tc2, .int .i64 0, .bool false] 35) = w6 at *
  have B6 := Hid.mk' (bT B5.out hb6)
  have K6 := K5.out.keep hb6
  have y1 := cell_keep E5.out hb6
  have y2 := cell_keep E2.out hb6
  have v1 : (convert 22 9 (.slice p1 2 c1)).run Tryz.prog w6 = .ok (.string ⟨#[104, 101]⟩) w6 := conv_tx (T5.out.keep hb6)
  have v2 : (convert 22 9 (.slice tp 2 tc)).run Tryz.prog w6 = .ok (.string ⟨#[104, 101]⟩) w6 := conv_tx (V5.out.keep hb6)
  have v3 : (convert 22 9 (.slice p4 2 c4)).run Tryz.prog w6 = .ok (.string ⟨#[104, 101]⟩) w6 := conv_tx (T2.out.keep hb6)
  have z0 : w6.cell? ⟨q1, 0, none⟩ = some (.slice (some ⟨g1, 0, none⟩) 1 k1) := K6.cell rfl
  have z3 : w6.cell? ⟨q1, 5, none⟩ = some (.int .i64 3) := K6.cell rfl
  have z4 : w6.cell? ⟨q1, 4, none⟩ = some (.slice tp 2 tc) := K6.cell rfl
  have u0 : w6.cell? ⟨q2, 0, none⟩ = some (.slice (some ⟨g2, 0, none⟩) 1 k2) := hk6.cell rfl
  have u1 : w6.cell? ⟨q2, 1, none⟩ = some (.int .i64 1) := hk6.cell rfl
  clear hb6 hk6 K6 E5 T5 V5 K5 E2 T2 hq2
  go_wp2
  go_ret
  exact ⟨rfl, B6.out⟩
end Go.Proofs.YtppefcnopkmhbaaGreatDoor

namespace Go.Proofs.YtppefcnopkmhbaaGreatDoor
open Go.RowKit

set_option maxRecDepth 8000
theorem app_sw {l : List UInt8} {f t : Nat} (hft : f ≤ t) (ht : t ≤ l.length) (Y : List UInt8) : app l (sw l f t Y) = some (l.take f ++ Y ++ l.drop t) := by
  have hs : sl l f t = (l.drop f).take (t - f) := rfl
  have hj : l.take f ++ sl l f t ++ l.drop t = l := by
    have e := sl_app l (Nat.zero_le f) hft
    rw [List.append_assoc, hs]
    have : (l.drop f).take (t - f) ++ l.drop t = l.drop f := by
      conv => rhs; rw [← List.take_append_drop (t - f) (l.drop f)]
      rw [List.drop_drop]
      congr 2; omega
    rw [this, List.take_append_drop]
  unfold sw
  split
  · rename_i h
    rw [← h, hj]
    rfl
  · have hl : (sl l f t).length = t - f := sl_len (by omega)
    have hfit : fitB l ⟨(f : Int), sl l f t, Y⟩ = true := by
      refine fitB_iff.2 ⟨f, rfl, by omega, ?_⟩
      show (l.drop f).take (sl l f t).length = sl l f t
      rw [hl]
      rfl
    show (if fitB l ⟨(f : Int), sl l f t, Y⟩ = true then app (stp l ⟨(f : Int), sl l f t, Y⟩) [] else none) = _
    rw [if_pos hfit]
    show some (l.take (f : Int).toNat ++ Y ++ l.drop ((f : Int).toNat + (sl l f t).length)) = _
    rw [hl, show (f : Int).toNat = f from rfl, show f + (t - f) = t by omega]
theorem apU_sw {l : List UInt8} {f t : Nat} (hft : f ≤ t) (ht : t ≤ l.length) (Y : List UInt8) : apU l (sw l f t Y) = l.take f ++ Y ++ l.drop t ∧ apE l (sw l f t Y) = 0 := by
  unfold apU apE
  rw [app_sw hft ht]
  exact ⟨rfl, rfl⟩
/-- letters of a range through a function -/
def cs (g : Int → Int) (l : List UInt8) (f t : Nat) : List UInt8 := l.take f ++ (sl l f t).map (tw g) ++ l.drop t
end Go.Proofs.YtppefcnopkmhbaaGreatDoor

namespace Go.Proofs.YtppefcnopkmhbaaGreatDoor
open Go.RowKit

set_option maxRecDepth 8000
/-- what P19.2 says of an answer -/
def FitP (l : List UInt8) (x : Ef × Int) : Prop := (x.2 ≠ 0 ∧ x.1 = ef0) ∨ (x.2 = 0 ∧ ∃ U, app l x.1.es = some U ∧ 0 ≤ x.1.cur ∧ x.1.cur ≤ (U.length : Int))
end Go.Proofs.YtppefcnopkmhbaaGreatDoor

namespace Go.Proofs.YtppefcnopkmhbaaGreatDoor
open Go.RowKit

set_option maxRecDepth 8000
theorem fb_le (l : List UInt8) (z : Nat) : ∀ d i, fb l z d i ≤ max z (i + d)
  | 0, i => by show z ≤ _; omega
  | d + 1, i => by
    unfold fb
    split
    · have := fb_le l z d (i + 1); omega
    · omega
theorem aFirst_le (l : List UInt8) (L : Int) : 0 ≤ (aFirst l L).1 ∧ (aFirst l L).1 ≤ (l.length : Int) := by
  unfold aFirst ans
  cases hb : lnB l L with
  | false => rw [if_neg (by simp)]; exact ⟨Int.le_refl _, by omega⟩
  | true =>
    rw [if_pos rfl]
    obtain ⟨k, rfl, hk⟩ := ln_yes hb
    have h1 := sp_le (t := l) hk
    have h2 := en_ge l (sp l k)
    have h3 := en_le h1
    have h4 := lb_le h2
    rw [show ((k : Int)).toNat = k from rfl]
    have h5 := fb_le l (lb (sp l k) (en l (sp l k))) (en l (sp l k) - sp l k) (sp l k)
    dsimp only
    omega
theorem fbh_le (l : List UInt8) (D : List Ed) (i : Nat) : 0 ≤ fbh l D i ∧ fbh l D i ≤ ((apU l D).length : Int) := aFirst_le _ _
/-- all that is asked of an answer's edits -/
structure FitB (l : List UInt8) (x : Ef × Int) : Prop where
  fit : FitP l x
  sum : nsum x.1.es ≤ 1073741824
  num : x.1.es.length ≤ 1048577
theorem FitB.no {l : List UInt8} {z : Int} (hz : z ≠ 0) : FitB l (ef0, z) := ⟨.inl ⟨hz, rfl⟩, Nat.zero_le _, Nat.zero_le _⟩
theorem FitB.none {l : List UInt8} {x : Ef} (he : x.es = []) (h1 : 0 ≤ x.cur) (h2 : x.cur ≤ (l.length : Int)) : FitB l (x, 0) :=
  ⟨.inr ⟨rfl, l, by dsimp only; rw [he]; rfl, h1, h2⟩, by dsimp only; rw [he]; exact Nat.zero_le _, by dsimp only; rw [he]; exact Nat.zero_le _⟩
theorem FitB.sw {l Y : List UInt8} {x : Ef} {f t : Nat} (he : x.es = sw l f t Y) (hft : f ≤ t) (ht : t ≤ l.length) (hY : Y.length ≤ 1073741824) (h1 : 0 ≤ x.cur) (h2 : x.cur ≤ ((f + Y.length + (l.length - t) : Nat) : Int)) : FitB l (x, 0) := by
  refine ⟨.inr ⟨rfl, l.take f ++ Y ++ l.drop t, by dsimp only; rw [he]; exact app_sw hft ht Y, h1, ?_⟩, ?_, ?_⟩
  · dsimp only
    rw [List.length_append, List.length_append, List.length_take, List.length_drop, show min f l.length = f by omega]
    exact h2
  · dsimp only; rw [he]; have := nsum_sw l f t Y; omega
  · dsimp only; rw [he]; have := sw_len l f t Y; omega
theorem fbh_sw {l Y : List UInt8} {f t i : Nat} (hft : f ≤ t) (ht : t ≤ l.length) : 0 ≤ fbh l (sw l f t Y) i ∧ fbh l (sw l f t Y) i ≤ ((f + Y.length + (l.length - t) : Nat) : Int) := by
  have h := fbh_le l (sw l f t Y) i
  rw [(apU_sw hft ht Y).1] at h
  rw [List.length_append, List.length_append, List.length_take, List.length_drop, show min f l.length = f by omega] at h
  exact h
end Go.Proofs.YtppefcnopkmhbaaGreatDoor

namespace Go.Proofs.YtppefcnopkmhbaaGreatDoor
open Go.RowKit

set_option maxRecDepth 8000
theorem plP_le (l : List UInt8) (i : Nat) : plP l i ≤ l.length := by
  unfold plP
  split
  · rename_i h; exact sp_le h
  · exact Nat.le_refl _
theorem put_fit {l : List UInt8} (at' q : Int) (set lin : Bool) (X : List UInt8) (ah : Bool) : FitB l (ptX l at' q set lin X ah) := by
  unfold ptX
  split
  · exact FitB.no (by decide)
  rename_i h
  split
  · exact FitB.no (by decide)
  obtain ⟨k, hk⟩ : ∃ k : Nat, at' = (k : Int) := ⟨at'.toNat, by by_cases h2 : (0 ≤ at' ∧ at' ≤ (l.length : Int)); omega; exact absurd (fun h3 => h2 h3.1) h⟩
  have hkl : k ≤ l.length := by by_cases h2 : (0 ≤ at' ∧ at' ≤ (l.length : Int)); omega; exact absurd (fun h3 => h2 h3.1) h
  rw [hk, show ((k : Int)).toNat = k from rfl]
  unfold ptM
  split
  · exact FitB.no (by decide)
  rename_i hlen
  have hY : (rp (ptT lin X) q.toNat).length ≤ 65536 := by
    rw [rp_len]
    have h1 : (ptT lin X).length ≤ 65536 / q.toNat := Nat.le_of_not_lt hlen
    exact Nat.le_trans (Nat.mul_le_mul_right _ h1) (Nat.div_mul_le_self _ _)
  generalize rp (ptT lin X) q.toNat = Y at *
  split
  · unfold plX
    have hp := plP_le l (plI l k ah)
    have hy : (plY l (plI l k ah) Y).length ≤ 65537 := by
      unfold plY
      split
      · omega
      · simp; omega
    exact FitB.sw rfl (Nat.le_refl _) hp (by omega) (fbh_sw (Nat.le_refl _) hp).1 (fbh_sw (Nat.le_refl _) hp).2
  · unfold pbX
    split
    · exact FitB.none rfl (by show (0 : Int) ≤ (k : Int); omega) (by show (k : Int) ≤ _; omega)
    · rename_i h0
      have hp : (if ah = true then k else bsd l k) ≤ l.length := by
        split
        · exact hkl
        · exact bsd_le hkl
      generalize (if ah = true then k else bsd l k) = p at *
      dsimp only
      refine FitB.sw rfl (Nat.le_refl _) hp (by omega) ?_ ?_
      · dsimp only; split <;> omega
      · dsimp only; split <;> omega
theorem ov_fit {l : List UInt8} (at' q : Int) (b : UInt8) : FitB l (ovX l at' q b) := by
  unfold ovX
  split
  · exact FitB.no (by decide)
  rename_i h
  have h3 : (0 ≤ at' ∧ at' ≤ (l.length : Int)) ∧ cntB q = true := Classical.not_not.1 h
  have hq2 : 1 ≤ q ∧ q ≤ 9999 := by have := h3.2; unfold cntB at this; simp at this; exact this
  obtain ⟨k, hk⟩ : ∃ k : Nat, at' = (k : Int) := ⟨at'.toNat, by omega⟩
  obtain ⟨m, hm⟩ : ∃ m : Nat, q = (m : Int) := ⟨q.toNat, by omega⟩
  subst hk hm
  rw [show ((k : Int)).toNat = k from rfl, show ((m : Int)).toNat = m from rfl]
  have hol := ow_le (l := l) (i := k) (by omega)
  unfold ovM
  split
  · exact FitB.no (by decide)
  split
  · exact FitB.sw rfl (by omega) (by omega) (by simp) (by show (0 : Int) ≤ (k : Int) + 1; omega) (by show (k : Int) + 1 ≤ _; simp; omega)
  · have e : (rp [b] m).length = m := by rw [rp_len]; simp
    exact FitB.sw rfl (by omega) (by omega) (by omega) (by show (0 : Int) ≤ (k : Int) + (m : Int) - 1; omega) (by show (k : Int) + (m : Int) - 1 ≤ _; omega)
theorem tu_fit {l : List UInt8} (hl : l.length ≤ 65536) (at' q : Int) : FitB l (tuX l at' q) := by
  unfold tuX
  split
  · exact FitB.no (by decide)
  rename_i h
  have h3 : (0 ≤ at' ∧ at' ≤ (l.length : Int)) ∧ cntB q = true := Classical.not_not.1 h
  obtain ⟨k, hk⟩ : ∃ k : Nat, at' = (k : Int) := ⟨at'.toNat, by omega⟩
  subst hk
  rw [show ((k : Int)).toNat = k from rfl]
  have hol := ow_le (l := l) (i := k) (by omega)
  unfold tuM
  split
  · exact FitB.no (by decide)
  obtain ⟨t, ht⟩ : ∃ t, k + min q.toNat (ow l k) = t := ⟨_, rfl⟩
  rw [ht]
  have e : ((sl l k t).map (tw tgB)).length = t - k := by rw [List.length_map, sl_len (by omega)]
  exact FitB.sw rfl (by omega) (by omega) (by omega) (by show (0 : Int) ≤ (t : Int); omega) (by show (t : Int) ≤ _; omega)
theorem en_fit {l : List UInt8} (at' : Int) (s : ByteArray) : FitB l (enX l at' s) := by
  unfold enX
  split
  · exact FitB.no (by decide)
  rename_i h
  have h3 := Classical.not_not.1 h
  obtain ⟨k, hk⟩ : ∃ k : Nat, at' = (k : Int) := ⟨at'.toNat, by omega⟩
  subst hk
  rw [show ((k : Int)).toNat = k from rfl]
  have h1 := nl_take_le l k
  have h2 := sp_le (t := l) h1
  have h4 := en_le h2
  have h5 := bsd_le (l := l) (k := k) (by omega)
  have h6 := aFirst_le l (nl (l.take k) : Int)
  unfold enM
  dsimp only
  split
  · exact FitB.none rfl (by show (0 : Int) ≤ (k : Int); omega) (by show (k : Int) ≤ _; omega)
  split
  · exact FitB.none rfl (by show (0 : Int) ≤ (bsd l k : Int); omega) (by show (bsd l k : Int) ≤ _; omega)
  split
  · exact FitB.none rfl h6.1 h6.2
  split
  · exact FitB.none rfl (by show (0 : Int) ≤ (en l (sp l (nl (l.take k))) : Int); omega) (by show (en l (sp l (nl (l.take k))) : Int) ≤ _; omega)
  split
  · exact FitB.sw rfl (Nat.le_refl _) h4 (by simp) (by show (0 : Int) ≤ (en l (sp l (nl (l.take k))) : Int) + 1; omega) (by show (en l (sp l (nl (l.take k))) : Int) + 1 ≤ _; simp; omega)
  split
  · exact FitB.sw rfl (Nat.le_refl _) h2 (by simp) (by show (0 : Int) ≤ (sp l (nl (l.take k)) : Int); omega) (by show (sp l (nl (l.take k)) : Int) ≤ _; simp; omega)
  · exact FitB.no (by decide)
theorem jnD_len (l : List UInt8) (s : Nat) : ∀ (m e : Nat) (J : List UInt8), (jnD l s m e J).length = m ∧ nsum (jnD l s m e J) ≤ m
  | 0, _, _ => ⟨rfl, Nat.le_refl _⟩
  | m + 1, e, J => by
    obtain ⟨h1, h2⟩ := jnD_len l s m (en l (e + 1)) (J ++ glu J (jnR l e) ++ jnR l e)
    have h3 := glu_le J (jnR l e)
    rw [jnD_succ]
    refine ⟨by rw [List.length_cons, h1], ?_⟩
    unfold nsum at h2 ⊢
    rw [List.map_cons, List.sum_cons]
    dsimp only
    omega
theorem jn_app {l : List UInt8} {s : Nat} (hs : s ≤ l.length) (i0 : Nat) : ∀ (m i : Nat) (J : List UInt8), i0 + i + m ≤ nl l → s ≤ en l (sp l (i0 + i)) →
    ∃ J', app (l.take s ++ J ++ l.drop (en l (sp l (i0 + i)))) (jnD l s m (en l (sp l (i0 + i))) J) = some (l.take s ++ J' ++ l.drop (en l (sp l (i0 + i + m)))) ∧ J.length ≤ J'.length ∧ ∀ d ∈ jnD l s m (en l (sp l (i0 + i))) J, 0 ≤ d.a ∧ d.a ≤ ((s + J'.length : Nat) : Int)
  | 0, i, J, _, _ => ⟨J, rfl, Nat.le_refl _, fun d hd => by cases hd⟩
  | m + 1, i, J, hi, hse => by
    obtain ⟨hx1, hx2⟩ := sp_next (l := l) (i := i0 + i) (by omega)
    obtain ⟨e, he⟩ : ∃ e, en l (sp l (i0 + i)) = e := ⟨_, rfl⟩
    rw [he] at hx1 hx2 hse ⊢
    have hen : en l (e + 1) = en l (sp l (i0 + (i + 1))) := by rw [← hx2]; rfl
    have hel := en_le (t := l) (s := e + 1) (by omega)
    have heg := en_ge l (e + 1)
    obtain ⟨J', h1, h2, h3⟩ := jn_app hs i0 m (i + 1) (J ++ glu J (jnR l e) ++ jnR l e) (by omega) (by rw [← hen]; omega)
    have hTl : (jnT l e).length = en l (e + 1) - (e + 1) := sl_len hel
    have hd := lb2_le (jnT l e)
    rw [jnD_succ]
    have hts : (l.take s).length = s := by rw [List.length_take]; omega
    obtain ⟨d, hdd⟩ : ∃ d, lb2 (jnT l e) = d := ⟨_, rfl⟩
    rw [hdd] at hd ⊢
    have hO : (sl l e (e + 1 + d)).length = 1 + d := by rw [sl_len (by omega)]; omega
    obtain ⟨f1, f2⟩ := fit_at (P := l.take s ++ J) (R := l.drop e) (O := sl l e (e + 1 + d)) (N := glu J (jnR l e)) (z := ((s + J.length : Nat) : Int)) (by rw [List.length_append, hts]) (by rw [hO]; unfold sl; rw [show e + 1 + d - e = 1 + d by omega])
    have hR : l.drop (e + 1 + d) = jnR l e ++ l.drop (en l (e + 1)) := by
      unfold jnR
      rw [hdd]
      unfold jnT
      conv => lhs; rw [← List.take_append_drop (en l (e + 1) - (e + 1 + d)) (l.drop (e + 1 + d))]
      rw [List.drop_drop, show e + 1 + d + (en l (e + 1) - (e + 1 + d)) = en l (e + 1) by omega]
      congr 1
      unfold sl
      rw [List.drop_take, List.drop_drop]
      congr 1
      omega
    rw [hO, List.drop_drop, show e + (1 + d) = e + 1 + d by omega, hR] at f2
    refine ⟨J', ?_, ?_, ?_⟩
    · show (if fitB _ _ then app (stp _ _) _ else none) = _
      rw [f1, if_pos rfl, f2, hen, show i0 + i + (m + 1) = i0 + (i + 1) + m by omega, ← h1]
      congr 1
      simp
    · rw [List.length_append, List.length_append] at h2; omega
    · intro x hx
      rcases List.mem_cons.1 hx with hx | hx
      · rw [hx]
        dsimp only
        rw [List.length_append, List.length_append] at h2
        omega
      · rw [hen] at hx; exact h3 x hx
theorem cut_join' {l : List UInt8} {f t : Nat} (hft : f ≤ t) : l.take f ++ sl l f t ++ l.drop t = l := by
  unfold sl
  conv => rhs; rw [← List.take_append_drop f l, ← List.take_append_drop (t - f) (l.drop f)]
  rw [List.drop_drop, show f + (t - f) = t by omega, List.append_assoc]
theorem jo_fit {l : List UInt8} (at' q : Int) : FitB l (joX l at' q) := by
  unfold joX
  split
  · exact FitB.no (by decide)
  rename_i h
  obtain ⟨k, hk⟩ : ∃ k : Nat, at' = (k : Int) := ⟨at'.toNat, by omega⟩
  subst hk
  rw [show ((k : Int)).toNat = k from rfl]
  unfold joM
  split
  · exact FitB.no (by decide)
  rename_i hge
  dsimp only
  obtain ⟨m, hm⟩ : ∃ m : Nat, (max q 2).toNat - 1 = m := ⟨_, rfl⟩
  rw [hm]
  have hmb : m ≤ 9998 := by omega
  obtain ⟨i0, hi0⟩ : ∃ i, nl (l.take k) = i := ⟨_, rfl⟩
  have hi := nl_take_le l k
  rw [hi0] at hge hi ⊢
  have hs := sp_le (t := l) hi
  have heg := en_ge l (sp l i0)
  obtain ⟨J', h1, h2, h3⟩ := jn_app (l := l) (s := sp l i0) hs i0 m 0 (sl l (sp l i0) (en l (sp l i0))) (by omega) heg
  rw [Nat.add_zero] at h1 h3
  rw [cut_join' heg] at h1
  obtain ⟨e1, e2⟩ := jnD_len l (sp l i0) m (en l (sp l i0)) (sl l (sp l i0) (en l (sp l i0)))
  have hla : 0 ≤ lastA (jnD l (sp l i0) m (en l (sp l i0)) (sl l (sp l i0) (en l (sp l i0)))) ∧ lastA (jnD l (sp l i0) m (en l (sp l i0)) (sl l (sp l i0) (en l (sp l i0)))) ≤ ((sp l i0 + J'.length : Nat) : Int) := by
    unfold lastA
    cases hg : (jnD l (sp l i0) m (en l (sp l i0)) (sl l (sp l i0) (en l (sp l i0)))).getLast? with
    | none => exact ⟨Int.le_refl _, by simp only [Option.map_none, Option.getD_none]; omega⟩
    | some d => exact h3 d (List.mem_of_getLast? hg)
  refine ⟨.inr ⟨rfl, _, h1, hla.1, ?_⟩, ?_, ?_⟩
  · dsimp only
    rw [List.length_append, List.length_append, List.length_take, show min (sp l i0) l.length = sp l i0 by omega]
    have := hla.2
    omega
  · dsimp only; omega
  · dsimp only; omega
end Go.Proofs.YtppefcnopkmhbaaGreatDoor

namespace Go.Proofs.YtppefcnopkmhbaaGreatDoor
open Go.RowKit

set_option maxRecDepth 8000
/-- one edit, its texts in memory of their own -/
def EdN (f : Int) (O X : List UInt8) (w : World) (e : Ending) (w' : World) : Prop :=
  ∃ p1 c1 p2 c2 g, e = .returned (.slice (some ⟨g, 0, none⟩) 1 1) ∧ Blk w' g 65 #[.int .i64 f, .slice p1 O.length c1, .slice p2 X.length c2] ∧ w.heap.size ≤ g ∧
    Wb w' w.heap.size w'.heap.size (.slice p1 O.length c1) O ∧ Wb w' w.heap.size w'.heap.size (.slice p2 X.length c2) X ∧ Far (.slice p1 O.length c1) (.slice p2 X.length c2) ∧ Below w.heap.size w w'
set_option maxHeartbeats 8000000 in
set_option linter.unusedSimpArgs false in
theorem redit_new (ao : Option Addr) (n c f t : Nat) (l : List UInt8) (xp : Option Addr) (xn xc : Nat) (X : List UInt8) (w : World) (HT : Hid (Tx w ao n c l)) (hft : f ≤ t) (ht : t ≤ n) (hn : n ≤ 140737488355328) (HX : Hid (Tx w xp xn xc X)) (hxn : xn ≤ 140737488355328) (hne2 : sl l f t ≠ X) :
    Calls Tryz.prog 29 #[.slice ao n c, .int .i64 (f : Int), .int .i64 (t : Int), .slice xp xn xc] w fun e w' => EdN (f : Int) (sl l f t) X w e w' := by
  obtain ⟨a3, c3, hs3, hT3⟩ := sl_both HT.out hft ht
  have HT3 : Hid (∀ W, Below w.heap.size w W → Tx W a3 (t - f) c3 (sl l f t)) := fun W hW => hT3 W (HT.out.keep hW)
  have HXK : Hid (∀ W, Below w.heap.size w W → Tx W xp xn xc X) := fun W hW => HX.out.keep hW
  have CC : Hid (∀ (W : World) (a' : Option Addr) (n' c' : Nat) (p : List UInt8), n' ≤ 140737488355328 → Tx W a' n' c' p → Calls Tryz.prog 41 #[.slice a' n' c'] W fun e w' => NewP n' p W e w') := fun W a' n' c' p h1 h2 => rcop_any a' n' c' p W h1 h2
  have hcap := HT.out.cap
  have hp0 : (0 : Int) ≤ (f : Int) := by omega
  have hp1 : (f : Int) ≤ (t : Int) := by omega
  have hp2 : (t : Int) ≤ (n : Int) := by omega
  have hp3 : (t : Int) ≤ (c : Int) := by omega
  obtain ⟨O, hO⟩ : ∃ O, sl l f t = O := ⟨_, rfl⟩
  rw [hO] at HT3 hne2 ⊢
  obtain ⟨k, hk⟩ : ∃ k, t - f = k := ⟨_, rfl⟩
  rw [hk] at HT3 hs3
  have hkn : k ≤ n := by omega
  clear hO hT3 HX hft ht hk
  have he := hne2
  have hOl : O.length = k := (HT3.out w (Below.refl _ _)).len
  have hXl : X.length = xn := (HXK.out w (Below.refl _ _)).len
  have HOL := Hid.mk' hOl
  have HXL := Hid.mk' hXl
  clear hne2 hOl hXl
  have e1' := fun q => conv_drew (HT3.out w (Below.refl _ _)) q
  have e2' := fun q => conv_drew (HXK.out w (Below.refl _ _)) q
  have ee : ∀ W, (binOp .eql 9 (.string ⟨O.toArray⟩) (.string ⟨X.toArray⟩)).run Tryz.prog W = .ok (.bool false) W := fun W => by simp [binOp, Op.stringOp, he]
  have hne : (O == X) = false := by simpa using he
  go_enter Tryz.func29, Tryz.ntmps29
  go_upto_region 1 with fail
  go_quiet (fail)
  have HB2 := below_drewN w nq
  generalize w.drewN nq = w2 at *
  have B2 := Hid.mk' HB2
  have C1 := Hid.mk' (CC.out w2 a3 k c3 O (by omega) (HT3.out w2 HB2))
  clear HB2 e1' e2' ee he hne
  go_upto_region 3 with fail
  go_wp2_with fail
  refine C1.out.mono ?_
  rintro e w3 ⟨v3, rfl, ho3, hb3⟩
  obtain ⟨p3, d3, rfl⟩ := own_shape ho3
  have B3 := Hid.mk' (bT B2.out hb3)
  have O3 := Hid.mk' ((Wb.new ho3).wide B2.out.size (Nat.le_refl _))
  have hT4 := own_tx' ho3 (by omega)
  have C2 := Hid.mk' (CC.out w3 xp xn xc X hxn (HXK.out w3 B3.out))
  have T4 := Hid.mk' hT4
  clear ho3 hb3 C1 hT4
  go_wp2_with fail
  refine C2.out.mono ?_
  rintro e w4 ⟨v4, rfl, ho4, hb4⟩
  obtain ⟨p4, d4, rfl⟩ := own_shape ho4
  have B4 := Hid.mk' (bT B3.out hb4)
  have N4 := Hid.mk' ((Wb.new ho4).wide B3.out.size (Nat.le_refl _))
  have F4 := Hid.mk' ((Wb.new ho4).far O3.out (.inr (Nat.le_refl _)))
  have O4 := Hid.mk' (O3.out.keep hb4)
  have hb4' := Hid.mk' hb4.size
  have T5 := Hid.mk' (T4.out.keep hb4)
  have T6 := Hid.mk' (own_tx' ho4 hxn)
  clear ho4 hb4 C2 T4
  go_wp2
  go_ret
  have hbx : Below w4.heap.size w4 (w4.alloc (.cells #[.int .i64 (f : Int), .slice p3 k d3, .slice p4 xn d4] 65)) := bAlloc (Below.refl _ _) _
  refine ⟨p3, d3, p4, d4, w4.heap.size, rfl, ?_, B4.out.size, ?_, ?_, ?_, bT B4.out hbx⟩
  · rw [HOL.out, HXL.out]; exact Blk.new w4 65 _
  · rw [HOL.out]; exact (O4.out.keep hbx).wide (Nat.le_refl _) (Nat.le_trans (by have := hb4'.out; exact this) hbx.size)
  · rw [HXL.out]; exact (N4.out.keep hbx).wide (Nat.le_refl _) hbx.size
  · rw [HOL.out, HXL.out]; exact F4.out.symm
theorem fi_app {J : List UInt8} (h : nolf J) (x : UInt8) (hx : le x = true) (R : List UInt8) : (J ++ x :: R).findIdx le = J.length := by
  induction J with
  | nil => simp [List.findIdx_cons, hx]
  | cons y J ih =>
    have hy : le y = false := h y (List.mem_cons_self ..)
    have := ih (fun z hz => h z (List.mem_cons_of_mem _ hz))
    rw [List.cons_append, List.findIdx_cons, hy, this]
    simp
/-- the text as the lines of Join are drawn together -/
def jT (l : List UInt8) (s : Nat) (J : List UInt8) (e : Nat) : List UInt8 := l.take s ++ J ++ l.drop e
theorem jT_len {l : List UInt8} {s e : Nat} {J : List UInt8} (hs : s ≤ l.length) (_he : e ≤ l.length) : (jT l s J e).length = s + J.length + (l.length - e) := by
  unfold jT
  rw [List.length_append, List.length_append, List.length_take, List.length_drop]
  omega
theorem jT_drop {l : List UInt8} {s e : Nat} {J : List UInt8} (hs : s ≤ l.length) (k : Nat) : (jT l s J e).drop (s + J.length + k) = l.drop (e + k) := by
  unfold jT
  rw [← List.drop_drop, show s + J.length = (l.take s ++ J).length by rw [List.length_append, List.length_take]; omega, List.drop_left, List.drop_drop]
theorem jT_st {l : List UInt8} {s e i0 : Nat} {J : List UInt8} (h : St l i0 s) : St (jT l s J e) i0 s := by
  have hlow := h.low'
  have hl : (l.take s).length = s := by rw [List.length_take]; omega
  have ht : (jT l s J e).take s = l.take s := by
    unfold jT
    rw [List.append_assoc, List.take_append_of_le_length (by omega), List.take_take, Nat.min_self]
  refine ⟨?_, by rw [ht]; exact h.num, ?_⟩
  · unfold jT
    rw [List.length_append, List.length_append, hl]
    omega
  · rcases h.edge with e | ⟨h0, e⟩
    · exact .inl e
    · refine .inr ⟨h0, ?_⟩
      rw [← e]
      congr 1
      unfold jT at8
      rw [List.append_assoc, List.getD_eq_getElem?_getD, List.getD_eq_getElem?_getD, List.getElem?_append_left (by omega), List.getElem?_take_of_lt (by omega)]
theorem jT_en {l : List UInt8} {s e : Nat} {J : List UInt8} (hs : s ≤ l.length) (hJ : nolf J) (he : e < l.length) (hl : le (at8 l e) = true) : en (jT l s J e) s = s + J.length := by
  unfold en
  congr 1
  unfold jT
  rw [List.append_assoc, List.drop_append_of_le_length (by rw [List.length_take]; omega), List.drop_take, Nat.sub_self, List.take_zero, List.nil_append, at8_lf he hl]
  exact fi_app hJ 10 (by decide) _
/-- the lines of that text: the first starts and ends so, the next one so -/
theorem jT_lines {l : List UInt8} {s e i0 : Nat} {J : List UInt8} (h : St l i0 s) (hJ : nolf J) (he : e < l.length) (hl : le (at8 l e) = true) :
    i0 + 1 ≤ nl (jT l s J e) ∧ sp (jT l s J e) i0 = s ∧ en (jT l s J e) (sp (jT l s J e) i0) = s + J.length ∧ en (jT l s J e) (sp (jT l s J e) (i0 + 1)) = s + J.length + 1 + ow l (e + 1) := by
  have h1 := jT_st (J := J) (e := e) h
  have h2 := sp_eq h1
  have h3 := jT_en h.low' hJ he hl
  have h4 : i0 + 1 ≤ nl (jT l s J e) := by
    unfold jT
    rw [nl_append, nl_append, h.num, at8_lf he hl]
    have : nl ((10 : UInt8) :: l.drop (e + 1)) = nl (l.drop (e + 1)) + 1 := by unfold nl; rw [List.countP_cons]; rfl
    omega
  refine ⟨h4, h2, by rw [h2]; exact h3, ?_⟩
  rw [(sp_next h4).2, h2, h3]
  unfold en ow
  rw [jT_drop h.low']
theorem nolf_sl {l : List UInt8} {s e : Nat} (h : e ≤ en l s) : nolf (sl l s e) := by
  intro x hx
  obtain ⟨k, hk, rfl⟩ := List.getElem_of_mem hx
  have hk2 : k < e - s := by unfold sl at hk; rw [List.length_take] at hk; omega
  have hk3 : s + k < l.length := by unfold sl at hk; rw [List.length_take, List.length_drop] at hk; omega
  have := en_none (t := l) (s := s) (j := s + k) (by omega) (by omega)
  rw [at8_eq hk3] at this
  have e2 : (sl l s e)[k] = l[s + k] := by simp [sl]
  rw [e2]
  exact this
theorem nolf_glu (J R : List UInt8) : nolf (glu J R) := by
  unfold glu
  split
  · intro x hx; cases hx
  · intro x hx; simp at hx; subst hx; decide
theorem nolf_step {l : List UInt8} {e : Nat} {J : List UInt8} (hJ : nolf J) : nolf (J ++ glu J (jnR l e) ++ jnR l e) := by
  intro x hx
  rcases List.mem_append.1 hx with hx | hx
  · rcases List.mem_append.1 hx with hx | hx
    · exact hJ x hx
    · exact nolf_glu _ _ x hx
  · unfold jnR jnT at hx
    exact nolf_sl (Nat.le_refl _) x (List.mem_of_mem_drop hx)
/-- one edit of Join, and the text behind it -/
theorem jT_app {l : List UInt8} {s e y : Nat} {J : List UInt8} (hs : s ≤ l.length) (hy : ow l (e + 1) = y) (hel : e + 1 + y ≤ l.length) {d : Nat} (hd : lb2 (jnT l e) = d) (G : List UInt8) :
    sl (jT l s J e) (s + J.length) (s + J.length + 1 + d) = sl l e (e + 1 + d) ∧ app (jT l s J e) [⟨((s + J.length : Nat) : Int), sl l e (e + 1 + d), G⟩] = some (jT l s (J ++ G ++ jnR l e) (e + 1 + y)) := by
  have hen : en l (e + 1) = e + 1 + y := by rw [← hy]; rfl
  have hTl : (jnT l e).length = y := by unfold jnT; rw [sl_len (by rw [hen]; exact hel), hen]; omega
  have hdl := lb2_le (jnT l e)
  rw [hd, hTl] at hdl
  have hts : (l.take s).length = s := by rw [List.length_take]; omega
  have hsl : sl (jT l s J e) (s + J.length) (s + J.length + 1 + d) = sl l e (e + 1 + d) := by
    unfold sl
    rw [show s + J.length = s + J.length + 0 by omega, jT_drop hs, Nat.add_zero]
    congr 1
    omega
  refine ⟨hsl, ?_⟩
  have hO : (sl l e (e + 1 + d)).length = 1 + d := by rw [sl_len (by omega)]; omega
  obtain ⟨f1, f2⟩ := fit_at (P := l.take s ++ J) (R := l.drop e) (O := sl l e (e + 1 + d)) (N := G) (z := ((s + J.length : Nat) : Int)) (by rw [List.length_append, hts]) (by rw [hO]; unfold sl; rw [show e + 1 + d - e = 1 + d by omega])
  have hR : l.drop (e + 1 + d) = jnR l e ++ l.drop (e + 1 + y) := by
    unfold jnR
    rw [hd]
    unfold jnT
    rw [hen]
    conv => lhs; rw [← List.take_append_drop (e + 1 + y - (e + 1 + d)) (l.drop (e + 1 + d))]
    rw [List.drop_drop, show e + 1 + d + (e + 1 + y - (e + 1 + d)) = e + 1 + y by omega]
    congr 1
    unfold sl
    rw [List.drop_take, List.drop_drop]
    congr 1
    omega
  rw [hO, List.drop_drop, show e + (1 + d) = e + 1 + d by omega, hR] at f2
  show (if fitB _ _ then app (stp _ _) [] else none) = _
  unfold jT
  rw [f1, if_pos rfl, f2]
  show some _ = _
  congr 1
  simp
theorem sl_ne {l : List UInt8} {e d : Nat} {J R : List UInt8} (he : e < l.length) (hl : le (at8 l e) = true) : sl l e (e + 1 + d) ≠ glu J R := by
  intro h
  have hm : (10 : UInt8) ∈ sl l e (e + 1 + d) := by
    unfold sl
    rw [at8_lf he hl, show e + 1 + d - e = d + 1 by omega, List.take_succ_cons]
    exact List.mem_cons_self ..
  rw [h] at hm
  have := nolf_glu J R 10 hm
  exact absurd this (by decide)
/-- a byte behind the line's end, and a byte of the line -/
theorem jT_at {l : List UInt8} {s e : Nat} {J : List UInt8} (hs : s ≤ l.length) (k : Nat) : at8 (jT l s J e) (s + J.length + k) = at8 l (e + k) := by
  have h := jT_drop (J := J) (e := e) hs k
  have h1 := at8_drop (jT l s J e) (s + J.length + k) 0
  have h2 := at8_drop l (e + k) 0
  rw [Nat.add_zero] at h1 h2
  rw [← h1, ← h2, h]
theorem jT_last {l : List UInt8} {s e : Nat} {J : List UInt8} (hs : s ≤ l.length) (h : 0 < J.length) : at8 (jT l s J e) (s + J.length - 1) = at8 J (J.length - 1) := by
  unfold jT at8
  have hl : (l.take s).length = s := by rw [List.length_take]; omega
  rw [List.getD_eq_getElem?_getD, List.getD_eq_getElem?_getD, List.getElem?_append_left (by rw [List.length_append, hl]; omega), List.getElem?_append_right (by rw [hl]; omega), hl]
  congr 2
  omega
theorem jnT_at {l : List UInt8} {e j : Nat} (h : j < (jnT l e).length) : at8 (jnT l e) j = at8 l (e + 1 + j) := by
  unfold jnT at h ⊢
  unfold sl at h ⊢
  rw [List.length_take] at h
  unfold at8
  rw [List.getD_eq_getElem?_getD, List.getD_eq_getElem?_getD, List.getElem?_take_of_lt (by omega), List.getElem?_drop]
theorem glu_a {J R : List UInt8} (h : J.length = 0) : glu J R = [] := by unfold glu glB; rw [decide_eq_true h, Bool.true_or, Bool.true_or, Bool.true_or, if_pos rfl]
theorem glu_b {J R : List UInt8} (h : bl (at8 J (J.length - 1)) = true) : glu J R = [] := by unfold glu glB; rw [h, Bool.or_true, Bool.true_or, Bool.true_or, if_pos rfl]
theorem glu_c {J R : List UInt8} (h : R.length = 0) : glu J R = [] := by unfold glu glB; rw [decide_eq_true h, Bool.or_true, Bool.true_or, if_pos rfl]
theorem glu_d {J R : List UInt8} (h : at8 R 0 = 41) : glu J R = [] := by unfold glu glB; rw [decide_eq_true h, Bool.or_true, if_pos rfl]
theorem glu_e {J R : List UInt8} (h1 : J.length ≠ 0) (h2 : bl (at8 J (J.length - 1)) = false) (h3 : R.length ≠ 0) (h4 : at8 R 0 ≠ 41) : glu J R = [32] := by unfold glu glB; rw [decide_eq_false h1, h2, decide_eq_false h3, decide_eq_false h4]; rfl
def GlS (G : List UInt8) (w0 wx : World) (v : Value) : Prop := Below w0.heap.size w0 wx ∧ ∃ fo fc, v = .slice fo G.length fc ∧ Tx wx fo G.length fc G
end Go.Proofs.YtppefcnopkmhbaaGreatDoor
