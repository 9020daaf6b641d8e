/- Law, Awk9, Csp, Fts, Fpr -/
import Derived.Test.YtppefcnopkmhbaaGreatDoorPt38
import Derived.Test.YtppefcnopkmhbaaGreatDoorPt23
import Derived.Lib.SmallJoins
import Derived.Test.YtppefcnopkmhbaaGreatDoorPt29
import Derived.Test.YtppefcnopkmhbaaGreatDoorPt37
namespace Go.Proofs.YtppefcnopkmhbaaGreatDoor
open Go.RowKit

set_option maxRecDepth 8000
theorem lit_tx {W : World} {B n : Nat} {l : List UInt8} {cs : Array Value} (h : Blk W B 5 cs) (hc : cs.toList = bv l) (hn : l.length = n) (hb : n ≤ 1000000) : Tx W (some ⟨B, 0, none⟩) n n l := by
  refine ⟨hn, Nat.le_refl _, by omega, (fun e => by cases e), fun a ha j hj => ?_⟩
  injection ha with ha
  subst ha
  rw [show (⟨B, 0, none⟩ : Addr).add j = ⟨B, j, none⟩ by rw [add_none, Nat.zero_add]]
  refine h.cell ?_
  rw [← Array.getElem?_toList, hc]
  exact bv_at l j (by omega)
theorem lit_tx2 {W : World} {n : Nat} {l : List UInt8} {cs : Array Value} {m : Nat × Nat} (hc : cs.toList = bv l) (hn : l.length = n) (hb : n ≤ 1000000) : Tx (W.alloc (.cells cs 5 m)) (some ⟨W.heap.size, 0, none⟩) n n l := by
  refine ⟨hn, Nat.le_refl _, by omega, (fun e => by cases e), fun a ha j hj => ?_⟩
  injection ha with ha
  subst ha
  rw [show (⟨W.heap.size, 0, none⟩ : Addr).add j = ⟨W.heap.size, j, none⟩ by rw [add_none, Nat.zero_add]]
  have h0 : (W.alloc (.cells cs 5 m)).heap[W.heap.size]? = some (.cells cs 5 m) := heap_alloc_new W _
  have h1 : cs[j]? = some (.int .u8 ((at8 l j).toNat : Int)) := by rw [← Array.getElem?_toList, hc]; exact bv_at l j (by omega)
  rw [cell_of_row _ W.heap.size j cs 5 m h0]
  exact h1
/-- the one edit of a list -/
theorem Eds.single {W : World} {lo hi : Nat} {v : Value} {F : List Er} {d : Ed} (h : Eds W lo hi v F) (hF : F.map Er.d = [d]) :
    ∃ g cap p1 c1 p2 c2, v = .slice (some ⟨g, 0, none⟩) 1 cap ∧ W.cell? ⟨g, 0, none⟩ = some (.int .i64 d.a) ∧ W.cell? ⟨g, 1, none⟩ = some (.slice p1 d.O.length c1) ∧ W.cell? ⟨g, 2, none⟩ = some (.slice p2 d.N.length c2) ∧ Tx W p1 d.O.length c1 d.O ∧ Tx W p2 d.N.length c2 d.N := by
  match F, hF, h with
  | [], hF, _ => simp at hF
  | [r], hF, h =>
    simp at hF
    subst hF
    obtain ⟨ao, c, hv, hZ, _⟩ := h.edz
    obtain ⟨g, cap, e, _, _⟩ := own_some h.row (by simp)
    rw [hv] at e
    injection e with e1 e2 e3
    obtain ⟨g', o', e', k1, k2, k3⟩ := hZ.row 0 r rfl
    rw [e1] at e'
    injection e' with e'
    injection e' with e4 e5
    subst e4 e5
    have t := hZ.txs 0 r rfl
    have hO : r.O.length = r.o := t.t1.len
    have hN : r.N.length = r.n := t.t2.len
    have k1' : W.cell? ⟨g, 0, none⟩ = some (.int .i64 r.a) := by simpa using k1
    have k2' : W.cell? ⟨g, 1, none⟩ = some (.slice r.p1 r.o r.c1) := by simpa using k2
    have k3' : W.cell? ⟨g, 2, none⟩ = some (.slice r.p2 r.n r.c2) := by simpa using k3
    refine ⟨g, c, r.p1, r.c1, r.p2, r.c2, by rw [hv, e1]; rfl, k1', ?_, ?_, ?_, ?_⟩
    · show _ = some (Value.slice r.p1 r.O.length r.c1); rw [hO]; exact k2'
    · show _ = some (Value.slice r.p2 r.N.length r.c2); rw [hN]; exact k3'
    · show Tx W r.p1 r.O.length r.c1 r.O; rw [hO]; exact t.t1
    · show Tx W r.p2 r.N.length r.c2 r.N; rw [hN]; exact t.t2
  | _ :: _ :: _, hF, _ => simp at hF
end Go.Proofs.YtppefcnopkmhbaaGreatDoor

namespace Go.Proofs.YtppefcnopkmhbaaGreatDoor
open Go.RowKit

set_option maxRecDepth 8000
theorem aw_do : doX [104, 101, 108, 108, 111] 0 ⟨#[100]⟩ 0 2 false false 1 = (⟨[⟨0, [104, 101], []⟩], 0, true, false, [104, 101], 3, false⟩, 0) := by kernel_rfl
theorem aw_put : ptX [108, 108, 111] 0 1 true false [104, 101] true = (⟨[⟨0, [], [104, 101]⟩], 1, false, false, [], 0, false⟩, 0) := by kernel_rfl
theorem conv_lit (W : World) (C : Array Value) (n g : Nat) (hg : g = W.heap.size) : (convert 22 22 (.slice (some ⟨g, 0, none⟩) n n)).run Tryz.prog (W.alloc (.cells C 5)) = .ok (.slice (some ⟨g, 0, none⟩) n n) (W.alloc (.cells C 5 (C.size, C.size + 1))) :=
  Joins.run_convert_bytes_const_at W 22 5 C n n g hg Tryz.underlying22 Tryz.underlying5
set_option maxHeartbeats 4000000 in
set_option linter.unusedSimpArgs false in
theorem awake_any (w : World) : Calls Tryz.prog 7 #[] w fun e w' => e = .returned (.bool true) ∧ Below w.heap.size w w' := by
  obtain ⟨W1, hW1⟩ : ∃ x, w.alloc (.cells #[.int .u8 104, .int .u8 101, .int .u8 108, .int .u8 108, .int .u8 111] 5 (5, 6)) = x := ⟨_, rfl⟩
  obtain ⟨q, hq⟩ : ∃ q, w.heap.size = q := ⟨_, rfl⟩
  have hT1 : Tx W1 (some ⟨q, 0, none⟩) 5 5 [104, 101, 108, 108, 111] := by rw [← hW1, ← hq]; exact lit_tx2 rfl rfl (by omega)
  have hb1 : Below w.heap.size w W1 := by rw [← hW1]; exact bAlloc (Below.refl _ _) _
  have C0 := do_any (some ⟨q, 0, none⟩) 5 5 [104, 101, 108, 108, 111] 0 ⟨#[100]⟩ 0 2 false false 1 W1 hT1 (by omega)
  rw [aw_do] at C0
  have CD := Hid.mk' C0
  have B1 := Hid.mk' hb1
  have cv1 : (convert 22 22 (.slice (some ⟨q, 0, none⟩) 5 5)).run Tryz.prog (w.alloc (.cells #[.int .u8 104, .int .u8 101, .int .u8 108, .int .u8 108, .int .u8 111] 5)) = .ok (.slice (some ⟨q, 0, none⟩) 5 5) W1 := by rw [← hW1]; exact conv_lit w _ 5 q hq.symm
  clear C0 hT1 hb1
  go_enter Tryz.func7, Tryz.ntmps7
  go_wp2_with fail
  refine CD.out.mono ?_
  rintro e w2 ⟨v, F, tv, rfl, hF, hM, hb2⟩
  obtain ⟨g1, k1, p1, c1, p2, c2, rfl, -, e1, -, t1, -⟩ := hM.eds.single hF
  obtain ⟨tp, tc, rfl⟩ := hM.tx.shape
  have hTV : Tx w2 tp 2 tc [104, 101] := hM.tx.tx (by simp)
  have B2 := Hid.mk' (bT B1.out hb2)
  have E1 : Hid (w2.cell? ⟨g1, 1, none⟩ = some (.slice p1 2 c1)) := e1
  have T1 : Hid (Tx w2 p1 2 c1 [104, 101]) := t1
  have TV := Hid.mk' hTV
  clear hF hM hb2 e1 t1 hTV CD hW1
  unfold efV
  dsimp only [List.length_cons, List.length_nil, Nat.zero_add, Nat.reduceAdd]
  go_upto_region 2 with fail
  obtain ⟨q1, hq1⟩ : ∃ q, w2.heap.size = q := ⟨_, rfl⟩
  have hb3 : Below w2.heap.size w2 (w2.alloc (.cells #[.slice (some ⟨g1, 0, none⟩) 1 k1, .int .i64 0, .bool true, .bool false, .slice tp 2 tc, .int .i64 3, .bool false] 35)) := bAlloc (Below.refl _ _) _
  have hk3 : Blk (w2.alloc (.cells #[.slice (some ⟨g1, 0, none⟩) 1 k1, .int .i64 0, .bool true, .bool false, .slice tp 2 tc, .int .i64 3, .bool false] 35)) q1 35 #[.slice (some ⟨g1, 0, none⟩) 1 k1, .int .i64 0, .bool true, .bool false, .slice tp 2 tc, .int .i64 3, .bool false] := by rw [← hq1]; exact Blk.new w2 35 _
  rw [hq1]
  generalize w2.alloc (.cells #[.slice (some ⟨g1, 0, none⟩) 1 k1, .int .i64 0, .bool true, .bool false, .slice tp 2 tc, .int .i64 3, .bool false] 35) = w3 at *
  have B3 := Hid.mk' (bT B2.out hb3)
  have E1' := Hid.mk' (cell_keep E1.out hb3)
  have T1' := Hid.mk' (T1.out.keep hb3)
  have TV' := Hid.mk' (TV.out.keep hb3)
  have K3 := Hid.mk' hk3
  obtain ⟨W4, hW4⟩ : ∃ x, w3.alloc (.cells #[.int .u8 108, .int .u8 108, .int .u8 111] 5 (3, 4)) = x := ⟨_, rfl⟩
  obtain ⟨r, hr⟩ : ∃ q, w3.heap.size = q := ⟨_, rfl⟩
  have hb4 : Below w3.heap.size w3 W4 := by rw [← hW4]; exact bAlloc (Below.refl _ _) _
  have hT4 : Tx W4 (some ⟨r, 0, none⟩) 3 3 [108, 108, 111] := by rw [← hW4, ← hr]; exact lit_tx2 rfl rfl (by omega)
  have C1 := put_any (some ⟨r, 0, none⟩) 3 3 [108, 108, 111] 0 1 true false tp 2 tc [104, 101] true W4 hT4 (TV'.out.keep hb4) (by omega) (by omega)
  rw [aw_put] at C1
  have CP := Hid.mk' C1
  have B4 := Hid.mk' (bT B3.out hb4)
  have E4 := Hid.mk' (cell_keep E1'.out hb4)
  have T4 := Hid.mk' (T1'.out.keep hb4)
  have V4 := Hid.mk' (TV'.out.keep hb4)
  have K4 := Hid.mk' (K3.out.keep hb4)
  have x2 : W4.cell? ⟨q1, 2, none⟩ = some (.bool true) := K4.out.cell rfl
  have x3 : W4.cell? ⟨q1, 3, none⟩ = some (.bool false) := K4.out.cell rfl
  have x4 : W4.cell? ⟨q1, 4, none⟩ = some (.slice tp 2 tc) := K4.out.cell rfl
  have cv2 : (convert 22 22 (.slice (some ⟨r, 0, none⟩) 3 3)).run Tryz.prog (w3.alloc (.cells #[.int .u8 108, .int .u8 108, .int .u8 111] 5)) = .ok (.slice (some ⟨r, 0, none⟩) 3 3) W4 := by rw [← hW4]; exact conv_lit w3 _ 3 r hr.symm
  clear hb3 hk3 hq1 E1 T1 TV hb4 hT4 C1 E1' T1' TV' K3
  go_wp2_with fail
  refine CP.out.mono ?_
  rintro e w5 ⟨v, F, tv, rfl, hF, hM, hb5⟩
  obtain ⟨g2, k2, p3, c3, p4, c4, rfl, -, -, e2, -, t2⟩ := hM.eds.single hF
  obtain ⟨tp2, tc2, rfl⟩ := hM.tx.shape
  have B5 := Hid.mk' (bT B4.out hb5)
  have E5 := Hid.mk' (cell_keep E4.out hb5)
  have T5 := Hid.mk' (T4.out.keep hb5)
  have V5 := Hid.mk' (V4.out.keep hb5)
  have K5 := Hid.mk' (K4.out.keep hb5)
  have E2 : Hid (w5.cell? ⟨g2, 2, none⟩ = some (.slice p4 2 c4)) := e2
  have T2 : Hid (Tx w5 p4 2 c4 [104, 101]) := t2
  clear hF hM hb5 e2 t2 CP hW4 E4 T4 V4 K4 x2 x3 x4
  unfold efV
  dsimp only [List.length_cons, List.length_nil, Nat.zero_add, Nat.reduceAdd]
  go_upto_region 3 with fail
  obtain ⟨q2, hq2⟩ : ∃ q, w5.heap.size = q := ⟨_, rfl⟩
  have hb6 : Below w5.heap.size w5 (w5.alloc (.cells #[.slice (some ⟨g2, 0, none⟩) 1 k2, .int .i64 1, .bool false, .bool false, .slice tp2 0 tc2, .int .i64 0, .bool false] 35)) := bAlloc (Below.refl _ _) _
  have hk6 : Blk (w5.alloc (.cells #[.slice (some ⟨g2, 0, none⟩) 1 k2, .int .i64 1, .bool false, .bool false, .slice tp2 0 tc2, .int .i64 0, .bool false] 35)) q2 35 #[.slice (some ⟨g2, 0, none⟩) 1 k2, .int .i64 1, .bool false, .bool false, .slice tp2 0 tc2, .int .i64 0, .bool false] := by rw [← hq2]; exact Blk.new w5 35 _
  rw [hq2]
  generalize w5.alloc (.cells #[.slice (some ⟨g2, 0, none⟩) 1 k2, .int .i64 1, .bool false, .bool false, .slice tp2 0 tc2, .int .i64 0, .bool false] 35) = w6 at *
  have B6 := Hid.mk' (bT B5.out hb6)
  have K6 := K5.out.keep hb6
  have y1 := cell_keep E5.out hb6
  have y2 := cell_keep E2.out hb6
  have v1 : (convert 22 9 (.slice p1 2 c1)).run Tryz.prog w6 = .ok (.string ⟨#[104, 101]⟩) w6 := conv_tx (T5.out.keep hb6)
  have v2 : (convert 22 9 (.slice tp 2 tc)).run Tryz.prog w6 = .ok (.string ⟨#[104, 101]⟩) w6 := conv_tx (V5.out.keep hb6)
  have v3 : (convert 22 9 (.slice p4 2 c4)).run Tryz.prog w6 = .ok (.string ⟨#[104, 101]⟩) w6 := conv_tx (T2.out.keep hb6)
  have z0 : w6.cell? ⟨q1, 0, none⟩ = some (.slice (some ⟨g1, 0, none⟩) 1 k1) := K6.cell rfl
  have z3 : w6.cell? ⟨q1, 5, none⟩ = some (.int .i64 3) := K6.cell rfl
  have z4 : w6.cell? ⟨q1, 4, none⟩ = some (.slice tp 2 tc) := K6.cell rfl
  have u0 : w6.cell? ⟨q2, 0, none⟩ = some (.slice (some ⟨g2, 0, none⟩) 1 k2) := hk6.cell rfl
  have u1 : w6.cell? ⟨q2, 1, none⟩ = some (.int .i64 1) := hk6.cell rfl
  clear hb6 hk6 K6 E5 T5 V5 K5 E2 T2 hq2
  go_wp2
  go_ret
  exact ⟨rfl, B6.out⟩
end Go.Proofs.YtppefcnopkmhbaaGreatDoor

namespace Go.Proofs.YtppefcnopkmhbaaGreatDoor
open Go.RowKit

set_option maxRecDepth 8000
theorem app_sw {l : List UInt8} {f t : Nat} (hft : f ≤ t) (ht : t ≤ l.length) (Y : List UInt8) : app l (sw l f t Y) = some (l.take f ++ Y ++ l.drop t) := by
  have hs : sl l f t = (l.drop f).take (t - f) := rfl
  have hj : l.take f ++ sl l f t ++ l.drop t = l := by
    have e := sl_app l (Nat.zero_le f) hft
    rw [List.append_assoc, hs]
    have : (l.drop f).take (t - f) ++ l.drop t = l.drop f := by
      conv => rhs; rw [← List.take_append_drop (t - f) (l.drop f)]
      rw [List.drop_drop]
      congr 2; omega
    rw [this, List.take_append_drop]
  unfold sw
  split
  · rename_i h
    rw [← h, hj]
    rfl
  · have hl : (sl l f t).length = t - f := sl_len (by omega)
    have hfit : fitB l ⟨(f : Int), sl l f t, Y⟩ = true := by
      refine fitB_iff.2 ⟨f, rfl, by omega, ?_⟩
      show (l.drop f).take (sl l f t).length = sl l f t
      rw [hl]
      rfl
    show (if fitB l ⟨(f : Int), sl l f t, Y⟩ = true then app (stp l ⟨(f : Int), sl l f t, Y⟩) [] else none) = _
    rw [if_pos hfit]
    show some (l.take (f : Int).toNat ++ Y ++ l.drop ((f : Int).toNat + (sl l f t).length)) = _
    rw [hl, show (f : Int).toNat = f from rfl, show f + (t - f) = t by omega]
theorem apU_sw {l : List UInt8} {f t : Nat} (hft : f ≤ t) (ht : t ≤ l.length) (Y : List UInt8) : apU l (sw l f t Y) = l.take f ++ Y ++ l.drop t ∧ apE l (sw l f t Y) = 0 := by
  unfold apU apE
  rw [app_sw hft ht]
  exact ⟨rfl, rfl⟩
/-- letters of a range through a function -/
def cs (g : Int → Int) (l : List UInt8) (f t : Nat) : List UInt8 := l.take f ++ (sl l f t).map (tw g) ++ l.drop t
end Go.Proofs.YtppefcnopkmhbaaGreatDoor

namespace Go.Proofs.YtppefcnopkmhbaaGreatDoor
open Go.RowKit

set_option maxRecDepth 8000
/-- what P19.2 says of an answer -/
def FitP (l : List UInt8) (x : Ef × Int) : Prop := (x.2 ≠ 0 ∧ x.1 = ef0) ∨ (x.2 = 0 ∧ ∃ U, app l x.1.es = some U ∧ 0 ≤ x.1.cur ∧ x.1.cur ≤ (U.length : Int))
end Go.Proofs.YtppefcnopkmhbaaGreatDoor

namespace Go.Proofs.YtppefcnopkmhbaaGreatDoor
open Go.RowKit

set_option maxRecDepth 8000
theorem fb_le (l : List UInt8) (z : Nat) : ∀ d i, fb l z d i ≤ max z (i + d)
  | 0, i => by show z ≤ _; omega
  | d + 1, i => by
    unfold fb
    split
    · have := fb_le l z d (i + 1); omega
    · omega
theorem aFirst_le (l : List UInt8) (L : Int) : 0 ≤ (aFirst l L).1 ∧ (aFirst l L).1 ≤ (l.length : Int) := by
  unfold aFirst ans
  cases hb : lnB l L with
  | false => rw [if_neg (by simp)]; exact ⟨Int.le_refl _, by omega⟩
  | true =>
    rw [if_pos rfl]
    obtain ⟨k, rfl, hk⟩ := ln_yes hb
    have h1 := sp_le (t := l) hk
    have h2 := en_ge l (sp l k)
    have h3 := en_le h1
    have h4 := lb_le h2
    rw [show ((k : Int)).toNat = k from rfl]
    have h5 := fb_le l (lb (sp l k) (en l (sp l k))) (en l (sp l k) - sp l k) (sp l k)
    dsimp only
    omega
theorem aAt_le (l : List UInt8) (L c : Int) : 0 ≤ (aAt l L c).1 ∧ (aAt l L c).1 ≤ (l.length : Int) := by
  unfold aAt ans
  cases hb : (lnB l L && decide (-1 ≤ c)) with
  | false => rw [if_neg (by simp)]; exact ⟨Int.le_refl _, by omega⟩
  | true =>
    rw [if_pos rfl]
    obtain ⟨k, rfl, hk⟩ := ln_yes (Bool.and_eq_true_iff.1 hb).1
    have h1 := sp_le (t := l) hk
    have h2 := en_ge l (sp l k)
    have h3 := en_le h1
    have h4 := lb_le h2
    rw [show ((k : Int)).toNat = k from rfl]
    dsimp only
    unfold pc
    split <;> omega
theorem fbh_le (l : List UInt8) (D : List Ed) (i : Nat) : 0 ≤ fbh l D i ∧ fbh l D i ≤ ((apU l D).length : Int) := aFirst_le _ _
/-- where the first byte that isn't blank stands in a line -/
def fq (p : List UInt8) : Nat := fb p (lb 0 p.length) p.length 0
theorem fb_shift {l p : List UInt8} {s z : Nat} : ∀ (d i : Nat), (∀ j, j < i + d → at8 l (s + j) = at8 p j) → fb l (s + z) d (s + i) = s + fb p z d i
  | 0, _, _ => rfl
  | d + 1, i, h => by
    unfold fb
    rw [h i (by omega)]
    split
    · exact fb_shift d (i + 1) (fun j hj => h j (by omega))
    · rfl
theorem at8_ln {l : List UInt8} {i j : Nat} (h : i ≤ nl l) (hj : j < (ln l i).length) : at8 l (sp l i + j) = at8 (ln l i) j := by
  have e := ln_len h
  have he := en_le (sp_le (t := l) h)
  rw [at8_eq (by omega), at8_eq hj]
  simp [ln]
theorem aFirst_ln {l : List UInt8} {i : Nat} (h : i ≤ nl l) : aFirst l (i : Int) = (((sp l i + fq (ln l i) : Nat) : Int), 0) := by
  have e := ln_len h
  unfold aFirst ans
  rw [ln_at h, if_pos rfl, show ((i : Int)).toNat = i from rfl]
  have h1 : lb (sp l i) (en l (sp l i)) = sp l i + lb 0 (ln l i).length := by unfold lb; omega
  have h2 : en l (sp l i) - sp l i = (ln l i).length := by omega
  rw [h1, h2]
  have := fb_shift (l := l) (p := ln l i) (s := sp l i) (z := lb 0 (ln l i).length) (ln l i).length 0 (fun j hj => at8_ln h (by omega))
  rw [Nat.add_zero] at this
  rw [this]
  rfl
/-- where a line begins hangs on the lines ahead -/
theorem sp_same {T l : List UInt8} : ∀ a : Nat, a ≤ nl T → a ≤ nl l → (∀ j, j < a → ln T j = ln l j) → sp T a = sp l a
  | 0, _, _, _ => by rw [sp_zero, sp_zero]
  | a + 1, h1, h2, h3 => by
    rw [(sp_next h1).2, (sp_next h2).2, ← ln_len (l := T) (i := a) (by omega), ← ln_len (l := l) (i := a) (by omega), sp_same a (by omega) (by omega) (fun j hj => h3 j (by omega)), h3 a (by omega)]
theorem first_same {T U : List UInt8} {a : Nat} (h1 : a ≤ nl T) (h2 : a ≤ nl U) (h3 : ∀ j, j ≤ a → ln T j = ln U j) : (aFirst T (a : Int)).1 = (aFirst U (a : Int)).1 := by
  rw [aFirst_ln h1, aFirst_ln h2, sp_same a h1 h2 (fun j hj => h3 j (by omega)), h3 a (Nat.le_refl _)]
theorem nw_nolf' {hd : List UInt8 → Nat × Nat} {p : List UInt8} (h : nolf p) : nolf (nw hd p) := by
  unfold nw
  intro x hx
  rcases List.mem_append.1 hx with hx | hx
  · have : x = 9 := by
      generalize (hd p).2 = k at hx
      induction k with
      | zero => cases hx
      | succ k ih => rcases List.mem_cons.1 hx with h | h
                     · exact h
                     · exact ih h
    rw [this]; decide +kernel
  · exact h x (List.mem_of_mem_drop hx)
/-- the first edit alone is shift's over fewer lines -/
theorem shf_one (hd : List UInt8 → Nat × Nat) (l : List UInt8) : ∀ (c i : Nat) (g : Int) (D : List Ed), shf hd l (c + 1) i g = some D → ∃ c1, c1 ≤ c ∧ shf hd l (c1 + 1) i g = some (D.take 1)
  | 0, i, g, D, h => by
    refine ⟨0, Nat.le_refl _, ?_⟩
    have : D.length ≤ 1 := by
      unfold shf at h
      split at h
      · cases h
      · obtain ⟨D', hD', rfl⟩ := Option.map_eq_some_iff.1 h
        injection hD' with hD'
        subst hD'
        split <;> simp
    rw [List.take_of_length_le this]
    exact h
  | c + 1, i, g, D, h => by
    have h0 := h
    unfold shf at h
    split at h
    · cases h
    · rename_i hg
      obtain ⟨D', hD', rfl⟩ := Option.map_eq_some_iff.1 h
      by_cases hx : 0 < (hd (ln l i)).1 + (hd (ln l i)).2
      · refine ⟨0, Nat.zero_le _, ?_⟩
        unfold shf
        rw [if_neg hg, if_pos hx]
        rfl
      · obtain ⟨c1, h1, h2⟩ := shf_one hd l c (i + 1) _ D' hD'
        refine ⟨c1 + 1, by omega, ?_⟩
        unfold shf
        rw [if_neg hg, h2, if_neg hx]
        rfl
theorem shf_first {hd : List UInt8 → Nat × Nat} {l : List UInt8} (hle : ∀ p, (hd p).1 ≤ p.length) {a m : Nat} {D : List Ed} (ham : a + m ≤ nl l + 1) (hm : 1 ≤ m) (hD : shf hd l m a 0 = some D) : fbh l (D.take 1) a = fbh l D a := by
  obtain ⟨m0, rfl⟩ : ∃ k, m = k + 1 := ⟨m - 1, by omega⟩
  obtain ⟨c1, h1, h2⟩ := shf_one hd l m0 a 0 D hD
  have e1 := app_lines hle ham hm hD
  have e2 := app_lines hle (a := a) (m := c1 + 1) (by omega) (by omega) h2
  have f1 : apU l D = tj (lw hd (ln l) a (m0 + 1)) (nl l) 0 := by unfold apU; rw [e1]; rfl
  have f2 : apU l (D.take 1) = tj (lw hd (ln l) a (c1 + 1)) (nl l) 0 := by unfold apU; rw [e2]; rfl
  have hn : ∀ m j, nolf (lw hd (ln l) a m j) := fun m j => by
    unfold lw
    split
    · exact nw_nolf' (ln_nolf l j)
    · exact ln_nolf l j
  obtain ⟨n1, l1⟩ := tj_lines (f := lw hd (ln l) a (m0 + 1)) (m := nl l) (fun j _ => hn _ j)
  obtain ⟨n2, l2⟩ := tj_lines (f := lw hd (ln l) a (c1 + 1)) (m := nl l) (fun j _ => hn _ j)
  unfold fbh
  rw [f1, f2, n1, n2, show min (a : Int) (nl l : Int) = (a : Int) by omega]
  refine first_same (by rw [n2]; omega) (by rw [n1]; omega) (fun j hj => ?_)
  rw [l1 j (by omega), l2 j (by omega)]
  unfold lw
  rcases Nat.lt_or_ge j a with h | h
  · rw [if_neg (by omega), if_neg (by omega)]
  · rw [if_pos (by omega), if_pos (by omega)]
/-- all that is asked of an answer's edits -/
structure FitB (l : List UInt8) (x : Ef × Int) : Prop where
  fit : FitP l x
  sum : nsum x.1.es ≤ 1073741824
  num : x.1.es.length ≤ 1048577
theorem FitB.no {l : List UInt8} {z : Int} (hz : z ≠ 0) : FitB l (ef0, z) := ⟨.inl ⟨hz, rfl⟩, Nat.zero_le _, Nat.zero_le _⟩
theorem FitB.none {l : List UInt8} {x : Ef} (he : x.es = []) (h1 : 0 ≤ x.cur) (h2 : x.cur ≤ (l.length : Int)) : FitB l (x, 0) :=
  ⟨.inr ⟨rfl, l, by dsimp only; rw [he]; rfl, h1, h2⟩, by dsimp only; rw [he]; exact Nat.zero_le _, by dsimp only; rw [he]; exact Nat.zero_le _⟩
theorem FitB.sw {l Y : List UInt8} {x : Ef} {f t : Nat} (he : x.es = sw l f t Y) (hft : f ≤ t) (ht : t ≤ l.length) (hY : Y.length ≤ 1073741824) (h1 : 0 ≤ x.cur) (h2 : x.cur ≤ ((f + Y.length + (l.length - t) : Nat) : Int)) : FitB l (x, 0) := by
  refine ⟨.inr ⟨rfl, l.take f ++ Y ++ l.drop t, by dsimp only; rw [he]; exact app_sw hft ht Y, h1, ?_⟩, ?_, ?_⟩
  · dsimp only
    rw [List.length_append, List.length_append, List.length_take, List.length_drop, show min f l.length = f by omega]
    exact h2
  · dsimp only; rw [he]; have := nsum_sw l f t Y; omega
  · dsimp only; rw [he]; have := sw_len l f t Y; omega
theorem fbh_sw {l Y : List UInt8} {f t i : Nat} (hft : f ≤ t) (ht : t ≤ l.length) : 0 ≤ fbh l (sw l f t Y) i ∧ fbh l (sw l f t Y) i ≤ ((f + Y.length + (l.length - t) : Nat) : Int) := by
  have h := fbh_le l (sw l f t Y) i
  rw [(apU_sw hft ht Y).1] at h
  rw [List.length_append, List.length_append, List.length_take, List.length_drop, show min f l.length = f by omega] at h
  exact h
end Go.Proofs.YtppefcnopkmhbaaGreatDoor
