/- Law, Awk9 -/
import Derived.Test.YtppefcnopkmhbaaDoorPa20
import Derived.Test.YtppefcnopkmhbaaDoorPa22
import Derived.Lib.SmallJoins
namespace Go.Proofs.YtppefcnopkmhbaaDoor
open Go.RowKit

set_option maxRecDepth 8000
theorem lit_tx {W : World} {B n : Nat} {l : List UInt8} {cs : Array Value} (h : Blk W B 5 cs) (hc : cs.toList = bv l) (hn : l.length = n) (hb : n ≤ 1000000) : Tx W (some ⟨B, 0, none⟩) n n l := by
  refine ⟨hn, Nat.le_refl _, by omega, (fun e => by cases e), fun a ha j hj => ?_⟩
  injection ha with ha
  subst ha
  rw [show (⟨B, 0, none⟩ : Addr).add j = ⟨B, j, none⟩ by rw [add_none, Nat.zero_add]]
  refine h.cell ?_
  rw [← Array.getElem?_toList, hc]
  exact bv_at l j (by omega)
theorem lit_tx2 {W : World} {n : Nat} {l : List UInt8} {cs : Array Value} {m : Nat × Nat} (hc : cs.toList = bv l) (hn : l.length = n) (hb : n ≤ 1000000) : Tx (W.alloc (.cells cs 5 m)) (some ⟨W.heap.size, 0, none⟩) n n l := by
  refine ⟨hn, Nat.le_refl _, by omega, (fun e => by cases e), fun a ha j hj => ?_⟩
  injection ha with ha
  subst ha
  rw [show (⟨W.heap.size, 0, none⟩ : Addr).add j = ⟨W.heap.size, j, none⟩ by rw [add_none, Nat.zero_add]]
  have h0 : (W.alloc (.cells cs 5 m)).heap[W.heap.size]? = some (.cells cs 5 m) := heap_alloc_new W _
  have h1 : cs[j]? = some (.int .u8 ((at8 l j).toNat : Int)) := by rw [← Array.getElem?_toList, hc]; exact bv_at l j (by omega)
  rw [cell_of_row _ W.heap.size j cs 5 m h0]
  exact h1
/-- the one edit of a list -/
theorem Eds.single {W : World} {lo hi : Nat} {v : Value} {F : List Er} {d : Ed} (h : Eds W lo hi v F) (hF : F.map Er.d = [d]) :
    ∃ g cap p1 c1 p2 c2, v = .slice (some ⟨g, 0, none⟩) 1 cap ∧ W.cell? ⟨g, 0, none⟩ = some (.int .i64 d.a) ∧ W.cell? ⟨g, 1, none⟩ = some (.slice p1 d.O.length c1) ∧ W.cell? ⟨g, 2, none⟩ = some (.slice p2 d.N.length c2) ∧ Tx W p1 d.O.length c1 d.O ∧ Tx W p2 d.N.length c2 d.N := by
  match F, hF, h with
  | [], hF, _ => simp at hF
  | [r], hF, h =>
    simp at hF
    subst hF
    obtain ⟨ao, c, hv, hZ, _⟩ := h.edz
    obtain ⟨g, cap, e, _, _⟩ := own_some h.row (by simp)
    rw [hv] at e
    injection e with e1 e2 e3
    obtain ⟨g', o', e', k1, k2, k3⟩ := hZ.row 0 r rfl
    rw [e1] at e'
    injection e' with e'
    injection e' with e4 e5
    subst e4 e5
    have t := hZ.txs 0 r rfl
    have hO : r.O.length = r.o := t.t1.len
    have hN : r.N.length = r.n := t.t2.len
    have k1' : W.cell? ⟨g, 0, none⟩ = some (.int .i64 r.a) := by simpa using k1
    have k2' : W.cell? ⟨g, 1, none⟩ = some (.slice r.p1 r.o r.c1) := by simpa using k2
    have k3' : W.cell? ⟨g, 2, none⟩ = some (.slice r.p2 r.n r.c2) := by simpa using k3
    refine ⟨g, c, r.p1, r.c1, r.p2, r.c2, by rw [hv, e1]; rfl, k1', ?_, ?_, ?_, ?_⟩
    · show _ = some (Value.slice r.p1 r.O.length r.c1); rw [hO]; exact k2'
    · show _ = some (Value.slice r.p2 r.N.length r.c2); rw [hN]; exact k3'
    · show Tx W r.p1 r.O.length r.c1 r.O; rw [hO]; exact t.t1
    · show Tx W r.p2 r.N.length r.c2 r.N; rw [hN]; exact t.t2
  | _ :: _ :: _, hF, _ => simp at hF
/-- a number brought among n -/
def plc (i : Int) (n : Nat) : Nat := (Int.tmod (if i < 0 then -(i + 1) else i) (n : Int)).toNat
theorem plc_lt (i : Int) {n : Nat} (h : 0 < n) : plc i n < n ∧ (plc i n : Int) = Int.tmod (if i < 0 then -(i + 1) else i) (n : Int) := by
  unfold plc
  obtain ⟨m, hm⟩ : ∃ m : Nat, (if i < 0 then -(i + 1) else i) = (m : Int) := ⟨(if i < 0 then -(i + 1) else i).toNat, by split <;> omega⟩
  rw [hm]
  have e : Int.tmod (m : Int) (n : Int) = ((m % n : Nat) : Int) := by rw [← Int.ofNat_tmod]
  rw [e]
  have := Nat.mod_lt m h
  refine ⟨by omega, by omega⟩
set_option maxHeartbeats 1000000 in
theorem place_any (i : Int) (n : Nat) (w : World) (hn : 0 < n) (h1 : -9223372036854775808 ≤ i) (h2 : i ≤ 9223372036854775807) (h3 : n ≤ 1048577) :
    Calls Tryd.prog 8 #[.int .i64 i, .int .i64 (n : Int)] w fun e w' => e = .returned (.int .i64 (plc i n : Int)) ∧ w' = w := by
  obtain ⟨hp1, hp⟩ := plc_lt i hn
  rw [hp]
  have hnz : ¬ (n : Int) = 0 := by omega
  have hnz2 : ¬ n = 0 := by omega
  have hbw : IntKind.i64.wrap (Int.tmod (if i < 0 then -(i + 1) else i) (n : Int)) = Int.tmod (if i < 0 then -(i + 1) else i) (n : Int) := by rw [← hp, IntKind.wrap_i64]; omega
  by_cases hi : i < 0
  · rw [if_pos hi] at hbw ⊢
    have hw1 : IntKind.i64.wrap (i + 1) = i + 1 := by rw [IntKind.wrap_i64]; omega
    have hw2 : IntKind.i64.wrap (-(i + 1)) = -(i + 1) := by rw [IntKind.wrap_i64]; omega
    go_enter Tryd.func8, Tryd.ntmps8
    go_wp2
    go_ret
    have he : -(Int.tmod (i + 1) (n : Int)) = Int.tmod (-(i + 1)) (n : Int) := (Int.neg_tmod _ _).symm
    exact ⟨by rw [← he]; rfl, rfl⟩
  · rw [if_neg hi] at hbw ⊢
    go_enter Tryd.func8, Tryd.ntmps8
    go_wp2
    go_ret
    have he : i % (n : Int) = Int.tmod i (n : Int) := (Int.tmod_eq_emod_of_nonneg (by omega)).symm
    exact ⟨by rw [← he]; rfl, rfl⟩
end Go.Proofs.YtppefcnopkmhbaaDoor

namespace Go.Proofs.YtppefcnopkmhbaaDoor
open Go.RowKit

set_option maxRecDepth 8000
theorem aw_do : doX [104, 101, 108, 108, 111] 0 ⟨#[100]⟩ 0 2 false false 1 = (⟨[⟨0, [104, 101], []⟩], 0, true, false, [104, 101], 3, false⟩, 0) := by kernel_rfl
theorem aw_put : ptX [108, 108, 111] 0 1 true false [104, 101] true = (⟨[⟨0, [], [104, 101]⟩], 1, false, false, [], 0, false⟩, 0) := by kernel_rfl
theorem conv_lit (W : World) (C : Array Value) (n g : Nat) (hg : g = W.heap.size) : (convert 22 22 (.slice (some ⟨g, 0, none⟩) n n)).run Tryd.prog (W.alloc (.cells C 5)) = .ok (.slice (some ⟨g, 0, none⟩) n n) (W.alloc (.cells C 5 (C.size, C.size + 1))) :=
  Joins.run_convert_bytes_const_at W 22 5 C n n g hg Tryd.underlying22 Tryd.underlying5
set_option maxHeartbeats 4000000 in
set_option linter.unusedSimpArgs false in
theorem awake_any (w : World) : Calls Tryd.prog 6 #[] w fun e w' => e = .returned (.bool true) ∧ Below w.heap.size w w' := by
  obtain ⟨W1, hW1⟩ : ∃ x, w.alloc (.cells #[.int .u8 104, .int .u8 101, .int .u8 108, .int .u8 108, .int .u8 111] 5 (5, 6)) = x := ⟨_, rfl⟩
  obtain ⟨q, hq⟩ : ∃ q, w.heap.size = q := ⟨_, rfl⟩
  have hT1 : Tx W1 (some ⟨q, 0, none⟩) 5 5 [104, 101, 108, 108, 111] := by rw [← hW1, ← hq]; exact lit_tx2 rfl rfl (by omega)
  have hb1 : Below w.heap.size w W1 := by rw [← hW1]; exact bAlloc (Below.refl _ _) _
  have C0 := do_any (some ⟨q, 0, none⟩) 5 5 [104, 101, 108, 108, 111] 0 ⟨#[100]⟩ 0 2 false false 1 W1 hT1 (by omega)
  rw [aw_do] at C0
  have CD := Hid.mk' C0
  have B1 := Hid.mk' hb1
  have cv1 : (convert 22 22 (.slice (some ⟨q, 0, none⟩) 5 5)).run Tryd.prog (w.alloc (.cells #[.int .u8 104, .int .u8 101, .int .u8 108, .int .u8 108, .int .u8 111] 5)) = .ok (.slice (some ⟨q, 0, none⟩) 5 5) W1 := by rw [← hW1]; exact conv_lit w _ 5 q hq.symm
  clear C0 hT1 hb1
  go_enter Tryd.func6, Tryd.ntmps6
  go_wp2_with fail
  refine CD.out.mono ?_
  rintro e w2 ⟨v, F, tv, rfl, hF, hM, hb2⟩
  obtain ⟨g1, k1, p1, c1, p2, c2, rfl, -, e1, -, t1, -⟩ := hM.eds.single hF
  obtain ⟨tp, tc, rfl⟩ := hM.tx.shape
  have hTV : Tx w2 tp 2 tc [104, 101] := hM.tx.tx (by simp)
  have B2 := Hid.mk' (bT B1.out hb2)
  have E1 : Hid (w2.cell? ⟨g1, 1, none⟩ = some (.slice p1 2 c1)) := e1
  have T1 : Hid (Tx w2 p1 2 c1 [104, 101]) := t1
  have TV := Hid.mk' hTV
  clear hF hM hb2 e1 t1 hTV CD hW1
  unfold efV
  dsimp only [List.length_cons, List.length_nil, Nat.zero_add, Nat.reduceAdd]
  go_upto_region 2 with fail
  obtain ⟨q1, hq1⟩ : ∃ q, w2.heap.size = q := ⟨_, rfl⟩
  have hb3 : Below w2.heap.size w2 (w2.alloc (.cells #[.slice (some ⟨g1, 0, none⟩) 1 k1, .int .i64 0, .bool true, .bool false, .slice tp 2 tc, .int .i64 3, .bool false] 32)) := bAlloc (Below.refl _ _) _
  have hk3 : Blk (w2.alloc (.cells #[.slice (some ⟨g1, 0, none⟩) 1 k1, .int .i64 0, .bool true, .bool false, .slice tp 2 tc, .int .i64 3, .bool false] 32)) q1 32 #[.slice (some ⟨g1, 0, none⟩) 1 k1, .int .i64 0, .bool true, .bool false, .slice tp 2 tc, .int .i64 3, .bool false] := by rw [← hq1]; exact Blk.new w2 32 _
  rw [hq1]
  generalize w2.alloc (.cells #[.slice (some ⟨g1, 0, none⟩) 1 k1, .int .i64 0, .bool true, .bool false, .slice tp 2 tc, .int .i64 3, .bool false] 32) = w3 at *
  have B3 := Hid.mk' (bT B2.out hb3)
  have E1' := Hid.mk' (cell_keep E1.out hb3)
  have T1' := Hid.mk' (T1.out.keep hb3)
  have TV' := Hid.mk' (TV.out.keep hb3)
  have K3 := Hid.mk' hk3
  obtain ⟨W4, hW4⟩ : ∃ x, w3.alloc (.cells #[.int .u8 108, .int .u8 108, .int .u8 111] 5 (3, 4)) = x := ⟨_, rfl⟩
  obtain ⟨r, hr⟩ : ∃ q, w3.heap.size = q := ⟨_, rfl⟩
  have hb4 : Below w3.heap.size w3 W4 := by rw [← hW4]; exact bAlloc (Below.refl _ _) _
  have hT4 : Tx W4 (some ⟨r, 0, none⟩) 3 3 [108, 108, 111] := by rw [← hW4, ← hr]; exact lit_tx2 rfl rfl (by omega)
  have C1 := put_any (some ⟨r, 0, none⟩) 3 3 [108, 108, 111] 0 1 true false tp 2 tc [104, 101] true W4 hT4 (TV'.out.keep hb4) (by omega) (by omega)
  rw [aw_put] at C1
  have CP := Hid.mk' C1
  have B4 := Hid.mk' (bT B3.out hb4)
  have E4 := Hid.mk' (cell_keep E1'.out hb4)
  have T4 := Hid.mk' (T1'.out.keep hb4)
  have V4 := Hid.mk' (TV'.out.keep hb4)
  have K4 := Hid.mk' (K3.out.keep hb4)
  have x2 : W4.cell? ⟨q1, 2, none⟩ = some (.bool true) := K4.out.cell rfl
  have x3 : W4.cell? ⟨q1, 3, none⟩ = some (.bool false) := K4.out.cell rfl
  have x4 : W4.cell? ⟨q1, 4, none⟩ = some (.slice tp 2 tc) := K4.out.cell rfl
  have cv2 : (convert 22 22 (.slice (some ⟨r, 0, none⟩) 3 3)).run Tryd.prog (w3.alloc (.cells #[.int .u8 108, .int .u8 108, .int .u8 111] 5)) = .ok (.slice (some ⟨r, 0, none⟩) 3 3) W4 := by rw [← hW4]; exact conv_lit w3 _ 3 r hr.symm
  clear hb3 hk3 hq1 E1 T1 TV hb4 hT4 C1 E1' T1' TV' K3
  go_wp2_with fail
  refine CP.out.mono ?_
  rintro e w5 ⟨v, F, tv, rfl, hF, hM, hb5⟩
  obtain ⟨g2, k2, p3, c3, p4, c4, rfl, -, -, e2, -, t2⟩ := hM.eds.single hF
  obtain ⟨tp2, tc2, rfl⟩ := hM.tx.shape
  have B5 := Hid.mk' (bT B4.out hb5)
  have E5 := Hid.mk' (cell_keep E4.out hb5)
  have T5 := Hid.mk' (T4.out.keep hb5)
  have V5 := Hid.mk' (V4.out.keep hb5)
  have K5 := Hid.mk' (K4.out.keep hb5)
  have E2 : Hid (w5.cell? ⟨g2, 2, none⟩ = some (.slice p4 2 c4)) := e2
  have T2 : Hid (Tx w5 p4 2 c4 [104, 101]) := t2
  clear hF hM hb5 e2 t2 CP hW4 E4 T4 V4 K4 x2 x3 x4
  unfold efV
  dsimp only [List.length_cons, List.length_nil, Nat.zero_add, Nat.reduceAdd]
  go_upto_region 3 with fail
  obtain ⟨q2, hq2⟩ : ∃ q, w5.heap.size = q := ⟨_, rfl⟩
  have hb6 : Below w5.heap.size w5 (w5.alloc (.cells #[.slice (some ⟨g2, 0, none⟩) 1 k2, .int .i64 1, .bool false, .bool false, .slice tp2 0 tc2, .int .i64 0, .bool false] 32)) := bAlloc (Below.refl _ _) _
  have hk6 : Blk (w5.alloc (.cells #[.slice (some ⟨g2, 0, none⟩) 1 k2, .int .i64 1, .bool false, .bool false, .slice tp2 0 tc2, .int .i64 0, .bool false] 32)) q2 32 #[.slice (some ⟨g2, 0, none⟩) 1 k2, .int .i64 1, .bool false, .bool false, .slice tp2 0 tc2, .int .i64 0, .bool false] := by rw [← hq2]; exact Blk.new w5 32 _
  rw [hq2]
  generalize w5.alloc (.cells #[.slice (some ⟨g2, 0, none⟩) 1 k2, .int .i64 1, .bool false, .bool false, .slice tp2 0 tc2, .int .i64 0, .bool false] 32) = w6 at *
  have B6 := Hid.mk' (bT B5.out hb6)
  have K6 := K5.out.keep hb6
  have y1 := cell_keep E5.out hb6
  have y2 := cell_keep E2.out hb6
  have v1 : (convert 22 9 (.slice p1 2 c1)).run Tryd.prog w6 = .ok (.string ⟨#[104, 101]⟩) w6 := conv_tx (T5.out.keep hb6)
  have v2 : (convert 22 9 (.slice tp 2 tc)).run Tryd.prog w6 = .ok (.string ⟨#[104, 101]⟩) w6 := conv_tx (V5.out.keep hb6)
  have v3 : (convert 22 9 (.slice p4 2 c4)).run Tryd.prog w6 = .ok (.string ⟨#[104, 101]⟩) w6 := conv_tx (T2.out.keep hb6)
  have z0 : w6.cell? ⟨q1, 0, none⟩ = some (.slice (some ⟨g1, 0, none⟩) 1 k1) := K6.cell rfl
  have z3 : w6.cell? ⟨q1, 5, none⟩ = some (.int .i64 3) := K6.cell rfl
  have z4 : w6.cell? ⟨q1, 4, none⟩ = some (.slice tp 2 tc) := K6.cell rfl
  have u0 : w6.cell? ⟨q2, 0, none⟩ = some (.slice (some ⟨g2, 0, none⟩) 1 k2) := hk6.cell rfl
  have u1 : w6.cell? ⟨q2, 1, none⟩ = some (.int .i64 1) := hk6.cell rfl
  clear hb6 hk6 K6 E5 T5 V5 K5 E2 T2 hq2
  go_wp2
  go_ret
  exact ⟨rfl, B6.out⟩
end Go.Proofs.YtppefcnopkmhbaaDoor
