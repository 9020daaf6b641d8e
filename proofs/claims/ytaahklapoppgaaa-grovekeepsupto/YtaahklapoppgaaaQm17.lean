/- The program's walk: cross. -/
import Derived.Test.YtaahklapoppgaaaQm16
namespace Go.Proofs.Ytaahklapoppgaaa
open Go.RowKit

set_option maxRecDepth 8000
theorem wx_of {W : World} {p B n k vn vc : Nat} {va : Option Addr} {now cur : Int} {m : List Int} (_hm : m.length = 27) (h : Blk W p 100 (wca (some ⟨B, 0, none⟩) n k now (.slice va vn vc) cur m)) : Wx W p B n k va vn vc now cur m := by
  have hr : W.rangeAt p 0 (wc (some ⟨B, 0, none⟩) n k now (.slice va vn vc) cur m) := range_blk h
  refine ⟨hr 0 _ rfl, hr 1 _ rfl, hr 2 _ rfl, hr 3 _ rfl, ?_, ?_⟩
  · have := range_part (pre := [.slice (some ⟨B, 0, none⟩) n k, .int .i64 now, .slice va vn vc, .int .i64 cur]) (mid := ml m) (post := []) (by rw [List.append_nil]; exact hr)
    simpa using this
  · have := range_part (pre := [.slice (some ⟨B, 0, none⟩) n k, .int .i64 now]) (mid := cx (.slice va vn vc) cur m) (post := []) (by rw [List.append_nil]; exact hr)
    simpa using this
/-- a crossing is written into a walk -/
theorem put_cx {W : World} {p B n k vn vc n2 c2 : Nat} {va a2 : Option Addr} {now cur cur2 : Int} {m K : List Int} (hm : m.length = 27) (hk : K.length = 27) (h : Blk W p 100 (wca (some ⟨B, 0, none⟩) n k now (.slice va vn vc) cur m)) : Blk (W.setCells p 2 (cx (.slice a2 n2 c2) cur2 K)) p 100 (wca (some ⟨B, 0, none⟩) n k now (.slice a2 n2 c2) cur2 K) := by
  have := blk_setCells (cx (.slice a2 n2 c2) cur2 K) [.slice (some ⟨B, 0, none⟩) n k, .int .i64 now] (cx (.slice va vn vc) cur m) [] (by rw [cx_len hm, cx_len hk]) (by rw [List.append_nil]; exact h)
  rw [List.append_nil] at this
  exact this
theorem there_cx {W : World} {p B n k vn vc : Nat} {va : Option Addr} {now cur : Int} {m : List Int} (hm : m.length = 27) (h : Blk W p 100 (wca (some ⟨B, 0, none⟩) n k now (.slice va vn vc) cur m)) : W.there p 2 29 := by
  have := blk_there (pre := [.slice (some ⟨B, 0, none⟩) n k, .int .i64 now]) (mid := cx (.slice va vn vc) cur m) (post := []) (by rw [List.append_nil]; exact h)
  rw [cx_len hm] at this
  exact this
theorem yi_bld {ops : Array Oper} {S : World → Prop} {op : Oper} {a : Act} {v : Value} (hw : Region.wanted op (yielded ops a.tmps) = true) (t : TypeId) (parts : Array (Nat × Operand)) (ho : op.op = .build t parts) (vs : Array (Nat × Value)) (he : (parts.map fun (i, x) => (i, a.eval x)) = vs) (hr : ∀ w, (Instr.build t vs).run Try.prog w = .ok v w) : YieldsIf Try.prog ops S op v a :=
  .inl ⟨hw, fun w _ => by
    unfold execOp
    simp only [ho]
    rw [he]
    simp only [Sem.run_bind, hr, Result.andThen_ok, Sem.run_pure]⟩
theorem cell_wx {W : World} {p B n k vn vc : Nat} {va : Option Addr} {now cur : Int} {m : List Int} (h : Wx W p B n k va vn vc now cur m) : W.cell? ⟨p, 2, none⟩ = some (.slice va vn vc) := h.c2
set_option maxHeartbeats 16000000 in
set_option linter.unusedSimpArgs false in
theorem wcross_walk (Z : List Int) (hZ : Z.length = 27) (hz : ∀ w, (zeroValue 41).run Try.prog w = .ok (.agg (mk Z)) w) (lo q0 q p B k i vn vc un uc : Nat) (W : World) (H : List Nr) (X : List Value) (S : List (Nat × Nat)) (va ua : Option Addr) (F F2 : List Er) (now cur cur2 : Int) (m kn : List Int) (r : Nr)
    (HW : Hid (Wm lo q0 W p B k H X S va vn vc F now cur m)) (HI : Hid (H[i]? = some r)) (HL : Hid (Ls q W.heap.size W (.slice ua un uc) F2)) (HF2 : Hid (F2.length = un)) (hqq : Hid (q0 ≤ q ∧ q ≤ W.heap.size)) (hbn : Hid ((vn + un) * 56 ≤ 140737488355328)) (HK : Hid (kn = crL m r.was r.made (mvL m (F2.map Er.t)) 27)) (HKw : Hid (Mw kn)) :
    Calls Try.prog 75 #[.pointer (some ⟨p, 0, none⟩), .pointer (some ⟨B, i * 58, none⟩), .slice ua un uc, .int .i64 cur2] W fun e W' => WcP lo W p B k (H.set i (r.mk2 m kn)) X S (.slice va vn vc) (vn + un) (F ++ F2) now cur2 kn e W' := by
  have HRz := mkH (HW.out.hst.gow.nz HI.out)
  have hm := HW.out.mw.len
  have hkl := HKw.out.len
  have hrw := mkH HRz.out.ww.len
  have hrm := mkH HRz.out.wm.len
  generalize hW1 : W.alloc (.cells (mk Z) 41) = W1
  obtain ⟨b8, hb8⟩ : ∃ b, W.heap.size = b := ⟨_, rfl⟩
  have HB8 := mkH hb8
  have L1 : Hid (Below W.heap.size W W1) := by subst hW1; exact bAlloc (Below.refl _ _) _
  have K1 : Hid (Blk W1 b8 41 (mk Z)) := by subst hW1; rw [← hb8]; exact Blk.new W 41 _
  have HX1 := mkH HW.out.wx.mm
  have HX2 := mkH (range_keep HX1.out L1.out)
  go_enter Try.func75, Try.ntmps75
  go_upto_region 1 with (first | refine wl_ld41 (B := p) (o := 4) (.tmp 13) rfl rfl rfl hm HX1.out ?_ | refine wl_ld41 (B := p) (o := 4) (.tmp 13) rfl rfl rfl hm HX2.out ?_ | refine wl_st41 (B := b8) (o := 0) (L := m) (.tmp 8) (.tmp 14) rfl rfl rfl rfl hm (there41 hZ K1.out) ?_ | fail)
  clear hb8
  obtain ⟨W2, hW2⟩ : ∃ W2, W2 = (W1.setCells b8 0 (ml m)).drew := ⟨_, rfl⟩
  have K8 : Hid (Blk W2 b8 41 (mk m)) := by unfold Hid; rw [hW2]; exact put41 hm hZ K1.out
  have L2 : Hid (Below W.heap.size W W2) := by unfold Hid; rw [hW2]; exact (below_setCells (Nat.le_of_eq HB8.out) _ _ L1.out).drew
  have HC0 := mkH (HW.out.hst.row.nc HW.out.hst.gow.ok HI.out hrw.out)
  have HC2 : Hid (Nc W2 B (i * 58) r) := HC0.out.keep L2.out
  have CC := mkH (fun V (hV : Below W.heap.size W V) => cross_any m r.was r.made ua un uc F2 V hm hrw.out hrm.out (HL.out.ez.row.keep hV) HF2.out (by have := hbn.out; omega))
  rw [← HK.out] at CC
  obtain ⟨rwa, rma, hrwa, hrma⟩ : ∃ a b, r.was = a ∧ r.made = b := ⟨_, _, rfl, rfl⟩
  rw [hrwa, hrma] at CC
  have HRW := mkH hrwa
  have HRM := mkH hrma
  have ha : rwa.length = 27 := by rw [← hrwa]; exact hrw.out
  have hb : rma.length = 27 := by rw [← hrma]; exact hrm.out
  clear hrwa hrma hW1 K1 L1 HX1 HX2
  refine wp_region_held (S := fun w' => Blk w' b8 41 (mk m) ∧ Nc w' B (i * 58) r) (by kernel_rfl) ?_
  change wpAnyH _ _ _ _ _ _ _ _ (World.drew _)
  rw [← hW2]
  clear hW2
  generalize W2 = V3 at *
  refine ta 0 (.agg (mk m)) rfl (yi41 rfl (.tmp 8) rfl rfl hm (fun _ h => range_blk h.1)) ⟨K8.out, HC2.out⟩ ?_
  refine tk 1 (.pointer (some ⟨B, i * 58, none⟩)) ⟨K8.out, HC2.out⟩ ?_
  refine tk 2 (.pointer (some ⟨B, i * 58, none⟩)) ⟨K8.out, HC2.out⟩ ?_
  refine tk 3 (.pointer (some ⟨B, i * 58 + 4, none⟩)) ⟨K8.out, HC2.out⟩ ?_
  try simp only [Act.put, jj1, jj2, jj3, jj4, jj5, jj6]
  refine ta 4 (.agg (mk rwa)) rfl (yi41 rfl (.tmp 18) rfl rfl ha (fun _ h => by have := h.2.m1; rwa [HRW.out] at this)) ⟨K8.out, HC2.out⟩ ?_
  refine tk 5 (.pointer (some ⟨B, i * 58, none⟩)) ⟨K8.out, HC2.out⟩ ?_
  refine tk 6 (.pointer (some ⟨B, i * 58, none⟩)) ⟨K8.out, HC2.out⟩ ?_
  refine tk 7 (.pointer (some ⟨B, i * 58 + 31, none⟩)) ⟨K8.out, HC2.out⟩ ?_
  try simp only [Act.put, jj1, jj2, jj3, jj4, jj5, jj6]
  refine ta 8 (.agg (mk rma)) rfl (yi41 rfl (.tmp 22) rfl rfl hb (fun _ h => by have := h.2.m2; rwa [HRM.out] at this)) ⟨K8.out, HC2.out⟩ ?_
  refine tk 9 (.slice ua un uc) ⟨K8.out, HC2.out⟩ ?_
  try simp only [Act.put, jj1, jj2, jj3, jj4, jj5, jj6]
  refine wpAnyH_all (rs := [10, 11]) (by kernel_rfl) (by simp) (AllH.cons rfl (fun K hK => ?_) (AllH.cons rfl (fun K hK => ?_) AllH.nil))
  · skip
    go_simp
    refine (CC.out V3 L2.out).mono ?_
    rintro e w4 ⟨rfl, hw⟩
    have L4 : Hid (Below W.heap.size W w4) := L2.out.trans (hw.mono L2.out.size)
    have K84 := mkH (K8.out.keep hw)
    have HC4 := mkH (HC2.out.keep hw)
    clear hw
    dsimp only
    refine hK _ _ ⟨⟨K84.out, HC4.out⟩, ?_⟩
    clear hK K
    try simp only [Act.put, jj1, jj2, jj3, jj4, jj5, jj6]
    refine wpAnyH_all (rs := [11]) (by kernel_rfl) (by simp) (AllH.cons rfl (fun K hK => ?_) AllH.nil)
    obtain ⟨b9, hb9⟩ : ∃ b, w4.heap.size = b := ⟨_, rfl⟩
    obtain ⟨w5, hw5⟩ : ∃ x, x = w4.alloc (.cells (mk Z) 41) := ⟨_, rfl⟩
    have L5 : Hid (Below W.heap.size W w5) := by unfold Hid; rw [hw5]; exact L4.out.alloc L4.out.size _
    have K85 : Hid (Blk w5 b8 41 (mk m)) := by unfold Hid; rw [hw5]; exact K84.out.keep (bAlloc (Below.refl _ _) _)
    have HC5 : Hid (Nc w5 B (i * 58) r) := by unfold Hid; rw [hw5]; exact HC4.out.keep (bAlloc (Below.refl _ _) _)
    have K95 : Hid (Blk w5 b9 41 (mk Z)) := by unfold Hid; rw [hw5, ← hb9]; exact Blk.new _ 41 _
    have HB9 : Hid (W.heap.size ≤ b9) := by unfold Hid; rw [← hb9]; exact L4.out.size
    have HNB : Hid (b8 < b9) := by unfold Hid; rw [← hb9]; exact K84.out.lt
    go_simp
    try rw [hb9]
    rw [← hw5]
    clear hb9 hw5
    refine hK _ _ ⟨⟨K85.out, HC5.out⟩, ?_⟩
    clear hK K
    try simp only [Act.put, jj1, jj2, jj3, jj4, jj5, jj6]
    refine wpAnyH_all (rs := [12]) (by kernel_rfl) (by simp) (AllH.cons rfl (fun K hK => ?_) AllH.nil)
    refine do_st ty41 rfl (.tmp 9) (.tmp 25) rfl rfl (ml kn) rfl (by rw [ml_len, hkl]) (there41 hZ K95.out) (ml_one kn) ?_
    obtain ⟨w6, hw6⟩ : ∃ x, x = w5.setCells b9 0 (ml kn) := ⟨_, rfl⟩
    have L6 : Hid (Below W.heap.size W w6) := by unfold Hid; rw [hw6]; exact below_setCells HB9.out _ _ L5.out
    have K86 : Hid (Blk w6 b8 41 (mk m)) := by unfold Hid; rw [hw6]; exact blk_setCells_off (B := b9) (Nat.ne_of_lt HNB.out) _ _ K85.out
    have K96 : Hid (Blk w6 b9 41 (mk kn)) := by unfold Hid; rw [hw6]; exact put41 hkl hZ K95.out
    have HC6 : Hid (Nc w6 B (i * 58) r) := HC0.out.keep L6.out
    rw [← hw6]
    clear hw6 L5 K85 K95 HC5
    refine hK _ _ ⟨⟨K86.out, HC6.out⟩, ?_⟩
    clear hK K
    try simp only [Act.put, jj1, jj2, jj3, jj4, jj5, jj6]
    refine wpAnyH_done (by kernel_rfl) ?_ _
    have LO : Hid (lo ≤ W.heap.size) := Nat.le_trans (Nat.le_trans HW.out.hst.l0 (Nat.le_of_lt HW.out.hst.h0)) HW.out.hst.top
    have HBW : Hid (B < W.heap.size) := Nat.lt_of_lt_of_le HW.out.hst.h0 HW.out.hst.top
    have NB8 : Hid (b8 ≠ B) := fun e => by have := HB8.out; have := HBW.out; omega
    have NB9 : Hid (b9 ≠ B) := fun e => by have := HB9.out; have := HBW.out; omega
    have NP9 : Hid (b9 ≠ p) := fun e => by have := HB9.out; have := HW.out.box.lt; omega
    have NB9p : Hid (q0 ≤ b9) := Nat.le_trans HW.out.qt HB9.out
    have HOk := mkH HW.out.hst.gow.ok
    have L7 : Hid (Below W.heap.size W w6.drew) := L6.out.drew
    have R7 : Hid (Nrow w6.drew B H X) := HW.out.hst.row.keep L7.out
    have K87 : Hid (Blk w6.drew b8 41 (mk m)) := K86.out
    have K97 : Hid (Blk w6.drew b9 41 (mk kn)) := K96.out
    clear CC HC2 K8 L2
    go_upto_region 2 with fail
    refine wp_region_held (S := fun w' => Blk w' b8 41 (mk m) ∧ Blk w' b9 41 (mk kn)) (by kernel_rfl) ?_
    change wpAnyH _ _ _ _ _ _ _ _ (World.drew _)
    generalize w6.drew = V7 at *
    refine tk 0 (.pointer (some ⟨B, i * 58, none⟩)) ⟨K87.out, K97.out⟩ ?_
    refine tk 1 (.pointer (some ⟨B, i * 58, none⟩)) ⟨K87.out, K97.out⟩ ?_
    refine ta 2 (.agg (mk m)) rfl (yi41 rfl (.tmp 8) rfl rfl hm (fun _ h => range_blk h.1)) ⟨K87.out, K97.out⟩ ?_
    try simp only [Act.put, jj1, jj2, jj3, jj4, jj5, jj6]
    refine ta 3 (.agg (mk kn)) rfl (yi41 rfl (.tmp 9) rfl rfl hkl (fun _ h => range_blk h.2)) ⟨K87.out, K97.out⟩ ?_
    refine tk 4 (.pointer (some ⟨B, i * 58, none⟩)) ⟨K87.out, K97.out⟩ ?_
    refine tk 5 (.pointer (some ⟨B, i * 58 + 4, none⟩)) ⟨K87.out, K97.out⟩ ?_
    try simp only [Act.put, jj1, jj2, jj3, jj4, jj5, jj6]
    refine wpAnyH_all (rs := [6]) (by kernel_rfl) (by simp) (AllH.cons rfl (fun K hK => ?_) AllH.nil)
    refine do_st ty41 rfl (.tmp 31) (.tmp 28) rfl rfl (ml m) rfl (by rw [ml_len, hm]) (by have := R7.out.there (a := r.hd) (old := ml r.was) (b := ml r.made) HOk.out HI.out rfl; rw [ml_len, hrw.out] at this; exact this) (ml_one m) ?_
    have R8 := mkH (R7.out.put (r' := { r with was := m }) (a := r.hd) (old := ml r.was) (vs := ml m) (b := ml r.made) HOk.out HI.out rfl rfl (by rw [ml_len, ml_len, hrw.out, hm]))
    have G8 : Hid (V7.grownBy (V7.setCells B (i * 58 + r.hd.length) (ml m)) (some B)) := grown_setCells _ _ _
    have e4 : r.hd.length = 4 := rfl
    rw [e4] at R8 G8
    clear e4
    have K8b := mkH (K87.out.grown G8.out (fun e => by injection e with e; exact NB8.out e))
    have K9b := mkH (K97.out.grown G8.out (fun e => by injection e with e; exact NB9.out e))
    generalize V7.setCells B (i * 58 + 4) (ml m) = w8 at *
    refine hK _ _ ⟨⟨K8b.out, K9b.out⟩, ?_⟩
    clear hK K
    refine tk 7 (.pointer (some ⟨B, i * 58, none⟩)) ⟨K8b.out, K9b.out⟩ ?_
    try simp only [Act.put, jj1, jj2, jj3, jj4, jj5, jj6]
    refine tk 8 (.pointer (some ⟨B, i * 58 + 31, none⟩)) ⟨K8b.out, K9b.out⟩ ?_
    try simp only [Act.put, jj1, jj2, jj3, jj4, jj5, jj6]
    refine wpAnyH_all (rs := [9]) (by kernel_rfl) (by simp) (AllH.cons rfl (fun K hK => ?_) AllH.nil)
    have HI8 : Hid ((H.set i { r with was := m })[i]? = some { r with was := m }) := by unfold Hid; rw [List.getElem?_set_self (List.getElem?_eq_some_iff.1 HI.out).1]
    have HOk8 : Hid (Ok58 (H.set i { r with was := m })) := fun x hx => (List.mem_or_eq_of_mem_set hx).elim (fun h => HOk.out x h) (fun h => by rw [h]; exact Nr.cs_len hm hrm.out)
    refine do_st ty41 rfl (.tmp 33) (.tmp 29) rfl rfl (ml kn) rfl (by rw [ml_len, hkl]) (by have := R8.out.there (a := r.hd ++ ml m) (old := ml r.made) (b := []) HOk8.out HI8.out (by rw [List.append_nil]; rfl); rw [ml_len, hrm.out, List.length_append, ml_len, hm] at this; exact this) (ml_one kn) ?_
    have R9 := mkH (R8.out.put (r' := r.mk2 m kn) (a := r.hd ++ ml m) (old := ml r.made) (vs := ml kn) (b := []) HOk8.out HI8.out (by rw [List.append_nil]; rfl) (by rw [List.append_nil]; rfl) (by rw [ml_len, ml_len, hrm.out, hkl]))
    have G9 : Hid (w8.grownBy (w8.setCells B (i * 58 + (r.hd ++ ml m).length) (ml kn)) (some B)) := grown_setCells _ _ _
    have e4 : (r.hd ++ ml m).length = 31 := by rw [List.length_append, ml_len, hm]; rfl
    rw [e4, List.set_set] at R9
    rw [e4] at G9
    clear e4
    have K8c := mkH (K8b.out.grown G9.out (fun e => by injection e with e; exact NB8.out e))
    have K9c := mkH (K9b.out.grown G9.out (fun e => by injection e with e; exact NB9.out e))
    generalize w8.setCells B (i * 58 + 31) (ml kn) = w9 at *
    refine hK _ _ ⟨⟨K8c.out, K9c.out⟩, ?_⟩
    clear hK K
    try simp only [Act.put, jj1, jj2, jj3, jj4, jj5, jj6]
    refine wpAnyH_done (by kernel_rfl) ?_ _
    have hB9 : Hid (Below lo W w9) := ((L7.out.mono LO.out).grown G8.out (Nat.le_trans LO.out L7.out.size) (fun k hk => by injection hk with hk; have := HW.out.hst.l0; omega)).grown G9.out (by have := G8.out.size; exact Nat.le_trans LO.out (Nat.le_trans L7.out.size this)) (fun k hk => by injection hk with hk; have := HW.out.hst.l0; omega)
    have GB : Hid (V7.grownBy w9 (some B)) := G8.out.trans G9.out
    have hH7 : Hid (Hst lo p V7 B H X S) := HW.out.hst.keep L7.out
    have HM2 : Hid (Mw (r.mk2 m kn).was ∧ Mw (r.mk2 m kn).made) := ⟨HW.out.mw, HKw.out⟩
    have H9 : Hid (Hst lo p w9 B (H.set i (r.mk2 m kn)) X S) := ⟨R9.out, (hH7.out.gow.at GB.out).set HI.out ⟨rfl, rfl, rfl, rfl⟩ HM2.out.1 HM2.out.2, HW.out.hst.l0, HW.out.hst.h0, Nat.le_trans hH7.out.top GB.out.size⟩
    have hkB : Hid (Kept B (B + 1) V7 w9) := Kept.one GB.out
    have E9 : Hid (Ls (p + 1) q0 w9 (.slice va vn vc) F) := (HW.out.eds.keep L7.out).kept hkB.out (.inl (by have := HW.out.hst.h0; omega))
    have U9 : Hid (Ls q W.heap.size w9 (.slice ua un uc) F2) := (HL.out.keep L7.out).kept hkB.out (.inl (by have := HW.out.hst.h0; have := HW.out.pq; have := hqq.out.1; omega))
    have BX9 : Hid (Blk w9 p 100 (wca (some ⟨B, 0, none⟩) H.length k now (.slice va vn vc) cur m)) := (HW.out.box.keep L7.out).grown GB.out (fun e => by injection e with e; have := HW.out.hst.h0; omega)
    have K9d : Hid (Blk w9.drew b9 41 (mk kn)) := K9c.out
    have E10 : Hid (Ls (p + 1) q0 w9.drew (.slice va vn vc) F) := E9.out.keep (Below.refl _ _).drew
    have U10 : Hid (Ls q W.heap.size w9.drew (.slice ua un uc) F2) := U9.out.keep (Below.refl _ _).drew
    have BX10 : Hid (Blk w9.drew p 100 (wca (some ⟨B, 0, none⟩) H.length k now (.slice va vn vc) cur m)) := BX9.out
    have H10 : Hid (Hst lo p w9.drew B (H.set i (r.mk2 m kn)) X S) := H9.out.keep (Below.refl _ _).drew
    have GB10 : Hid (V7.grownBy w9.drew (some B)) := ⟨GB.out.os, GB.out.tape, GB.out.output, GB.out.size, GB.out.block⟩
    have B10 : Hid (Below lo W w9.drew) := hB9.out.drew
    have B10s : Hid (lo ≤ w9.drew.heap.size) := Nat.le_trans LO.out hB9.out.size
    have HQ10 : Hid (p < w9.drew.heap.size) := BX10.out.lt
    have WX : Hid (Wx w9.drew p B H.length k va vn vc now cur m) := wx_of hm BX10.out
    have FL := mkH HW.out.fl
    have QA : Hid (p + 1 ≤ q0) := HW.out.pq
    have QB : Hid (W.heap.size ≤ w9.drew.heap.size) := hB9.out.size
    have hbld := fun w x => b50b w x (vn + un) 
    clear hbld
    have hb50 : ∀ w a11 c11, (Instr.build 50 #[(0, .slice a11 (vn + un) c11), (1, .int .i64 cur2), (2, .agg (mk kn))]).run Try.prog w = .ok (.agg (cxa (.slice a11 (vn + un) c11) cur2 kn)) w := fun w a11 c11 => b50b w a11 (vn + un) c11 cur2 hkl
    clear R7 R8 R9 G8 G9 K8b K9b K8c K9c hB9 hH7 H9 hkB E9 U9 BX9 GB HM2
    go_upto_region 3 with fail
    refine wp_region_held (S := fun w' => Blk w' b9 41 (mk kn)) (by kernel_rfl) ?_
    change wpAnyH _ _ _ _ _ _ _ _ (World.drew _)
    generalize w9.drew = V10 at *
    refine tk 0 (.pointer (some ⟨p, 0, none⟩)) K9d.out ?_
    refine tk 1 (.pointer (some ⟨p, 0, none⟩)) K9d.out ?_
    refine tk 2 (.pointer (some ⟨p, 0, none⟩)) K9d.out ?_
    refine tk 3 (.pointer (some ⟨p, 2, none⟩)) K9d.out ?_
    try simp only [Act.put, jj1, jj2, jj3, jj4, jj5, jj6]
    refine tk 4 (.pointer (some ⟨p, 2, none⟩)) K9d.out ?_
    refine tk 6 (.slice ua un uc) K9d.out ?_
    refine tk 8 (.int .i64 cur2) K9d.out ?_
    refine ta 9 (.agg (mk kn)) rfl (yi41 rfl (.tmp 9) rfl rfl hkl (fun _ h => range_blk h)) K9d.out ?_
    try simp only [Act.put, jj1, jj2, jj3, jj4, jj5, jj6]
    refine wpAnyH_all (rs := [5]) (by kernel_rfl) (by simp) (AllH.cons rfl (fun K hK => ?_) AllH.nil)
    have x0 := cell_wx WX.out
    go_simp
    clear x0
    refine hK _ _ ⟨K9d.out, ?_⟩
    clear hK K
    try simp only [Act.put, jj1, jj2, jj3, jj4, jj5, jj6]
    refine wpAnyH_all (rs := [7]) (by kernel_rfl) (by simp) (AllH.cons rfl (fun K hK => ?_) AllH.nil)
    obtain ⟨v', w11, hr11, hL11, hg11, hv11, hn11, a11, c11, rfl⟩ := E10.out.app U10.out FL.out HF2.out QA.out hqq.out.1 hqq.out.2 QB.out hbn.out
    have L11 := mkH hL11
    have G11 := mkH hg11
    have HV := mkH hv11
    have HNX := mkH hn11
    have K9e := mkH (K9d.out.grown hg11 (fun e => by have h9 := hv11 b9 e.symm; have := NB9p.out; omega))
    have BX := mkH (BX10.out.grown hg11 (fun e => by have h9 := hv11 p e.symm; omega))
    refine st_ed rfl _ _ rfl _ _ rfl rfl (fun ty => hr11 ty) ?_
    clear hr11 hL11 hg11 hv11 hn11
    refine hK _ _ ⟨K9e.out, ?_⟩
    clear hK K
    try simp only [Act.put, jj1, jj2, jj3, jj4, jj5, jj6]
    refine ta 10 (.agg (cxa (.slice a11 (vn + un) c11) cur2 kn)) rfl (yi_bld rfl 50 _ rfl #[(0, .slice a11 (vn + un) c11), (1, .int .i64 cur2), (2, .agg (mk kn))] (by kernel_rfl) (fun w => hb50 w a11 c11)) K9e.out ?_
    refine tk 11 (.pointer (some ⟨p, 0, none⟩)) K9e.out ?_
    refine tk 12 (.pointer (some ⟨p, 2, none⟩)) K9e.out ?_
    try simp only [Act.put, jj1, jj2, jj3, jj4, jj5, jj6]
    refine wpAnyH_all (rs := [13]) (by kernel_rfl) (by simp) (AllH.cons rfl (fun K hK => ?_) AllH.nil)
    have BX2 := mkH (put_cx (K := kn) (cur2 := cur2) (a2 := a11) (n2 := vn + un) (c2 := c11) hm hkl BX.out)
    have G12 : Hid (w11.grownBy (w11.setCells p 2 (cx (.slice a11 (vn + un) c11) cur2 kn)) (some p)) := grown_setCells _ _ _
    have K9f := mkH (K9e.out.grown G12.out (fun e => by injection e with e; exact NP9.out e))
    refine do_st ty50 rfl (.tmp 46) (.tmp 44) rfl rfl (cx (.slice a11 (vn + un) c11) cur2 kn) rfl (cx_len hkl) (there_cx hm BX.out) cx_one ?_
    generalize w11.setCells p 2 (cx (.slice a11 (vn + un) c11) cur2 kn) = w12 at *
    refine hK _ _ ⟨K9f.out, ?_⟩
    clear hK K
    try simp only [Act.put, jj1, jj2, jj3, jj4, jj5, jj6]
    refine wpAnyH_done (by kernel_rfl) ?_ _
    go_wp2
    go_end0
    have hk11 : Kept (p + 1) q0 V10 w11 := ⟨G11.out.os, G11.out.tape, G11.out.output, G11.out.size, fun k hk ho => G11.out.block k hk (fun e => by have h9 := HV.out k e.symm; omega)⟩
    have hk12 : Kept p (p + 1) w11 w12 := Kept.one G12.out
    have hst9 : Hst lo p V10 B (H.set i (r.mk2 m kn)) X S := H10.out
    have hsz := HW.out.hst.h0
    have hlo := HW.out.hst.l0
    have hpq := HW.out.pq
    have hH : Hst lo p w12 B (H.set i (r.mk2 m kn)) X S := (hst9.kept hk11 (.inr (by omega))).kept hk12 (.inr (Nat.le_refl _))
    have h12 : w11.heap.size ≤ w12.heap.size := G12.out.size
    have hLs := (L11.out.kept hk12 (.inl (Nat.le_refl _)))
    have hBl : Below lo W w12 := (B10.out.grown G11.out B10s.out (fun k hk => by have h9 := HV.out k hk; omega)).grown G12.out (by have := G11.out.size; have := B10s.out; omega) (fun k hk => by injection hk with hk; omega)
    have hFr : Frm p B (.slice va vn vc) W w12 := fun g h1 h2 h3 h4 => by
      have s7 := L7.out.size
      have s10 := GB10.out.size
      have s11 := G11.out.size
      rw [G12.out.block g (by omega) (fun e => by injection e with e; exact h2 e), G11.out.block g (by omega) (fun e => h4 e.symm), GB10.out.block g (by omega) (fun e => by injection e with e; exact h3 e)]
      exact L7.out.block g h1
    have hNx : Nxt (.slice va vn vc) (.slice a11 (vn + un) c11) W := by
      rcases HNX.out with e | ⟨q9, e, hq9⟩
      · exact .inl e
      · exact .inr ⟨q9, e, Nat.le_trans QB.out hq9⟩
    refine ⟨⟨_, rfl⟩, hBl, hFr, a11, c11, hNx, ⟨?_, hH, ⟨⟨hLs.rs.own, fun i r hi g hg => Nat.lt_of_lt_of_le (hLs.rs.up i r hi g hg) h12, hLs.rs.far⟩, hLs.bnd⟩, by rw [List.length_append, FL.out, HF2.out], HKw.out, by have := G11.out.size; have := HQ10.out; omega, Nat.le_refl _, by rw [List.length_set]; exact HW.out.hk⟩⟩
    rw [List.length_set]
    exact BX2.out
  · skip
    obtain ⟨b9, hb9⟩ : ∃ b, V3.heap.size = b := ⟨_, rfl⟩
    obtain ⟨w3, hw3⟩ : ∃ x, x = V3.alloc (.cells (mk Z) 41) := ⟨_, rfl⟩
    have L3 : Hid (Below W.heap.size W w3) := by unfold Hid; rw [hw3]; exact L2.out.alloc L2.out.size _
    have K83 : Hid (Blk w3 b8 41 (mk m)) := by unfold Hid; rw [hw3]; exact K8.out.keep (bAlloc (Below.refl _ _) _)
    have HC3 : Hid (Nc w3 B (i * 58) r) := by unfold Hid; rw [hw3]; exact HC2.out.keep (bAlloc (Below.refl _ _) _)
    have K93 : Hid (Blk w3 b9 41 (mk Z)) := by unfold Hid; rw [hw3, ← hb9]; exact Blk.new _ 41 _
    have HB9 : Hid (W.heap.size ≤ b9) := by unfold Hid; rw [← hb9]; exact L2.out.size
    have HNB : Hid (b8 < b9) := by unfold Hid; rw [← hb9]; exact K8.out.lt
    go_simp
    try rw [hb9]
    rw [← hw3]
    clear hb9 hw3
    refine hK _ _ ⟨⟨K83.out, HC3.out⟩, ?_⟩
    clear hK K
    try simp only [Act.put, jj1, jj2, jj3, jj4, jj5, jj6]
    refine wpAnyH_all (rs := [10]) (by kernel_rfl) (by simp) (AllH.cons rfl (fun K hK => ?_) AllH.nil)
    go_simp
    refine (CC.out w3 L3.out).mono ?_
    rintro e w4 ⟨rfl, hw⟩
    have L4 : Hid (Below W.heap.size W w4) := L3.out.trans (hw.mono L3.out.size)
    have K84 := mkH (K83.out.keep hw)
    have HC4 := mkH (HC3.out.keep hw)
    have K94 := mkH (K93.out.keep hw)
    clear hw
    dsimp only
    refine hK _ _ ⟨⟨K84.out, HC4.out⟩, ?_⟩
    clear hK K
    try simp only [Act.put, jj1, jj2, jj3, jj4, jj5, jj6]
    refine wpAnyH_all (rs := [12]) (by kernel_rfl) (by simp) (AllH.cons rfl (fun K hK => ?_) AllH.nil)
    refine do_st ty41 rfl (.tmp 9) (.tmp 25) rfl rfl (ml kn) rfl (by rw [ml_len, hkl]) (there41 hZ K94.out) (ml_one kn) ?_
    obtain ⟨w6, hw6⟩ : ∃ x, x = w4.setCells b9 0 (ml kn) := ⟨_, rfl⟩
    have L6 : Hid (Below W.heap.size W w6) := by unfold Hid; rw [hw6]; exact below_setCells HB9.out _ _ L4.out
    have K86 : Hid (Blk w6 b8 41 (mk m)) := by unfold Hid; rw [hw6]; exact blk_setCells_off (B := b9) (Nat.ne_of_lt HNB.out) _ _ K84.out
    have K96 : Hid (Blk w6 b9 41 (mk kn)) := by unfold Hid; rw [hw6]; exact put41 hkl hZ K94.out
    have HC6 : Hid (Nc w6 B (i * 58) r) := HC0.out.keep L6.out
    rw [← hw6]
    clear hw6 L4 K84 K94 HC4
    refine hK _ _ ⟨⟨K86.out, HC6.out⟩, ?_⟩
    clear hK K
    try simp only [Act.put, jj1, jj2, jj3, jj4, jj5, jj6]
    refine wpAnyH_done (by kernel_rfl) ?_ _
    have LO : Hid (lo ≤ W.heap.size) := Nat.le_trans (Nat.le_trans HW.out.hst.l0 (Nat.le_of_lt HW.out.hst.h0)) HW.out.hst.top
    have HBW : Hid (B < W.heap.size) := Nat.lt_of_lt_of_le HW.out.hst.h0 HW.out.hst.top
    have NB8 : Hid (b8 ≠ B) := fun e => by have := HB8.out; have := HBW.out; omega
    have NB9 : Hid (b9 ≠ B) := fun e => by have := HB9.out; have := HBW.out; omega
    have NP9 : Hid (b9 ≠ p) := fun e => by have := HB9.out; have := HW.out.box.lt; omega
    have NB9p : Hid (q0 ≤ b9) := Nat.le_trans HW.out.qt HB9.out
    have HOk := mkH HW.out.hst.gow.ok
    have L7 : Hid (Below W.heap.size W w6.drew) := L6.out.drew
    have R7 : Hid (Nrow w6.drew B H X) := HW.out.hst.row.keep L7.out
    have K87 : Hid (Blk w6.drew b8 41 (mk m)) := K86.out
    have K97 : Hid (Blk w6.drew b9 41 (mk kn)) := K96.out
    clear CC HC2 K8 L2
    go_upto_region 2 with fail
    refine wp_region_held (S := fun w' => Blk w' b8 41 (mk m) ∧ Blk w' b9 41 (mk kn)) (by kernel_rfl) ?_
    change wpAnyH _ _ _ _ _ _ _ _ (World.drew _)
    generalize w6.drew = V7 at *
    refine tk 0 (.pointer (some ⟨B, i * 58, none⟩)) ⟨K87.out, K97.out⟩ ?_
    refine tk 1 (.pointer (some ⟨B, i * 58, none⟩)) ⟨K87.out, K97.out⟩ ?_
    try simp only [Act.put, jj1, jj2, jj3, jj4, jj5, jj6]
    refine ta 2 (.agg (mk m)) rfl (yi41 rfl (.tmp 8) rfl rfl hm (fun _ h => range_blk h.1)) ⟨K87.out, K97.out⟩ ?_
    refine ta 3 (.agg (mk kn)) rfl (yi41 rfl (.tmp 9) rfl rfl hkl (fun _ h => range_blk h.2)) ⟨K87.out, K97.out⟩ ?_
    refine tk 4 (.pointer (some ⟨B, i * 58, none⟩)) ⟨K87.out, K97.out⟩ ?_
    refine tk 5 (.pointer (some ⟨B, i * 58 + 4, none⟩)) ⟨K87.out, K97.out⟩ ?_
    try simp only [Act.put, jj1, jj2, jj3, jj4, jj5, jj6]
    refine wpAnyH_all (rs := [6]) (by kernel_rfl) (by simp) (AllH.cons rfl (fun K hK => ?_) AllH.nil)
    refine do_st ty41 rfl (.tmp 31) (.tmp 28) rfl rfl (ml m) rfl (by rw [ml_len, hm]) (by have := R7.out.there (a := r.hd) (old := ml r.was) (b := ml r.made) HOk.out HI.out rfl; rw [ml_len, hrw.out] at this; exact this) (ml_one m) ?_
    have R8 := mkH (R7.out.put (r' := { r with was := m }) (a := r.hd) (old := ml r.was) (vs := ml m) (b := ml r.made) HOk.out HI.out rfl rfl (by rw [ml_len, ml_len, hrw.out, hm]))
    have G8 : Hid (V7.grownBy (V7.setCells B (i * 58 + r.hd.length) (ml m)) (some B)) := grown_setCells _ _ _
    have e4 : r.hd.length = 4 := rfl
    rw [e4] at R8 G8
    clear e4
    have K8b := mkH (K87.out.grown G8.out (fun e => by injection e with e; exact NB8.out e))
    have K9b := mkH (K97.out.grown G8.out (fun e => by injection e with e; exact NB9.out e))
    generalize V7.setCells B (i * 58 + 4) (ml m) = w8 at *
    refine hK _ _ ⟨⟨K8b.out, K9b.out⟩, ?_⟩
    clear hK K
    try simp only [Act.put, jj1, jj2, jj3, jj4, jj5, jj6]
    refine tk 7 (.pointer (some ⟨B, i * 58, none⟩)) ⟨K8b.out, K9b.out⟩ ?_
    refine tk 8 (.pointer (some ⟨B, i * 58 + 31, none⟩)) ⟨K8b.out, K9b.out⟩ ?_
    try simp only [Act.put, jj1, jj2, jj3, jj4, jj5, jj6]
    refine wpAnyH_all (rs := [9]) (by kernel_rfl) (by simp) (AllH.cons rfl (fun K hK => ?_) AllH.nil)
    have HI8 : Hid ((H.set i { r with was := m })[i]? = some { r with was := m }) := by unfold Hid; rw [List.getElem?_set_self (List.getElem?_eq_some_iff.1 HI.out).1]
    have HOk8 : Hid (Ok58 (H.set i { r with was := m })) := fun x hx => (List.mem_or_eq_of_mem_set hx).elim (fun h => HOk.out x h) (fun h => by rw [h]; exact Nr.cs_len hm hrm.out)
    refine do_st ty41 rfl (.tmp 33) (.tmp 29) rfl rfl (ml kn) rfl (by rw [ml_len, hkl]) (by have := R8.out.there (a := r.hd ++ ml m) (old := ml r.made) (b := []) HOk8.out HI8.out (by rw [List.append_nil]; rfl); rw [ml_len, hrm.out, List.length_append, ml_len, hm] at this; exact this) (ml_one kn) ?_
    have R9 := mkH (R8.out.put (r' := r.mk2 m kn) (a := r.hd ++ ml m) (old := ml r.made) (vs := ml kn) (b := []) HOk8.out HI8.out (by rw [List.append_nil]; rfl) (by rw [List.append_nil]; rfl) (by rw [ml_len, ml_len, hrm.out, hkl]))
    have G9 : Hid (w8.grownBy (w8.setCells B (i * 58 + (r.hd ++ ml m).length) (ml kn)) (some B)) := grown_setCells _ _ _
    have e4 : (r.hd ++ ml m).length = 31 := by rw [List.length_append, ml_len, hm]; rfl
    rw [e4, List.set_set] at R9
    rw [e4] at G9
    clear e4
    have K8c := mkH (K8b.out.grown G9.out (fun e => by injection e with e; exact NB8.out e))
    have K9c := mkH (K9b.out.grown G9.out (fun e => by injection e with e; exact NB9.out e))
    generalize w8.setCells B (i * 58 + 31) (ml kn) = w9 at *
    refine hK _ _ ⟨⟨K8c.out, K9c.out⟩, ?_⟩
    clear hK K
    try simp only [Act.put, jj1, jj2, jj3, jj4, jj5, jj6]
    refine wpAnyH_done (by kernel_rfl) ?_ _
    have hB9 : Hid (Below lo W w9) := ((L7.out.mono LO.out).grown G8.out (Nat.le_trans LO.out L7.out.size) (fun k hk => by injection hk with hk; have := HW.out.hst.l0; omega)).grown G9.out (by have := G8.out.size; exact Nat.le_trans LO.out (Nat.le_trans L7.out.size this)) (fun k hk => by injection hk with hk; have := HW.out.hst.l0; omega)
    have GB : Hid (V7.grownBy w9 (some B)) := G8.out.trans G9.out
    have hH7 : Hid (Hst lo p V7 B H X S) := HW.out.hst.keep L7.out
    have HM2 : Hid (Mw (r.mk2 m kn).was ∧ Mw (r.mk2 m kn).made) := ⟨HW.out.mw, HKw.out⟩
    have H9 : Hid (Hst lo p w9 B (H.set i (r.mk2 m kn)) X S) := ⟨R9.out, (hH7.out.gow.at GB.out).set HI.out ⟨rfl, rfl, rfl, rfl⟩ HM2.out.1 HM2.out.2, HW.out.hst.l0, HW.out.hst.h0, Nat.le_trans hH7.out.top GB.out.size⟩
    have hkB : Hid (Kept B (B + 1) V7 w9) := Kept.one GB.out
    have E9 : Hid (Ls (p + 1) q0 w9 (.slice va vn vc) F) := (HW.out.eds.keep L7.out).kept hkB.out (.inl (by have := HW.out.hst.h0; omega))
    have U9 : Hid (Ls q W.heap.size w9 (.slice ua un uc) F2) := (HL.out.keep L7.out).kept hkB.out (.inl (by have := HW.out.hst.h0; have := HW.out.pq; have := hqq.out.1; omega))
    have BX9 : Hid (Blk w9 p 100 (wca (some ⟨B, 0, none⟩) H.length k now (.slice va vn vc) cur m)) := (HW.out.box.keep L7.out).grown GB.out (fun e => by injection e with e; have := HW.out.hst.h0; omega)
    have K9d : Hid (Blk w9.drew b9 41 (mk kn)) := K9c.out
    have E10 : Hid (Ls (p + 1) q0 w9.drew (.slice va vn vc) F) := E9.out.keep (Below.refl _ _).drew
    have U10 : Hid (Ls q W.heap.size w9.drew (.slice ua un uc) F2) := U9.out.keep (Below.refl _ _).drew
    have BX10 : Hid (Blk w9.drew p 100 (wca (some ⟨B, 0, none⟩) H.length k now (.slice va vn vc) cur m)) := BX9.out
    have H10 : Hid (Hst lo p w9.drew B (H.set i (r.mk2 m kn)) X S) := H9.out.keep (Below.refl _ _).drew
    have GB10 : Hid (V7.grownBy w9.drew (some B)) := ⟨GB.out.os, GB.out.tape, GB.out.output, GB.out.size, GB.out.block⟩
    have B10 : Hid (Below lo W w9.drew) := hB9.out.drew
    have B10s : Hid (lo ≤ w9.drew.heap.size) := Nat.le_trans LO.out hB9.out.size
    have HQ10 : Hid (p < w9.drew.heap.size) := BX10.out.lt
    have WX : Hid (Wx w9.drew p B H.length k va vn vc now cur m) := wx_of hm BX10.out
    have FL := mkH HW.out.fl
    have QA : Hid (p + 1 ≤ q0) := HW.out.pq
    have QB : Hid (W.heap.size ≤ w9.drew.heap.size) := hB9.out.size
    have hbld := fun w x => b50b w x (vn + un) 
    clear hbld
    have hb50 : ∀ w a11 c11, (Instr.build 50 #[(0, .slice a11 (vn + un) c11), (1, .int .i64 cur2), (2, .agg (mk kn))]).run Try.prog w = .ok (.agg (cxa (.slice a11 (vn + un) c11) cur2 kn)) w := fun w a11 c11 => b50b w a11 (vn + un) c11 cur2 hkl
    clear R7 R8 R9 G8 G9 K8b K9b K8c K9c hB9 hH7 H9 hkB E9 U9 BX9 GB HM2
    go_upto_region 3 with fail
    refine wp_region_held (S := fun w' => Blk w' b9 41 (mk kn)) (by kernel_rfl) ?_
    change wpAnyH _ _ _ _ _ _ _ _ (World.drew _)
    generalize w9.drew = V10 at *
    refine tk 0 (.pointer (some ⟨p, 0, none⟩)) K9d.out ?_
    refine tk 1 (.pointer (some ⟨p, 0, none⟩)) K9d.out ?_
    refine tk 2 (.pointer (some ⟨p, 0, none⟩)) K9d.out ?_
    try simp only [Act.put, jj1, jj2, jj3, jj4, jj5, jj6]
    refine tk 3 (.pointer (some ⟨p, 2, none⟩)) K9d.out ?_
    refine tk 4 (.pointer (some ⟨p, 2, none⟩)) K9d.out ?_
    refine tk 6 (.slice ua un uc) K9d.out ?_
    refine tk 8 (.int .i64 cur2) K9d.out ?_
    try simp only [Act.put, jj1, jj2, jj3, jj4, jj5, jj6]
    refine ta 9 (.agg (mk kn)) rfl (yi41 rfl (.tmp 9) rfl rfl hkl (fun _ h => range_blk h)) K9d.out ?_
    try simp only [Act.put, jj1, jj2, jj3, jj4, jj5, jj6]
    refine wpAnyH_all (rs := [5]) (by kernel_rfl) (by simp) (AllH.cons rfl (fun K hK => ?_) AllH.nil)
    have x0 := cell_wx WX.out
    go_simp
    clear x0
    refine hK _ _ ⟨K9d.out, ?_⟩
    clear hK K
    try simp only [Act.put, jj1, jj2, jj3, jj4, jj5, jj6]
    refine wpAnyH_all (rs := [7]) (by kernel_rfl) (by simp) (AllH.cons rfl (fun K hK => ?_) AllH.nil)
    obtain ⟨v', w11, hr11, hL11, hg11, hv11, hn11, a11, c11, rfl⟩ := E10.out.app U10.out FL.out HF2.out QA.out hqq.out.1 hqq.out.2 QB.out hbn.out
    have L11 := mkH hL11
    have G11 := mkH hg11
    have HV := mkH hv11
    have HNX := mkH hn11
    have K9e := mkH (K9d.out.grown hg11 (fun e => by have h9 := hv11 b9 e.symm; have := NB9p.out; omega))
    have BX := mkH (BX10.out.grown hg11 (fun e => by have h9 := hv11 p e.symm; omega))
    refine st_ed rfl _ _ rfl _ _ rfl rfl (fun ty => hr11 ty) ?_
    clear hr11 hL11 hg11 hv11 hn11
    refine hK _ _ ⟨K9e.out, ?_⟩
    clear hK K
    refine ta 10 (.agg (cxa (.slice a11 (vn + un) c11) cur2 kn)) rfl (yi_bld rfl 50 _ rfl #[(0, .slice a11 (vn + un) c11), (1, .int .i64 cur2), (2, .agg (mk kn))] (by kernel_rfl) (fun w => hb50 w a11 c11)) K9e.out ?_
    refine tk 11 (.pointer (some ⟨p, 0, none⟩)) K9e.out ?_
    refine tk 12 (.pointer (some ⟨p, 2, none⟩)) K9e.out ?_
    try simp only [Act.put, jj1, jj2, jj3, jj4, jj5, jj6]
    refine wpAnyH_all (rs := [13]) (by kernel_rfl) (by simp) (AllH.cons rfl (fun K hK => ?_) AllH.nil)
    have BX2 := mkH (put_cx (K := kn) (cur2 := cur2) (a2 := a11) (n2 := vn + un) (c2 := c11) hm hkl BX.out)
    have G12 : Hid (w11.grownBy (w11.setCells p 2 (cx (.slice a11 (vn + un) c11) cur2 kn)) (some p)) := grown_setCells _ _ _
    have K9f := mkH (K9e.out.grown G12.out (fun e => by injection e with e; exact NP9.out e))
    refine do_st ty50 rfl (.tmp 46) (.tmp 44) rfl rfl (cx (.slice a11 (vn + un) c11) cur2 kn) rfl (cx_len hkl) (there_cx hm BX.out) cx_one ?_
    generalize w11.setCells p 2 (cx (.slice a11 (vn + un) c11) cur2 kn) = w12 at *
    refine hK _ _ ⟨K9f.out, ?_⟩
    clear hK K
    try simp only [Act.put, jj1, jj2, jj3, jj4, jj5, jj6]
    refine wpAnyH_done (by kernel_rfl) ?_ _
    go_wp2
    go_end0
    have hk11 : Kept (p + 1) q0 V10 w11 := ⟨G11.out.os, G11.out.tape, G11.out.output, G11.out.size, fun k hk ho => G11.out.block k hk (fun e => by have h9 := HV.out k e.symm; omega)⟩
    have hk12 : Kept p (p + 1) w11 w12 := Kept.one G12.out
    have hst9 : Hst lo p V10 B (H.set i (r.mk2 m kn)) X S := H10.out
    have hsz := HW.out.hst.h0
    have hlo := HW.out.hst.l0
    have hpq := HW.out.pq
    have hH : Hst lo p w12 B (H.set i (r.mk2 m kn)) X S := (hst9.kept hk11 (.inr (by omega))).kept hk12 (.inr (Nat.le_refl _))
    have h12 : w11.heap.size ≤ w12.heap.size := G12.out.size
    have hLs := (L11.out.kept hk12 (.inl (Nat.le_refl _)))
    have hBl : Below lo W w12 := (B10.out.grown G11.out B10s.out (fun k hk => by have h9 := HV.out k hk; omega)).grown G12.out (by have := G11.out.size; have := B10s.out; omega) (fun k hk => by injection hk with hk; omega)
    have hFr : Frm p B (.slice va vn vc) W w12 := fun g h1 h2 h3 h4 => by
      have s7 := L7.out.size
      have s10 := GB10.out.size
      have s11 := G11.out.size
      rw [G12.out.block g (by omega) (fun e => by injection e with e; exact h2 e), G11.out.block g (by omega) (fun e => h4 e.symm), GB10.out.block g (by omega) (fun e => by injection e with e; exact h3 e)]
      exact L7.out.block g h1
    have hNx : Nxt (.slice va vn vc) (.slice a11 (vn + un) c11) W := by
      rcases HNX.out with e | ⟨q9, e, hq9⟩
      · exact .inl e
      · exact .inr ⟨q9, e, Nat.le_trans QB.out hq9⟩
    refine ⟨⟨_, rfl⟩, hBl, hFr, a11, c11, hNx, ⟨?_, hH, ⟨⟨hLs.rs.own, fun i r hi g hg => Nat.lt_of_lt_of_le (hLs.rs.up i r hi g hg) h12, hLs.rs.far⟩, hLs.bnd⟩, by rw [List.length_append, FL.out, HF2.out], HKw.out, by have := G11.out.size; have := HQ10.out; omega, Nat.le_refl _, by rw [List.length_set]; exact HW.out.hk⟩⟩
    rw [List.length_set]
    exact BX2.out
end Go.Proofs.Ytaahklapoppgaaa

