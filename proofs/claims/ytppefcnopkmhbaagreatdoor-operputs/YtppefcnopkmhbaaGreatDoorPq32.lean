/- Rap9, Psh -/
import Derived.Test.YtppefcnopkmhbaaGreatDoorPq31
import Derived.Test.YtppefcnopkmhbaaGreatDoorPq08
import Derived.Test.YtppefcnopkmhbaaGreatDoorPq18
import Derived.Test.YtppefcnopkmhbaaGreatDoorPq02
import Derived.Test.YtppefcnopkmhbaaGreatDoorPq09
namespace Go.Proofs.YtppefcnopkmhbaaGreatDoor
open Go.RowKit

set_option maxRecDepth 8000
theorem run_room (k : Nat) (hk : k ≤ 140737488355328) : ∃ CS : Array Value, CS.size = k * 1 ∧ ∀ W : World, (Instr.makeSlice 22 (.int .i64 0) (.int .i64 (k : Int))).run Tryz.prog W = .ok (.slice (some ⟨W.heap.size, 0, none⟩) 0 k) (W.alloc (.cells CS 5)) := by
  obtain ⟨i0, hi, hz0, hz1, hz2⟩ := info_parts info5
  refine ⟨madeCells (Value.int .u8 0).cells k, by simp [madeCells], fun W => ?_⟩
  have := run_make (P := Tryz.prog) W 22 5 i0 (.int .u8 0) Tryz.underlying22 hi hz0 .i64 .i64 0 (k : Int) (by omega) (by omega) (by rw [hz2]; omega) (by omega)
  rw [hz1, Nat.mul_one, show (k : Int).toNat = k by omega] at this
  exact this
set_option maxHeartbeats 8000000 in
theorem rapply_any (ao : Option Addr) (n c : Nat) (T : List UInt8) (eo : Option Addr) (en ec : Nat) (E : List Er) (w : World) (hT : Hid (Tx w ao n c T)) (hb : n ≤ 140737488355328) (HE : Hid (Edz w eo E)) (hn : E.length = en) (heb : en ≤ 140737488355328) (HM : Hid (Mod T (E.map Er.d))) :
    Calls Tryz.prog 52 #[.slice ao n c, .slice eo en ec] w fun e w' => ApG (app T (E.map Er.d)) w e w' := by
  have HN := Hid.mk' hn
  have hTl := Hid.mk' hT.out.len
  clear hn
  go_enter Tryz.func52, Tryz.ntmps52
  go_wp2_with (at_builtin; refine append_big rfl (.tmp 10) (.tmp 11) rfl w.heap.size (.slice (some ⟨w.heap.size, 0, none⟩) 0 0) 0 [] rfl (World.ownsRow_made w #[] 0 (Nat.le_refl _) (Nat.zero_le _) rfl) (.slice ao n c) n (bv T) rfl ((hT.out.keep (bAlloc (Below.refl _ _) _)).srv) (by rw [bv_length]; exact hTl.out) (bv_one T) (by omega) (by omega) (by simp) ?_)
  intro v0 w0 hown hgrow _
  have O0 : Hid (w0.ownsRow w.heap.size 5 1 v0 T.length (bv T)) := by unfold Hid; rw [hTl.out]; simpa using hown
  have B0 : Hid (Below w.heap.size w w0) := ((Below.refl _ w).alloc (Nat.le_refl _) _).grown hgrow (by simp) (by intro k hk; simp [Value.ownBlock] at hk; omega)
  clear hown hgrow hb
  go_wp2_with fail
  go_loopg [6, 7, 8, 9] en (fun m x6 x7 x8 x9 wx => ∃ (i : Nat) (V : List UInt8), x7 = .int .i64 (i : Int) ∧ i + m = en ∧ Hid (app T ((E.map Er.d).take i) = some V) ∧ Hid (wx.ownsRow w.heap.size 5 1 x6 V.length (bv V)) ∧ Hid (Below w.heap.size w wx))
  case atStart => exact ⟨0, T, rfl, by omega, rfl, O0.out, B0.out⟩
  case round =>
    obtain ⟨i, V, rfl, him, HV, KO, KB⟩ := hrel
    obtain ⟨go, hgo⟩ : ∃ g, g = gk - 1 := ⟨_, rfl⟩
    clear O0 B0
    by_cases hi : i < en
    · have hi' : (i : Int) < (en : Int) := by omega
      have hi0 : (0 : Int) ≤ (i : Int) := by omega
      obtain ⟨r, hr⟩ : ∃ r, E[i]? = some r := ⟨_, List.getElem?_eq_getElem (by have := HN.out; omega)⟩
      obtain ⟨g, o, rfl, h3⟩ := HE.out.row.ed3 hr
      have hEt0 := HE.out.txs i r hr
      have HET0 := Hid.mk' hEt0
      have h4 := h3.keep KB.out
      have HR := Hid.mk' hr
      have HVl : Hid (V.length ≤ 140737488355328) := HM.out i V HV.out
      obtain ⟨x6a, x6c, e6, hTx6⟩ := own_tx KO.out (by have := HVl.out; omega)
      subst e6
      have TX6 := Hid.mk' hTx6
      have hfd : ∃ b, fitB V r.d = b := ⟨_, rfl⟩
      obtain ⟨b, hb⟩ := hfd
      have HF := Hid.mk' hb
      have CF0 := fun W (hW : Below wr.heap.size wr W) => rfits_any x6a V.length x6c V r W (hTx6.keep hW) ((hEt0.keep KB.out).keep hW)
      rw [hb] at CF0
      obtain ⟨ra, rp1, ro, rc1, rO, rp2, rn, rc2, rN⟩ := r
      have CF : Hid (∀ W, Below wr.heap.size wr W → Calls Tryz.prog 87 #[.slice x6a V.length x6c, .agg #[.int .i64 ra, .slice rp1 ro rc1, .slice rp2 rn rc2]] W fun e w' => e = .returned (.bool b) ∧ Below W.heap.size W w') := CF0
      dsimp only at h4
      have t0 := h4.e0
      have t1 := h4.e1
      have t2 := h4.e2
      clear hr h3 h4 hEt0 hTx6 CF0 hb
      obtain ⟨w1, hw1⟩ : ∃ w1, w1 = wr.alloc (.cells #[.int .i64 ra, .slice rp1 ro rc1, .slice rp2 rn rc2] 65) := ⟨_, rfl⟩
      have B1 : Hid (Below wr.heap.size wr w1) := by unfold Hid; rw [hw1]; exact bAlloc (Below.refl _ _) _
      have Y0 : Hid (Blk w1 wr.heap.size 65 #[.int .i64 ra, .slice rp1 ro rc1, .slice rp2 rn rc2]) := by unfold Hid; rw [hw1]; exact Blk.new _ _ _
      go_upto_region 6 with fail
      rw [← hw1]
      clear hw1 t0 t1 t2
      have y0 : w1.cell? ⟨wr.heap.size, 0, none⟩ = some (.int .i64 ra) := Y0.out.cell rfl
      have y1 : w1.cell? ⟨wr.heap.size, 1, none⟩ = some (.slice rp1 ro rc1) := Y0.out.cell rfl
      have y2 : w1.cell? ⟨wr.heap.size, 2, none⟩ = some (.slice rp2 rn rc2) := Y0.out.cell rfl
      go_wp2_with fail
      refine (CF.out w1 B1.out).mono ?_
      rintro e w2 ⟨rfl, hb2⟩
      have B2 := Hid.mk' (bT B1.out hb2)
      have Y2 := Hid.mk' (Y0.out.keep hb2)
      have L2 := Hid.mk' (bT KB.out B2.out)
      clear hb2 CF y0 y1 y2 Y0 B1
      dsimp only
      cases b with
      | false =>
        have HZ : Hid (app T (E.map Er.d) = none) := app_stop HV.out HR.out HF.out
        go_wp2
        exact bodyPost_ret (v := .tuple #[.slice none 0 0, .int .i64 170]) (by simp [results, Tryz.results52]) rfl (.inr ⟨HZ.out, rfl, L2.out⟩)
      | true =>
        obtain ⟨p, hp1, hp2, hp3⟩ := fitB_iff.1 HF.out
        have hpl := fit_len hp2 hp3
        have hol := HET0.out.t1.len
        have hnl := HET0.out.t2.len
        have hnb := HET0.out.b2
        dsimp only [Er.d] at hp1 hp3 hpl hol hnl hnb
        subst hp1
        obtain ⟨j, hj⟩ : ∃ j, j = p + ro := ⟨_, rfl⟩
        have hVl := HVl.out
        have hnx := app_next HV.out HR.out HF.out
        have hst : stp V (Er.d ⟨(p : Int), rp1, ro, rc1, rO, rp2, rn, rc2, rN⟩) = V.take p ++ rN ++ V.drop j := by
          show V.take p ++ rN ++ V.drop (p + rO.length) = _
          rw [hj, hol]
        rw [hst] at hnx
        have hlen : (V.take p ++ rN ++ V.drop j).length = p + rn + (V.length - j) := by simp only [List.length_append, List.length_take, List.length_drop]; omega
        have hbd := HM.out (i + 1) _ hnx
        obtain ⟨vn, hvn⟩ : ∃ vn, vn = V.length := ⟨_, rfl⟩
        obtain ⟨vo, hvo⟩ : ∃ vo, vo = vn - ro := ⟨_, rfl⟩
        obtain ⟨tot, htot⟩ : ∃ tot, tot = p + rn + (vn - j) := ⟨_, rfl⟩
        have hw9 : IntKind.i64.wrap ((p : Int) + (ro : Int)) = (j : Int) := by rw [IntKind.wrap_i64]; omega
        have hw7 : IntKind.i64.wrap ((vn : Int) - (ro : Int)) = (vo : Int) := by rw [IntKind.wrap_i64]; omega
        have hw6 : IntKind.i64.wrap ((vo : Int) + (rn : Int)) = (tot : Int) := by rw [IntKind.wrap_i64]; omega
        obtain ⟨CS, hCS, hmk⟩ := run_room tot (by omega)
        have HCS := Hid.mk' hCS
        have TX2 := TX6.out.keep B2.out
        rw [← hvn] at TX2
        obtain ⟨ah, ch, hsh, hTh⟩ := sl_h TX2 (m := p) (by omega)
        obtain ⟨al, cl, hsl, hTl2⟩ := sl_l TX2 (lo := j) (z := (j : Int)) (by omega) rfl
        have TH := Hid.mk' hTh
        have TL := Hid.mk' hTl2
        have TN : Hid (Tx w2 rp2 rn rc2 rN) := HET0.out.t2.keep L2.out
        have BD : Hid (p + rn + (vn - j) ≤ 140737488355328 ∧ (V.take p).length = p ∧ rN.length = rn ∧ (V.drop j).length = vn - j ∧ rn ≤ 140737488355328 ∧ tot ≤ 140737488355328) := ⟨by omega, by rw [List.length_take]; omega, hnl, by rw [List.length_drop]; omega, hnb, by omega⟩
        have HNX := Hid.mk' hnx
        have HLN : Hid ((V.take p ++ rN ++ V.drop j).length = p + rn + (vn - j)) := by unfold Hid; rw [hlen, hvn]
        have y0 : w2.cell? ⟨wr.heap.size, 0, none⟩ = some (.int .i64 (p : Int)) := Y2.out.cell rfl
        have y1 : w2.cell? ⟨wr.heap.size, 1, none⟩ = some (.slice rp1 ro rc1) := Y2.out.cell rfl
        have y2 : w2.cell? ⟨wr.heap.size, 2, none⟩ = some (.slice rp2 rn rc2) := Y2.out.cell rfl
        have hw8 : IntKind.i64.wrap ((i : Int) + 1) = ((i + 1 : Nat) : Int) := by rw [IntKind.wrap_i64]; omega
        rw [← hvn]
        clear hnx hlen hbd hst hj hVl hpl hol hnl hnb hp2 hp3 HF hCS TX2 hTh hTl2 hvn hvo htot TX6 KO
        go_upto_region 9 with fail
        have M0 : Hid ((w2.alloc (.cells CS 5)).ownsRow w2.heap.size 5 1 (.slice (some ⟨w2.heap.size, 0, none⟩) 0 tot) 0 []) := World.ownsRow_made w2 CS tot (Nat.le_refl _) (by have := BD.out; unfold maxLen; omega) HCS.out
        have MB : Hid (Below w2.heap.size w2 (w2.alloc (.cells CS 5))) := bAlloc (Below.refl _ _) _
        have Y3 := Hid.mk' (Y2.out.keep MB.out)
        obtain ⟨q, hq⟩ : ∃ q, q = w2.heap.size := ⟨_, rfl⟩
        rw [← hq] at M0 ⊢
        have HQ := Hid.mk' hq
        clear hq y0 y1 y2 hmk HCS
        generalize w2.alloc (.cells CS 5) = w3 at *
        have y0 : w3.cell? ⟨wr.heap.size, 0, none⟩ = some (.int .i64 (p : Int)) := Y3.out.cell rfl
        go_upto_region 10 with (at_builtin; refine append_big rfl (.tmp 38) (.tmp 42) rfl q (.slice (some ⟨q, 0, none⟩) 0 tot) 0 [] rfl M0.out (.slice ah p ch) p (bv (V.take p)) rfl ((TH.out.keep MB.out).srv) (by rw [bv_length]; exact BD.out.2.1) (bv_one _) (by have := BD.out.1; omega) (by have := BD.out.1; omega) (by rw [HQ.out]; exact MB.out.size) ?_)
        intro v4 w4 hO4 hG4 _
        have O4 : Hid (w4.ownsRow q 5 1 v4 p (bv (V.take p))) := by unfold Hid; simpa using hO4
        have B4 : Hid (Below w2.heap.size w2 w4) := MB.out.grown hG4 MB.out.size (fun k hk => by have := (M0.out.lt k hk).1; rw [HQ.out] at this; exact this)
        have Y4 := Hid.mk' (Y2.out.keep B4.out)
        clear hO4 hG4 y0 M0 Y3
        have y2 : w4.cell? ⟨wr.heap.size, 2, none⟩ = some (.slice rp2 rn rc2) := Y4.out.cell rfl
        go_upto_region 11 with (at_builtin; refine append_big rfl (.tmp 44) (.tmp 46) rfl q v4 p (bv (V.take p)) rfl O4.out (.slice rp2 rn rc2) rn (bv rN) rfl ((TN.out.keep B4.out).srv) (by rw [bv_length]; exact BD.out.2.2.1) (bv_one _) (by have := BD.out.1; omega) BD.out.2.2.2.2.1 (by rw [HQ.out]; exact B4.out.size) ?_)
        intro v5 w5 hO5 hG5 _
        have O5 : Hid (w5.ownsRow q 5 1 v5 (p + rn) (bv (V.take p ++ rN))) := by unfold Hid; rw [bv_append]; exact hO5
        have B5 : Hid (Below w2.heap.size w2 w5) := B4.out.grown hG5 B4.out.size (fun k hk => by have := (O4.out.lt k hk).1; rw [HQ.out] at this; exact this)
        have Y5 := Hid.mk' (Y2.out.keep B5.out)
        clear hO5 hG5 y2 O4 Y4
        have y0 : w5.cell? ⟨wr.heap.size, 0, none⟩ = some (.int .i64 (p : Int)) := Y5.out.cell rfl
        have y1 : w5.cell? ⟨wr.heap.size, 1, none⟩ = some (.slice rp1 ro rc1) := Y5.out.cell rfl
        go_upto_region 12 with (at_builtin; refine append_big rfl (.tmp 48) (.tmp 56) rfl q v5 (p + rn) (bv (V.take p ++ rN)) rfl O5.out (.slice al (vn - j) cl) (vn - j) (bv (V.drop j)) rfl ((TL.out.keep B5.out).srv) (by rw [bv_length]; exact BD.out.2.2.2.1) (bv_one _) (by have := BD.out.1; omega) (by have := BD.out.1; omega) (by rw [HQ.out]; exact B5.out.size) ?_)
        intro v6 w6 hO6 hG6 _
        have L6 : Hid (Below w.heap.size w w6) := bT L2.out (B5.out.grown hG6 B5.out.size (fun k hk => by have := (O5.out.lt k hk).1; rw [HQ.out] at this; exact this))
        have O6 : Hid (w6.ownsRow w.heap.size 5 1 v6 (V.take p ++ rN ++ V.drop j).length (bv (V.take p ++ rN ++ V.drop j))) := by unfold Hid; rw [HLN.out, bv_append (V.take p ++ rN)]; exact own_lower hO6 (by rw [HQ.out]; exact L2.out.size)
        clear hO6 hG6 y0 y1 O5 Y5
        go_wp2
        go_roundg go
        case measure => omega
        case rel => exact ⟨i + 1, _, by go_num, by omega, HNX.out, O6.out, L6.out⟩
    · have hi' : ¬ (i : Int) < (en : Int) := by omega
      have HF : Hid (app T (E.map Er.d) = some V) := by
        have h1 := HV.out
        rw [List.take_of_length_le (by rw [List.length_map]; have := HN.out; omega)] at h1
        exact h1
      clear hgo
      go_wp2
      exact bodyPost_ret (v := .tuple #[u6, .int .i64 0]) (by simp [results, Tryz.results52]) rfl (.inl ⟨V, _, HF.out, rfl, KO.out, KB.out⟩)
end Go.Proofs.YtppefcnopkmhbaaGreatDoor

namespace Go.Proofs.YtppefcnopkmhbaaGreatDoor
open Go.RowKit

set_option maxRecDepth 8000
end Go.Proofs.YtppefcnopkmhbaaGreatDoor
