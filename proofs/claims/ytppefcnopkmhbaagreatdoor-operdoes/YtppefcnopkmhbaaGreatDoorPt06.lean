/- App, Rap9, Line, Fns -/
import Derived.Test.YtppefcnopkmhbaaGreatDoorPt04
import Derived.Test.YtppefcnopkmhbaaGreatDoorPt05
import Derived.Test.YtppefcnopkmhbaaGreatDoorPt00
namespace Go.Proofs.YtppefcnopkmhbaaGreatDoor
open Go.RowKit

set_option maxRecDepth 8000
/-- what Apply gives -/
def ApG (o : Option (List UInt8)) (w : World) (e : Ending) (w' : World) : Prop :=
  (∃ U v, o = some U ∧ e = .returned (.tuple #[v, .int .i64 0]) ∧ w'.ownsRow w.heap.size 5 1 v U.length (bv U) ∧ Below w.heap.size w w') ∨ (o = none ∧ e = .returned (.tuple #[.slice none 0 0, .int .i64 170]) ∧ Below w.heap.size w w')
/-- no text on the way is too long -/
def Mod (T : List UInt8) (D : List Ed) : Prop := ∀ k U, app T (D.take k) = some U → U.length ≤ 140737488355328
theorem app_next {T V : List UInt8} {E : List Er} {i : Nat} {r : Er} (h : app T ((E.map Er.d).take i) = some V) (hr : E[i]? = some r) (hf : fitB V r.d = true) : app T ((E.map Er.d).take (i + 1)) = some (stp V r.d) := by
  have hd : (E.map Er.d)[i]? = some r.d := by rw [List.getElem?_map, hr]; rfl
  obtain ⟨hi, e⟩ := List.getElem?_eq_some_iff.1 hd
  rw [List.take_succ_eq_append_getElem hi, e, app_snoc h, if_pos hf]
theorem app_stop {T V : List UInt8} {E : List Er} {i : Nat} {r : Er} (h : app T ((E.map Er.d).take i) = some V) (hr : E[i]? = some r) (hf : fitB V r.d = false) : app T (E.map Er.d) = none := by
  have hd : (E.map Er.d)[i]? = some r.d := by rw [List.getElem?_map, hr]; rfl
  obtain ⟨hi, e⟩ := List.getElem?_eq_some_iff.1 hd
  rw [← List.take_append_drop i (E.map Er.d), app_append, h, List.drop_eq_getElem_cons hi, e]
  show (if fitB V r.d then _ else none) = none
  rw [hf]; rfl
set_option maxHeartbeats 8000000 in
theorem apply_any (ao : Option Addr) (n c : Nat) (T : List UInt8) (eo : Option Addr) (en ec : Nat) (E : List Er) (w : World) (hT : Hid (Tx w ao n c T)) (hb : n ≤ 140737488355328) (HE : Hid (Edz w eo E)) (hn : E.length = en) (heb : en ≤ 140737488355328) (HM : Hid (Mod T (E.map Er.d))) :
    Calls Tryz.prog 58 #[.slice ao n c, .slice eo en ec] w fun e w' => ApG (app T (E.map Er.d)) w e w' := by
  have HN := Hid.mk' hn
  have C30 := Hid.mk' (clone_any ao n c T w hb hT)
  have hTl := Hid.mk' hT.out.len
  clear hn hb
  go_enter Tryz.func58, Tryz.ntmps58
  go_wp2_with fail
  refine C30.out.mono ?_
  rintro e w0 ⟨v0, rfl, hO, hB⟩
  have O0 : Hid (w0.ownsRow w.heap.size 5 1 v0 T.length (bv T)) := by unfold Hid; rw [hTl.out]; exact hO
  have B0 := Hid.mk' hB
  clear hO hB C30
  dsimp only
  go_wp2_with fail
  go_loopg [6, 8, 13] en (fun m x6 x8 x13 wx => ∃ (i : Nat) (V : List UInt8), x13 = .int .i64 (i : Int) ∧ i + m = en ∧ Hid (app T ((E.map Er.d).take i) = some V) ∧ Hid (wx.ownsRow w.heap.size 5 1 x6 V.length (bv V)) ∧ Hid (Below w.heap.size w wx))
  case atStart => exact ⟨0, T, rfl, by omega, rfl, O0.out, B0.out⟩
  case round =>
    obtain ⟨i, V, rfl, him, HV, KO, KB⟩ := hrel
    obtain ⟨go, hgo⟩ : ∃ g, g = gk - 1 := ⟨_, rfl⟩
    clear O0 B0
    by_cases hi : i < en
    · have hi' : (i : Int) < (en : Int) := by omega
      have hi0 : (0 : Int) ≤ (i : Int) := by omega
      obtain ⟨r, hr⟩ : ∃ r, E[i]? = some r := ⟨_, List.getElem?_eq_getElem (by have := HN.out; omega)⟩
      obtain ⟨g, o, rfl, h3⟩ := HE.out.row.ed3 hr
      have hEt0 := HE.out.txs i r hr
      have HET0 := Hid.mk' hEt0
      have h4 := h3.keep KB.out
      have HR := Hid.mk' hr
      have HVl : Hid (V.length ≤ 140737488355328) := HM.out i V HV.out
      obtain ⟨x6a, x6c, e6, hTx6⟩ := own_tx KO.out (by have := HVl.out; omega)
      subst e6
      have hfd : ∃ b, fitB V r.d = b := ⟨_, rfl⟩
      obtain ⟨b, hb⟩ := hfd
      have HF := Hid.mk' hb
      have CF0 := fun W (hW : Below wr.heap.size wr W) => efits_any x6a V.length x6c V r W (hTx6.keep hW) ((hEt0.keep KB.out).keep hW)
      rw [hb] at CF0
      obtain ⟨ra, rp1, ro, rc1, rO, rp2, rn, rc2, rN⟩ := r
      have CF : Hid (∀ W, Below wr.heap.size wr W → Calls Tryz.prog 94 #[.slice x6a V.length x6c, .agg #[.int .i64 ra, .slice rp1 ro rc1, .slice rp2 rn rc2]] W fun e w' => e = .returned (.bool b) ∧ Below W.heap.size W w') := CF0
      dsimp only at h4
      have t0 := h4.e0
      have t1 := h4.e1
      have t2 := h4.e2
      clear hr h3 h4 hEt0 hTx6 CF0 hb
      obtain ⟨w1, hw1⟩ : ∃ w1, w1 = wr.alloc (.cells #[.int .i64 ra, .slice rp1 ro rc1, .slice rp2 rn rc2] 65) := ⟨_, rfl⟩
      have B1 : Hid (Below wr.heap.size wr w1) := by unfold Hid; rw [hw1]; exact bAlloc (Below.refl _ _) _
      have Y0 : Hid (Blk w1 wr.heap.size 65 #[.int .i64 ra, .slice rp1 ro rc1, .slice rp2 rn rc2]) := by unfold Hid; rw [hw1]; exact Blk.new _ _ _
      go_upto_region 5 with fail
      rw [← hw1]
      clear hw1 t0 t1 t2
      have y0 : w1.cell? ⟨wr.heap.size, 0, none⟩ = some (.int .i64 ra) := Y0.out.cell rfl
      have y1 : w1.cell? ⟨wr.heap.size, 1, none⟩ = some (.slice rp1 ro rc1) := Y0.out.cell rfl
      have y2 : w1.cell? ⟨wr.heap.size, 2, none⟩ = some (.slice rp2 rn rc2) := Y0.out.cell rfl
      go_wp2_with fail
      refine (CF.out w1 B1.out).mono ?_
      rintro e w2 ⟨rfl, hb2⟩
      have B2 := Hid.mk' (bT B1.out hb2)
      have Y2 := Hid.mk' (Y0.out.keep hb2)
      have L2 := Hid.mk' (bT KB.out B2.out)
      clear hb2 CF y0 y1 y2 Y0 B1
      dsimp only
      cases b with
      | false =>
        have HZ : Hid (app T (E.map Er.d) = none) := app_stop HV.out HR.out HF.out
        go_wp2
        exact bodyPost_ret (v := .tuple #[.slice none 0 0, .int .i64 170]) (by simp [results, Tryz.results58]) rfl (.inr ⟨HZ.out, rfl, L2.out⟩)
      | true =>
        obtain ⟨p, hp1, hp2, hp3⟩ := fitB_iff.1 HF.out
        have hpl := fit_len hp2 hp3
        have hol := HET0.out.t1.len
        have hnl := HET0.out.t2.len
        have hnb := HET0.out.b2
        dsimp only [Er.d] at hp1 hp3 hpl hol hnl hnb
        subst hp1
        obtain ⟨j, hj⟩ : ∃ j, j = p + ro := ⟨_, rfl⟩
        have hVl := HVl.out
        have hw9 : IntKind.i64.wrap ((p : Int) + (ro : Int)) = (j : Int) := by rw [IntKind.wrap_i64]; omega
        have hnx := app_next HV.out HR.out HF.out
        have hst : stp V (Er.d ⟨(p : Int), rp1, ro, rc1, rO, rp2, rn, rc2, rN⟩) = V.take p ++ rN ++ V.drop j := by
          show V.take p ++ rN ++ V.drop (p + rO.length) = _
          rw [hj, hol]
        rw [hst] at hnx
        have hlen : (V.take p ++ rN ++ V.drop j).length = p + rn + (V.length - j) := by simp only [List.length_append, List.length_take, List.length_drop]; omega
        have hbd := HM.out (i + 1) _ hnx
        have CR := Hid.mk' (replace_any w.heap.size (.slice x6a V.length x6c) V.length p j V rp2 rn rc2 (p + rn + (V.length - j)) rN w2 (own_keep KO.out B2.out) (HET0.out.t2.keep L2.out) (fun hm a ha => by
          obtain ⟨a', u, e', hc⟩ := HET0.out.t2.ne hm
          rw [show (rp2 : Option Addr) = some a' from e'] at ha
          injection ha with ha
          subst ha
          exact lt_of_cell hc) (by omega) (by omega) rfl (by omega) hnb (by omega) L2.out.size)
        have HNX := Hid.mk' hnx
        have HLN := Hid.mk' hlen
        have y0 : w2.cell? ⟨wr.heap.size, 0, none⟩ = some (.int .i64 (p : Int)) := Y2.out.cell rfl
        have y1 : w2.cell? ⟨wr.heap.size, 1, none⟩ = some (.slice rp1 ro rc1) := Y2.out.cell rfl
        have y2 : w2.cell? ⟨wr.heap.size, 2, none⟩ = some (.slice rp2 rn rc2) := Y2.out.cell rfl
        have hw8 : IntKind.i64.wrap ((i : Int) + 1) = ((i + 1 : Nat) : Int) := by rw [IntKind.wrap_i64]; omega
        have KO2 := Hid.mk' (own_keep KO.out B2.out)
        clear hnx hlen hbd hst hj hVl hpl hol hnl hnb hp2 hp3 Y2 B2 HF
        go_wp2_with fail
        refine CR.out.mono ?_
        rintro e w3 ⟨v', rfl, hO3, hG3, hF3⟩
        have O3 : Hid (w3.ownsRow w.heap.size 5 1 v' (V.take p ++ rN ++ V.drop j).length (bv (V.take p ++ rN ++ V.drop j))) := by unfold Hid; rw [HLN.out]; exact hO3
        have L3 : Hid (Below w.heap.size w w3) := L2.out.grown hG3 L2.out.size (fun k hk => (KO2.out.lt k hk).1)
        clear hO3 hG3 hF3 CR
        dsimp only
        go_wp2
        go_roundg go
        case measure => omega
        case rel => exact ⟨i + 1, _, by go_num, by omega, HNX.out, O3.out, L3.out⟩
    · have hi' : ¬ (i : Int) < (en : Int) := by omega
      have HF : Hid (app T (E.map Er.d) = some V) := by
        have h1 := HV.out
        rw [List.take_of_length_le (by rw [List.length_map]; have := HN.out; omega)] at h1
        exact h1
      clear hgo
      go_wp2
      exact bodyPost_ret (v := .tuple #[u6, .int .i64 0]) (by simp [results, Tryz.results58]) rfl (.inl ⟨V, _, HF.out, rfl, KO.out, KB.out⟩)
end Go.Proofs.YtppefcnopkmhbaaGreatDoor

namespace Go.Proofs.YtppefcnopkmhbaaGreatDoor
open Go.RowKit

set_option maxRecDepth 8000
theorem run_room (k : Nat) (hk : k ≤ 140737488355328) : ∃ CS : Array Value, CS.size = k * 1 ∧ ∀ W : World, (Instr.makeSlice 22 (.int .i64 0) (.int .i64 (k : Int))).run Tryz.prog W = .ok (.slice (some ⟨W.heap.size, 0, none⟩) 0 k) (W.alloc (.cells CS 5)) := by
  obtain ⟨i0, hi, hz0, hz1, hz2⟩ := info_parts info5
  refine ⟨madeCells (Value.int .u8 0).cells k, by simp [madeCells], fun W => ?_⟩
  have := run_make (P := Tryz.prog) W 22 5 i0 (.int .u8 0) Tryz.underlying22 hi hz0 .i64 .i64 0 (k : Int) (by omega) (by omega) (by rw [hz2]; omega) (by omega)
  rw [hz1, Nat.mul_one, show (k : Int).toNat = k by omega] at this
  exact this
set_option maxHeartbeats 8000000 in
theorem rapply_any (ao : Option Addr) (n c : Nat) (T : List UInt8) (eo : Option Addr) (en ec : Nat) (E : List Er) (w : World) (hT : Hid (Tx w ao n c T)) (hb : n ≤ 140737488355328) (HE : Hid (Edz w eo E)) (hn : E.length = en) (heb : en ≤ 140737488355328) (HM : Hid (Mod T (E.map Er.d))) :
    Calls Tryz.prog 52 #[.slice ao n c, .slice eo en ec] w fun e w' => ApG (app T (E.map Er.d)) w e w' := by
  have HN := Hid.mk' hn
  have hTl := Hid.mk' hT.out.len
  clear hn
  go_enter Tryz.func52, Tryz.ntmps52
  go_wp2_with (at_builtin; refine append_big rfl (.tmp 10) (.tmp 11) rfl w.heap.size (.slice (some ⟨w.heap.size, 0, none⟩) 0 0) 0 [] rfl (World.ownsRow_made w #[] 0 (Nat.le_refl _) (Nat.zero_le _) rfl) (.slice ao n c) n (bv T) rfl ((hT.out.keep (bAlloc (Below.refl _ _) _)).srv) (by rw [bv_length]; exact hTl.out) (bv_one T) (by omega) (by omega) (by simp) ?_)
  intro v0 w0 hown hgrow _
  have O0 : Hid (w0.ownsRow w.heap.size 5 1 v0 T.length (bv T)) := by unfold Hid; rw [hTl.out]; simpa using hown
  have B0 : Hid (Below w.heap.size w w0) := ((Below.refl _ w).alloc (Nat.le_refl _) _).grown hgrow (by simp) (by intro k hk; simp [Value.ownBlock] at hk; omega)
  clear hown hgrow hb
  go_wp2_with fail
  go_loopg [6, 7, 8, 9] en (fun m x6 x7 x8 x9 wx => ∃ (i : Nat) (V : List UInt8), x7 = .int .i64 (i : Int) ∧ i + m = en ∧ Hid (app T ((E.map Er.d).take i) = some V) ∧ Hid (wx.ownsRow w.heap.size 5 1 x6 V.length (bv V)) ∧ Hid (Below w.heap.size w wx))
  case atStart => exact ⟨0, T, rfl, by omega, rfl, O0.out, B0.out⟩
  case round =>
    obtain ⟨i, V, rfl, him, HV, KO, KB⟩ := hrel
    obtain ⟨go, hgo⟩ : ∃ g, g = gk - 1 := ⟨_, rfl⟩
    clear O0 B0
    by_cases hi : i < en
    · have hi' : (i : Int) < (en : Int) := by omega
      have hi0 : (0 : Int) ≤ (i : Int) := by omega
      obtain ⟨r, hr⟩ : ∃ r, E[i]? = some r := ⟨_, List.getElem?_eq_getElem (by have := HN.out; omega)⟩
      obtain ⟨g, o, rfl, h3⟩ := HE.out.row.ed3 hr
      have hEt0 := HE.out.txs i r hr
      have HET0 := Hid.mk' hEt0
      have h4 := h3.keep KB.out
      have HR := Hid.mk' hr
      have HVl : Hid (V.length ≤ 140737488355328) := HM.out i V HV.out
      obtain ⟨x6a, x6c, e6, hTx6⟩ := own_tx KO.out (by have := HVl.out; omega)
      subst e6
      have TX6 := Hid.mk' hTx6
      have hfd : ∃ b, fitB V r.d = b := ⟨_, rfl⟩
      obtain ⟨b, hb⟩ := hfd
      have HF := Hid.mk' hb
      have CF0 := fun W (hW : Below wr.heap.size wr W) => rfits_any x6a V.length x6c V r W (hTx6.keep hW) ((hEt0.keep KB.out).keep hW)
      rw [hb] at CF0
      obtain ⟨ra, rp1, ro, rc1, rO, rp2, rn, rc2, rN⟩ := r
      have CF : Hid (∀ W, Below wr.heap.size wr W → Calls Tryz.prog 87 #[.slice x6a V.length x6c, .agg #[.int .i64 ra, .slice rp1 ro rc1, .slice rp2 rn rc2]] W fun e w' => e = .returned (.bool b) ∧ Below W.heap.size W w') := CF0
      dsimp only at h4
      have t0 := h4.e0
      have t1 := h4.e1
      have t2 := h4.e2
      clear hr h3 h4 hEt0 hTx6 CF0 hb
      obtain ⟨w1, hw1⟩ : ∃ w1, w1 = wr.alloc (.cells #[.int .i64 ra, .slice rp1 ro rc1, .slice rp2 rn rc2] 65) := ⟨_, rfl⟩
      have B1 : Hid (Below wr.heap.size wr w1) := by unfold Hid; rw [hw1]; exact bAlloc (Below.refl _ _) _
      have Y0 : Hid (Blk w1 wr.heap.size 65 #[.int .i64 ra, .slice rp1 ro rc1, .slice rp2 rn rc2]) := by unfold Hid; rw [hw1]; exact Blk.new _ _ _
      go_upto_region 6 with fail
      rw [← hw1]
      clear hw1 t0 t1 t2
      have y0 : w1.cell? ⟨wr.heap.size, 0, none⟩ = some (.int .i64 ra) := Y0.out.cell rfl
      have y1 : w1.cell? ⟨wr.heap.size, 1, none⟩ = some (.slice rp1 ro rc1) := Y0.out.cell rfl
      have y2 : w1.cell? ⟨wr.heap.size, 2, none⟩ = some (.slice rp2 rn rc2) := Y0.out.cell rfl
      go_wp2_with fail
      refine (CF.out w1 B1.out).mono ?_
      rintro e w2 ⟨rfl, hb2⟩
      have B2 := Hid.mk' (bT B1.out hb2)
      have Y2 := Hid.mk' (Y0.out.keep hb2)
      have L2 := Hid.mk' (bT KB.out B2.out)
      clear hb2 CF y0 y1 y2 Y0 B1
      dsimp only
      cases b with
      | false =>
        have HZ : Hid (app T (E.map Er.d) = none) := app_stop HV.out HR.out HF.out
        go_wp2
        exact bodyPost_ret (v := .tuple #[.slice none 0 0, .int .i64 170]) (by simp [results, Tryz.results52]) rfl (.inr ⟨HZ.out, rfl, L2.out⟩)
      | true =>
        obtain ⟨p, hp1, hp2, hp3⟩ := fitB_iff.1 HF.out
        have hpl := fit_len hp2 hp3
        have hol := HET0.out.t1.len
        have hnl := HET0.out.t2.len
        have hnb := HET0.out.b2
        dsimp only [Er.d] at hp1 hp3 hpl hol hnl hnb
        subst hp1
        obtain ⟨j, hj⟩ : ∃ j, j = p + ro := ⟨_, rfl⟩
        have hVl := HVl.out
        have hnx := app_next HV.out HR.out HF.out
        have hst : stp V (Er.d ⟨(p : Int), rp1, ro, rc1, rO, rp2, rn, rc2, rN⟩) = V.take p ++ rN ++ V.drop j := by
          show V.take p ++ rN ++ V.drop (p + rO.length) = _
          rw [hj, hol]
        rw [hst] at hnx
        have hlen : (V.take p ++ rN ++ V.drop j).length = p + rn + (V.length - j) := by simp only [List.length_append, List.length_take, List.length_drop]; omega
        have hbd := HM.out (i + 1) _ hnx
        obtain ⟨vn, hvn⟩ : ∃ vn, vn = V.length := ⟨_, rfl⟩
        obtain ⟨vo, hvo⟩ : ∃ vo, vo = vn - ro := ⟨_, rfl⟩
        obtain ⟨tot, htot⟩ : ∃ tot, tot = p + rn + (vn - j) := ⟨_, rfl⟩
        have hw9 : IntKind.i64.wrap ((p : Int) + (ro : Int)) = (j : Int) := by rw [IntKind.wrap_i64]; omega
        have hw7 : IntKind.i64.wrap ((vn : Int) - (ro : Int)) = (vo : Int) := by rw [IntKind.wrap_i64]; omega
        have hw6 : IntKind.i64.wrap ((vo : Int) + (rn : Int)) = (tot : Int) := by rw [IntKind.wrap_i64]; omega
        obtain ⟨CS, hCS, hmk⟩ := run_room tot (by omega)
        have HCS := Hid.mk' hCS
        have TX2 := TX6.out.keep B2.out
        rw [← hvn] at TX2
        obtain ⟨ah, ch, hsh, hTh⟩ := sl_h TX2 (m := p) (by omega)
        obtain ⟨al, cl, hsl, hTl2⟩ := sl_l TX2 (lo := j) (z := (j : Int)) (by omega) rfl
        have TH := Hid.mk' hTh
        have TL := Hid.mk' hTl2
        have TN : Hid (Tx w2 rp2 rn rc2 rN) := HET0.out.t2.keep L2.out
        have BD : Hid (p + rn + (vn - j) ≤ 140737488355328 ∧ (V.take p).length = p ∧ rN.length = rn ∧ (V.drop j).length = vn - j ∧ rn ≤ 140737488355328 ∧ tot ≤ 140737488355328) := ⟨by omega, by rw [List.length_take]; omega, hnl, by rw [List.length_drop]; omega, hnb, by omega⟩
        have HNX := Hid.mk' hnx
        have HLN : Hid ((V.take p ++ rN ++ V.drop j).length = p + rn + (vn - j)) := by unfold Hid; rw [hlen, hvn]
        have y0 : w2.cell? ⟨wr.heap.size, 0, none⟩ = some (.int .i64 (p : Int)) := Y2.out.cell rfl
        have y1 : w2.cell? ⟨wr.heap.size, 1, none⟩ = some (.slice rp1 ro rc1) := Y2.out.cell rfl
        have y2 : w2.cell? ⟨wr.heap.size, 2, none⟩ = some (.slice rp2 rn rc2) := Y2.out.cell rfl
        have hw8 : IntKind.i64.wrap ((i : Int) + 1) = ((i + 1 : Nat) : Int) := by rw [IntKind.wrap_i64]; omega
        rw [← hvn]
        clear hnx hlen hbd hst hj hVl hpl hol hnl hnb hp2 hp3 HF hCS TX2 hTh hTl2 hvn hvo htot TX6 KO
        go_upto_region 9 with fail
        have M0 : Hid ((w2.alloc (.cells CS 5)).ownsRow w2.heap.size 5 1 (.slice (some ⟨w2.heap.size, 0, none⟩) 0 tot) 0 []) := World.ownsRow_made w2 CS tot (Nat.le_refl _) (by have := BD.out; unfold maxLen; omega) HCS.out
        have MB : Hid (Below w2.heap.size w2 (w2.alloc (.cells CS 5))) := bAlloc (Below.refl _ _) _
        have Y3 := Hid.mk' (Y2.out.keep MB.out)
        obtain ⟨q, hq⟩ : ∃ q, q = w2.heap.size := ⟨_, rfl⟩
        rw [← hq] at M0 ⊢
        have HQ := Hid.mk' hq
        clear hq y0 y1 y2 hmk HCS
        generalize w2.alloc (.cells CS 5) = w3 at *
        have y0 : w3.cell? ⟨wr.heap.size, 0, none⟩ = some (.int .i64 (p : Int)) := Y3.out.cell rfl
        go_upto_region 10 with (at_builtin; refine append_big rfl (.tmp 38) (.tmp 42) rfl q (.slice (some ⟨q, 0, none⟩) 0 tot) 0 [] rfl M0.out (.slice ah p ch) p (bv (V.take p)) rfl ((TH.out.keep MB.out).srv) (by rw [bv_length]; exact BD.out.2.1) (bv_one _) (by have := BD.out.1; omega) (by have := BD.out.1; omega) (by rw [HQ.out]; exact MB.out.size) ?_)
        intro v4 w4 hO4 hG4 _
        have O4 : Hid (w4.ownsRow q 5 1 v4 p (bv (V.take p))) := by unfold Hid; simpa using hO4
        have B4 : Hid (Below w2.heap.size w2 w4) := MB.out.grown hG4 MB.out.size (fun k hk => by have := (M0.out.lt k hk).1; rw [HQ.out] at this; exact this)
        have Y4 := Hid.mk' (Y2.out.keep B4.out)
        clear hO4 hG4 y0 M0 Y3
        have y2 : w4.cell? ⟨wr.heap.size, 2, none⟩ = some (.slice rp2 rn rc2) := Y4.out.cell rfl
        go_upto_region 11 with (at_builtin; refine append_big rfl (.tmp 44) (.tmp 46) rfl q v4 p (bv (V.take p)) rfl O4.out (.slice rp2 rn rc2) rn (bv rN) rfl ((TN.out.keep B4.out).srv) (by rw [bv_length]; exact BD.out.2.2.1) (bv_one _) (by have := BD.out.1; omega) BD.out.2.2.2.2.1 (by rw [HQ.out]; exact B4.out.size) ?_)
        intro v5 w5 hO5 hG5 _
        have O5 : Hid (w5.ownsRow q 5 1 v5 (p + rn) (bv (V.take p ++ rN))) := by unfold Hid; rw [bv_append]; exact hO5
        have B5 : Hid (Below w2.heap.size w2 w5) := B4.out.grown hG5 B4.out.size (fun k hk => by have := (O4.out.lt k hk).1; rw [HQ.out] at this; exact this)
        have Y5 := Hid.mk' (Y2.out.keep B5.out)
        clear hO5 hG5 y2 O4 Y4
        have y0 : w5.cell? ⟨wr.heap.size, 0, none⟩ = some (.int .i64 (p : Int)) := Y5.out.cell rfl
        have y1 : w5.cell? ⟨wr.heap.size, 1, none⟩ = some (.slice rp1 ro rc1) := Y5.out.cell rfl
        go_upto_region 12 with (at_builtin; refine append_big rfl (.tmp 48) (.tmp 56) rfl q v5 (p + rn) (bv (V.take p ++ rN)) rfl O5.out (.slice al (vn - j) cl) (vn - j) (bv (V.drop j)) rfl ((TL.out.keep B5.out).srv) (by rw [bv_length]; exact BD.out.2.2.2.1) (bv_one _) (by have := BD.out.1; omega) (by have := BD.out.1; omega) (by rw [HQ.out]; exact B5.out.size) ?_)
        intro v6 w6 hO6 hG6 _
        have L6 : Hid (Below w.heap.size w w6) := bT L2.out (B5.out.grown hG6 B5.out.size (fun k hk => by have := (O5.out.lt k hk).1; rw [HQ.out] at this; exact this))
        have O6 : Hid (w6.ownsRow w.heap.size 5 1 v6 (V.take p ++ rN ++ V.drop j).length (bv (V.take p ++ rN ++ V.drop j))) := by unfold Hid; rw [HLN.out, bv_append (V.take p ++ rN)]; exact own_lower hO6 (by rw [HQ.out]; exact L2.out.size)
        clear hO6 hG6 y0 y1 O5 Y5
        go_wp2
        go_roundg go
        case measure => omega
        case rel => exact ⟨i + 1, _, by go_num, by omega, HNX.out, O6.out, L6.out⟩
    · have hi' : ¬ (i : Int) < (en : Int) := by omega
      have HF : Hid (app T (E.map Er.d) = some V) := by
        have h1 := HV.out
        rw [List.take_of_length_le (by rw [List.length_map]; have := HN.out; omega)] at h1
        exact h1
      clear hgo
      go_wp2
      exact bodyPost_ret (v := .tuple #[u6, .int .i64 0]) (by simp [results, Tryz.results52]) rfl (.inl ⟨V, _, HF.out, rfl, KO.out, KB.out⟩)
end Go.Proofs.YtppefcnopkmhbaaGreatDoor

namespace Go.Proofs.YtppefcnopkmhbaaGreatDoor
open Go.RowKit

theorem ix_cases {n s : Nat} {l : List UInt8} (hl : l.length = n) (hs : s ≤ n) :
    (∃ k : Nat, ixI (l.drop s) (n - s) = k ∧ en l s = s + k ∧ s + k < n) ∨ (ixI (l.drop s) (n - s) = -1 ∧ en l s = n) := by
  have h1 : (l.drop s).findIdx le ≤ (l.drop s).length := List.findIdx_le_length
  rw [List.length_drop, hl] at h1
  unfold ixI en
  by_cases h : (l.drop s).findIdx le < n - s
  · exact .inl ⟨_, if_pos h, rfl, by omega⟩
  · exact .inr ⟨if_neg h, by omega⟩

theorem index_at {ao : Option Addr} {n c s : Nat} {l : List UInt8} (r : Int) (w : World) (h : Tx w ao n c (l.drop s)) (hr : ixI (l.drop s) n = r) :
    Calls Tryz.prog 134 #[.slice ao n c, .int .u8 10] w fun e w' => e = .returned (.int .i64 r) ∧ w' = w := by
  have := index_any ao n c (l.drop s) w h
  rwa [hr] at this

set_option maxHeartbeats 400000 in
theorem endFrom_any (ao : Option Addr) (n c s : Nat) (l : List UInt8) (w : World) (hs : s ≤ n) (HT : Hid (Tx w ao n c l)) :
    Calls Tryz.prog 121 #[.slice ao n c, .int .i64 s] w fun e w' => e = .returned (.int .i64 (en l s)) ∧ w' = w := by
  cases ao with
  | none =>
    obtain ⟨rfl, rfl, rfl⟩ := HT.out.none
    obtain rfl : s = 0 := by omega
    have he : en [] 0 = 0 := rfl
    go_enter Tryz.func121, Tryz.ntmps121
    go_wp2_with (go_at_call 134; refine (index_at (s := 0) (l := []) (-1) w HT.out rfl).mono ?_; rintro e w' ⟨rfl, hw⟩; subst hw)
    go_ret
    exact ⟨rfl, rfl⟩
  | some a =>
    have hcap := HT.out.cap
    have hbig : (n : Int) ≤ 150000000000000 := by have := HT.out.big; omega
    have hs' : (s : Int) ≤ n := by omega
    rcases ix_cases HT.out.len hs with ⟨k, hi, he, hk⟩ | ⟨hi, he⟩
    · have HI : Hid (ixI (l.drop s) (n - s) = k) := hi
      have HE : Hid (en l s = s + k) := he
      have hk' : (s : Int) + k < n := by omega
      clear hi he
      go_enter Tryz.func121, Tryz.ntmps121
      go_wp2_with (go_at_call 134; refine (index_at (s := s) (l := l) (k : Int) w (by first | exact HT.out.tail hs | exact HT.out.tail0 hs rfl | (exact HT.out.tail0 hs (by assumption))) HI.out).mono ?_; rintro e w' ⟨rfl, hw⟩; subst hw)
      all_goals go_ret
      all_goals (refine ⟨?_, rfl⟩; rw [HE.out]; push_cast; first | rfl | (congr 2; omega))
    · have HI : Hid (ixI (l.drop s) (n - s) = -1) := hi
      have HE : Hid (en l s = n) := he
      clear hi he
      go_enter Tryz.func121, Tryz.ntmps121
      go_wp2_with (go_at_call 134; refine (index_at (s := s) (l := l) (-1) w (by first | exact HT.out.tail hs | exact HT.out.tail0 hs rfl | (exact HT.out.tail0 hs (by assumption))) HI.out).mono ?_; rintro e w' ⟨rfl, hw⟩; subst hw)
      all_goals go_ret
      all_goals (refine ⟨?_, rfl⟩; rw [HE.out]; rfl)

set_option maxHeartbeats 400000 in
theorem startOf_neg (ao : Option Addr) (n c : Nat) (L : Int) (w : World) (hL : L < 0) :
    Calls Tryz.prog 114 #[.slice ao n c, .int .i64 L] w fun e w' => e = .returned (.tuple #[.int .i64 0, .bool false]) ∧ w' = w := by
  go_enter Tryz.func114, Tryz.ntmps114
  go_wp2
  go_ret2
  exact ⟨rfl, rfl⟩

set_option maxHeartbeats 1000000 in
theorem startOf_some (a : Addr) (n c L : Nat) (l : List UInt8) (w : World) (hL63 : (L : Int) ≤ 9223372036854775807) (HT : Hid (Tx w (some a) n c l)) :
    Calls Tryz.prog 114 #[.slice (some a) n c, .int .i64 L] w fun e w' => ((L ≤ nl l ∧ e = .returned (.tuple #[.int .i64 (sp l L), .bool true])) ∨ (nl l < L ∧ e = .returned (.tuple #[.int .i64 0, .bool false]))) ∧ w' = w := by
  have hcap := HT.out.cap
  have hbig : (n : Int) ≤ 150000000000000 := by have := HT.out.big; omega
  go_enter Tryz.func114, Tryz.ntmps114
  go_wp2_with fail
  go_loopw [1, 6] (fun u v wr => ∃ m s k : Nat, u = .int .i64 m ∧ v = .int .i64 s ∧ k + m = L ∧ St l k s ∧ wr = w) (fun u _ _ => (intOf u).toNat)
  case atStart => exact ⟨L, 0, 0, rfl, rfl, by omega, St.zero l, rfl⟩
  case round =>
    obtain ⟨m, s, k, rfl, rfl, hk, hst, rfl⟩ := hrel
    have HK : Hid (k + m = L) := hk
    have HS : Hid (St l k s) := hst
    have hs : s ≤ n := by have := hst.low'; rw [HT.out.len] at this; exact this
    have hs' : (s : Int) ≤ n := by omega
    have hmL : (m : Int) ≤ 9223372036854775807 := by omega
    clear hk hst
    rcases Nat.eq_zero_or_pos m with h0 | h0
    · subst h0
      go_wp2
      go_ret2
      refine ⟨.inl ⟨?_, ?_⟩, rfl⟩
      · have := HS.out.low; have := HK.out; omega
      · have e1 : sp l L = s := by rw [← HK.out]; exact sp_eq HS.out
        rw [e1]; rfl
    · have hm1 : (1 : Int) ≤ m := by omega
      rcases ix_cases HT.out.len hs with ⟨j, hi, he, hj⟩ | ⟨hi, he⟩
      · have HI : Hid (ixI (l.drop s) (n - s) = j) := hi
        have HE : Hid (en l s = s + j) := he
        have hj' : (s : Int) + j < n := by omega
        clear hi he
        go_wp2_with (go_at_call 134; refine (index_at (s := s) (l := l) (j : Int) _ (by first | exact HT.out.tail hs | exact HT.out.tail0 hs rfl | (exact HT.out.tail0 hs (by assumption))) HI.out).mono ?_; rintro e w' ⟨rfl, hw⟩; subst hw)
        all_goals go_roundw
        case rel =>
          refine ⟨m - 1, s + j + 1, k + 1, by go_num, by go_num, by have := HK.out; omega, ?_, by trivial⟩
          have h1 := HS.out.next (by rw [HE.out, HT.out.len]; exact hj)
          rwa [HE.out] at h1
        case measure => simp [intOf]; omega
      · have HI : Hid (ixI (l.drop s) (n - s) = -1) := hi
        have HE : Hid (en l s = n) := he
        clear hi he
        go_wp2_with (go_at_call 134; refine (index_at (s := s) (l := l) (-1) _ (by first | exact HT.out.tail hs | exact HT.out.tail0 hs rfl | (exact HT.out.tail0 hs (by assumption))) HI.out).mono ?_; rintro e w' ⟨rfl, hw⟩; subst hw)
        all_goals go_ret2
        all_goals (refine ⟨.inr ⟨?_, rfl⟩, rfl⟩; have h1 := HS.out.last (by rw [HE.out, HT.out.len]); have h2 := HK.out; omega)

set_option maxHeartbeats 1000000 in
theorem startOf_none (L : Nat) (w : World) (hL63 : (L : Int) ≤ 9223372036854775807) :
    Calls Tryz.prog 114 #[.slice none 0 0, .int .i64 L] w fun e w' => ((L ≤ nl [] ∧ e = .returned (.tuple #[.int .i64 (sp [] L), .bool true])) ∨ (nl [] < L ∧ e = .returned (.tuple #[.int .i64 0, .bool false]))) ∧ w' = w := by
  go_enter Tryz.func114, Tryz.ntmps114
  go_wp2_with fail
  go_loopw [1, 6] (fun u v wr => u = .int .i64 L ∧ v = .int .i64 0 ∧ wr = w) (fun u _ _ => (intOf u).toNat)
  case atStart => exact ⟨rfl, rfl, rfl⟩
  case round =>
    obtain ⟨rfl, rfl, rfl⟩ := hrel
    rcases Nat.eq_zero_or_pos L with h0 | h0
    · subst h0
      go_wp2
      go_ret2
      exact ⟨.inl ⟨Nat.zero_le _, rfl⟩, rfl⟩
    · have hm1 : (1 : Int) ≤ L := by omega
      go_wp2_with (go_at_call 134; refine (index_at (s := 0) (l := []) (-1) _ (tx_nil _) rfl).mono ?_; rintro e w' ⟨rfl, hw⟩; subst hw)
      all_goals go_ret2
      exact ⟨.inr ⟨h0, rfl⟩, rfl⟩

theorem startOf_yes (ao : Option Addr) (n c L : Nat) (l : List UInt8) (w : World) (hL : L ≤ nl l) (HT : Hid (Tx w ao n c l)) :
    Calls Tryz.prog 114 #[.slice ao n c, .int .i64 L] w fun e w' => e = .returned (.tuple #[.int .i64 (sp l L), .bool true]) ∧ w' = w := by
  have h63 : (L : Int) ≤ 9223372036854775807 := by have := nl_le l; have := HT.out.len; have := HT.out.big; omega
  cases ao with
  | none =>
    obtain ⟨rfl, rfl, rfl⟩ := HT.out.none
    refine (startOf_none L w h63).mono ?_
    rintro e w' ⟨⟨_, rfl⟩ | ⟨h, _⟩, hw⟩
    · exact ⟨rfl, hw⟩
    · omega
  | some a =>
    refine (startOf_some a n c L l w h63 HT).mono ?_
    rintro e w' ⟨⟨_, rfl⟩ | ⟨h, _⟩, hw⟩
    · exact ⟨rfl, hw⟩
    · omega
theorem startOf_no (ao : Option Addr) (n c : Nat) (L : Int) (l : List UInt8) (w : World) (h63 : L ≤ 9223372036854775807) (hL : L < 0 ∨ (nl l : Int) < L) (HT : Hid (Tx w ao n c l)) :
    Calls Tryz.prog 114 #[.slice ao n c, .int .i64 L] w fun e w' => e = .returned (.tuple #[.int .i64 0, .bool false]) ∧ w' = w := by
  rcases hL with hL | hL
  · exact startOf_neg ao n c L w hL
  obtain ⟨L, rfl⟩ := Int.eq_ofNat_of_zero_le (show 0 ≤ L by omega)
  cases ao with
  | none =>
    obtain ⟨rfl, rfl, rfl⟩ := HT.out.none
    refine (startOf_none L w h63).mono ?_
    rintro e w' ⟨⟨_, rfl⟩ | ⟨h, rfl⟩, hw⟩
    · omega
    · exact ⟨rfl, hw⟩
  | some a =>
    refine (startOf_some a n c L l w h63 HT).mono ?_
    rintro e w' ⟨⟨_, rfl⟩ | ⟨h, rfl⟩, hw⟩
    · omega
    · exact ⟨rfl, hw⟩

set_option maxHeartbeats 400000 in
theorem isPlace_any (ao : Option Addr) (n c : Nat) (i : Int) (w : World) :
    Calls Tryz.prog 109 #[.slice ao n c, .int .i64 i] w fun e w' => e = .returned (.bool (decide (0 ≤ i ∧ i ≤ n))) ∧ w' = w := by
  by_cases h0 : 0 ≤ i
  · by_cases h1 : i ≤ n
    · have hd : decide (0 ≤ i ∧ i ≤ n) = true := decide_eq_true ⟨h0, h1⟩
      rw [hd]
      go_enter Tryz.func109, Tryz.ntmps109
      go_wp2
      go_ret
      exact ⟨rfl, rfl⟩
    · have hd : decide (0 ≤ i ∧ i ≤ n) = false := decide_eq_false (fun h => h1 h.2)
      rw [hd]
      go_enter Tryz.func109, Tryz.ntmps109
      go_wp2
      go_ret
      exact ⟨rfl, rfl⟩
  · have hd : decide (0 ≤ i ∧ i ≤ n) = false := decide_eq_false (fun h => h0 h.1)
    rw [hd]
    go_enter Tryz.func109, Tryz.ntmps109
    go_wp2
    go_ret
    exact ⟨rfl, rfl⟩

/-- the last byte of a line, or its start -/
def lb (s e : Nat) : Nat := max s (e - 1)
/-- is a byte a blank -/
def bl (b : UInt8) : Bool := ((b.toNat : Int) == 32) || ((b.toNat : Int) == 9)
end Go.Proofs.YtppefcnopkmhbaaGreatDoor

namespace Go.Proofs.YtppefcnopkmhbaaGreatDoor
open Go.RowKit

/-- is there a line of this number -/
def lnB (l : List UInt8) (L : Int) : Bool := decide (0 ≤ L ∧ L ≤ nl l)
/-- is there a place of this number -/
def plB (l : List UInt8) (i : Int) : Bool := decide (0 ≤ i ∧ i ≤ l.length)
/-- an answer and its error -/
def ans (b : Bool) (x : Nat) : Int × Int := if b then (x, 0) else (0, 2)
def aStart (l : List UInt8) (L : Int) : Int × Int := ans (lnB l L) (sp l L.toNat)
def aEnd (l : List UInt8) (L : Int) : Int × Int := ans (lnB l L) (en l (sp l L.toNat))
def aOf (l : List UInt8) (i : Int) : Int × Int := ans (plB l i) (nl (l.take i.toNat))
def aCol (l : List UInt8) (i : Int) : Int × Int := ans (plB l i) (i.toNat - bg l i.toNat)
/-- the first byte that is no blank, of the next d from i on; else z -/
def fb (l : List UInt8) (z : Nat) : Nat → Nat → Nat
  | 0, _ => z
  | d + 1, i => if bl (at8 l i) then fb l z d (i + 1) else i
def aFirst (l : List UInt8) (L : Int) : Int × Int := ans (lnB l L) (fb l (lb (sp l L.toNat) (en l (sp l L.toNat))) (en l (sp l L.toNat) - sp l L.toNat) (sp l L.toNat))
/-- the place of a column of the line from s to e -/
def pc (s e : Nat) (c : Int) : Nat := if 0 ≤ c ∧ c < (e : Int) - s then s + c.toNat else lb s e
def aAt (l : List UInt8) (L c : Int) : Int × Int := ans (lnB l L && decide (-1 ≤ c)) (pc (sp l L.toNat) (en l (sp l L.toNat)) c)
/-- a pair as a call gives it -/
def pr (x : Int × Int) : Ending := .returned (.tuple #[.int .i64 x.1, .int .i64 x.2])

theorem ln_yes {l : List UInt8} {L : Int} (h : lnB l L = true) : ∃ k : Nat, L = k ∧ k ≤ nl l := by
  have h := of_decide_eq_true h
  obtain ⟨k, rfl⟩ := Int.eq_ofNat_of_zero_le h.1
  exact ⟨k, rfl, by omega⟩
theorem ln_no {l : List UInt8} {L : Int} (h : lnB l L = false) : L < 0 ∨ (nl l : Int) < L := by
  have h := of_decide_eq_false h
  omega
theorem pl_yes {l : List UInt8} {L : Int} (h : plB l L = true) : ∃ k : Nat, L = k ∧ k ≤ l.length := by
  have h := of_decide_eq_true h
  obtain ⟨k, rfl⟩ := Int.eq_ofNat_of_zero_le h.1
  exact ⟨k, rfl, by omega⟩
theorem lb_le {s e : Nat} (h : s ≤ e) : lb s e ≤ e := by unfold lb; omega

set_option maxHeartbeats 400000 in
theorem start_any (ao : Option Addr) (n c : Nat) (L : Int) (l : List UInt8) (w : World) (h63 : L ≤ 9223372036854775807) (HT : Hid (Tx w ao n c l)) :
    Calls Tryz.prog 82 #[.slice ao n c, .int .i64 L] w fun e w' => e = pr (aStart l L) ∧ w' = w := by
  cases hb : lnB l L with
  | true =>
    obtain ⟨k, rfl, hk⟩ := ln_yes hb
    have HA : Hid (pr (aStart l (k : Int)) = .returned (.tuple #[.int .i64 (sp l k), .int .i64 0])) := by unfold Hid pr aStart ans; rw [hb]; rfl
    clear hb
    go_enter Tryz.func82, Tryz.ntmps82
    go_wp2_with (go_at_call 114; refine (startOf_yes ao n c k l _ hk HT).mono ?_; rintro e w' ⟨rfl, hw⟩; subst hw)
    go_ret2
    exact ⟨by rw [HA.out]; rfl, rfl⟩
  | false =>
    have HA : Hid (pr (aStart l L) = .returned (.tuple #[.int .i64 0, .int .i64 2])) := by unfold Hid pr aStart ans; rw [hb]; rfl
    have hn : Hid (L < 0 ∨ (nl l : Int) < L) := ln_no hb
    clear hb
    go_enter Tryz.func82, Tryz.ntmps82
    go_wp2_with (go_at_call 114; refine (startOf_no ao n c L l _ h63 hn.out HT).mono ?_; rintro e w' ⟨rfl, hw⟩; subst hw)
    go_ret2
    exact ⟨by rw [HA.out]; rfl, rfl⟩

set_option maxHeartbeats 400000 in
theorem end_any (ao : Option Addr) (n c : Nat) (L : Int) (l : List UInt8) (w : World) (h63 : L ≤ 9223372036854775807) (HT : Hid (Tx w ao n c l)) :
    Calls Tryz.prog 99 #[.slice ao n c, .int .i64 L] w fun e w' => e = pr (aEnd l L) ∧ w' = w := by
  cases hb : lnB l L with
  | true =>
    obtain ⟨k, rfl, hk⟩ := ln_yes hb
    have HA : Hid (pr (aEnd l (k : Int)) = .returned (.tuple #[.int .i64 (en l (sp l k)), .int .i64 0])) := by unfold Hid pr aEnd ans; rw [hb]; rfl
    have hs : sp l k ≤ n := by have := sp_le hk; rw [HT.out.len] at this; exact this
    clear hb
    go_enter Tryz.func99, Tryz.ntmps99
    go_wp2_with (first | (go_at_call 114; refine (startOf_yes ao n c k l _ hk HT).mono ?_; rintro e w' ⟨rfl, hw⟩; subst hw) | (go_at_call 121; refine (endFrom_any ao n c (sp l k) l _ hs HT).mono ?_; rintro e w' ⟨rfl, hw⟩; subst hw))
    go_ret2
    exact ⟨by rw [HA.out]; rfl, rfl⟩
  | false =>
    have HA : Hid (pr (aEnd l L) = .returned (.tuple #[.int .i64 0, .int .i64 2])) := by unfold Hid pr aEnd ans; rw [hb]; rfl
    have hn : Hid (L < 0 ∨ (nl l : Int) < L) := ln_no hb
    clear hb
    go_enter Tryz.func99, Tryz.ntmps99
    go_wp2_with (go_at_call 114; refine (startOf_no ao n c L l _ h63 hn.out HT).mono ?_; rintro e w' ⟨rfl, hw⟩; subst hw)
    go_ret2
    exact ⟨by rw [HA.out]; rfl, rfl⟩

set_option maxHeartbeats 400000 in
theorem lof_any (ao : Option Addr) (n c : Nat) (i : Int) (l : List UInt8) (w : World) (HT : Hid (Tx w ao n c l)) :
    Calls Tryz.prog 77 #[.slice ao n c, .int .i64 i] w fun e w' => e = pr (aOf l i) ∧ Below w.heap.size w w' := by
  have hlen := HT.out.len
  cases hb : plB l i with
  | true =>
    obtain ⟨k, rfl, hk⟩ := pl_yes hb
    have hp : decide ((0 : Int) ≤ (k : Int) ∧ (k : Int) ≤ n) = true := decide_eq_true (by omega)
    have HA : Hid (pr (aOf l (k : Int)) = .returned (.tuple #[.int .i64 (nl (l.take k)), .int .i64 0])) := by unfold Hid pr aOf ans; rw [hb]; rfl
    have hkn : k ≤ n := by omega
    have hcap := HT.out.cap
    clear hb hlen
    cases ao with
    | none =>
      obtain ⟨rfl, rfl, rfl⟩ := HT.out.none
      obtain rfl : k = 0 := by omega
      go_enter Tryz.func77, Tryz.ntmps77
      go_wp2_with (first | (go_at_call 109; refine (isPlace_any _ _ _ _ _).mono ?_; rintro e w' ⟨rfl, hw⟩; subst hw) | (go_at_call 110; refine (lineEnds_any _ _ _ [] _ (tx_nil _)).mono ?_; rintro e w2 ⟨rfl, hw⟩))
      go_ret2
      exact ⟨by rw [HA.out]; rfl, hw⟩
    | some a =>
      go_enter Tryz.func77, Tryz.ntmps77
      go_wp2_with (first | (go_at_call 109; refine (isPlace_any _ _ _ _ _).mono ?_; rintro e w' ⟨rfl, hw⟩; subst hw; rw [hp]) | (go_at_call 110; refine (lineEnds_any _ _ _ (l.take k) _ (HT.out.head hkn)).mono ?_; rintro e w2 ⟨rfl, hw⟩))
      go_ret2
      exact ⟨by rw [HA.out]; rfl, hw⟩
  | false =>
    have hp : decide ((0 : Int) ≤ i ∧ i ≤ (n : Int)) = false := by rw [← hlen]; exact hb
    have HA : Hid (pr (aOf l i) = .returned (.tuple #[.int .i64 0, .int .i64 2])) := by unfold Hid pr aOf ans; rw [hb]; rfl
    clear hb
    go_enter Tryz.func77, Tryz.ntmps77
    go_wp2_with (go_at_call 109; refine (isPlace_any _ _ _ _ _).mono ?_; rintro e w' ⟨rfl, hw⟩; subst hw; rw [hp])
    go_ret2
    exact ⟨by rw [HA.out]; rfl, Below.refl _ _⟩

theorem bg_take (l : List UInt8) (m : Nat) : ∀ i, i ≤ m → bg (l.take m) i = bg l i
  | 0, _ => rfl
  | i + 1, h => by
    have e : at8 (l.take m) i = at8 l i := by simp [at8, List.getD, show i < m by omega]
    unfold bg
    rw [e, bg_take l m i (by omega)]

end Go.Proofs.YtppefcnopkmhbaaGreatDoor
