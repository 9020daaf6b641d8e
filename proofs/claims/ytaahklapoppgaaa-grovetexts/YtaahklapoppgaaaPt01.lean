/- change.Apply, change.Check. -/
import Derived.Test.YtaahklapoppgaaaPt00
namespace Go.Proofs.Ytaahklapoppgaaa
open Go.RowKit

set_option maxRecDepth 8000
/-- what Apply gives -/
def ApG (o : Option (List UInt8)) (w : World) (e : Ending) (w' : World) : Prop :=
  (∃ U v, o = some U ∧ e = .returned (.tuple #[v, .int .i64 0]) ∧ w'.ownsRow w.heap.size 5 1 v U.length (bv U) ∧ Below w.heap.size w w') ∨ (o = none ∧ e = .returned (.tuple #[.slice none 0 0, .int .i64 170]) ∧ Below w.heap.size w w')
/-- no text on the way is too long -/
def Mod (T : List UInt8) (D : List Ed) : Prop := ∀ k U, app T (D.take k) = some U → U.length ≤ 140737488355328
theorem app_next {T V : List UInt8} {E : List Er} {i : Nat} {r : Er} (h : app T ((E.map Er.d).take i) = some V) (hr : E[i]? = some r) (hf : fitB V r.d = true) : app T ((E.map Er.d).take (i + 1)) = some (stp V r.d) := by
  have hd : (E.map Er.d)[i]? = some r.d := by rw [List.getElem?_map, hr]; rfl
  obtain ⟨hi, e⟩ := List.getElem?_eq_some_iff.1 hd
  rw [List.take_succ_eq_append_getElem hi, e, app_snoc h, if_pos hf]
theorem app_stop {T V : List UInt8} {E : List Er} {i : Nat} {r : Er} (h : app T ((E.map Er.d).take i) = some V) (hr : E[i]? = some r) (hf : fitB V r.d = false) : app T (E.map Er.d) = none := by
  have hd : (E.map Er.d)[i]? = some r.d := by rw [List.getElem?_map, hr]; rfl
  obtain ⟨hi, e⟩ := List.getElem?_eq_some_iff.1 hd
  rw [← List.take_append_drop i (E.map Er.d), app_append, h, List.drop_eq_getElem_cons hi, e]
  show (if fitB V r.d then _ else none) = none
  rw [hf]; rfl
set_option maxHeartbeats 8000000 in
theorem apply_any (ao : Option Addr) (n c : Nat) (T : List UInt8) (eo : Option Addr) (en ec : Nat) (E : List Er) (w : World) (hT : Hid (Tx w ao n c T)) (hb : n ≤ 140737488355328) (HE : Hid (Edz w eo E)) (hn : E.length = en) (heb : en ≤ 140737488355328) (HM : Hid (Mod T (E.map Er.d))) :
    Calls Try.prog 34 #[.slice ao n c, .slice eo en ec] w fun e w' => ApG (app T (E.map Er.d)) w e w' := by
  have HN := Hid.mk' hn
  have C30 := Hid.mk' (clone_any ao n c T w hb hT)
  have hTl := Hid.mk' hT.out.len
  clear hn hb
  go_enter Try.func34, Try.ntmps34
  go_wp2_with fail
  refine C30.out.mono ?_
  rintro e w0 ⟨v0, rfl, hO, hB⟩
  have O0 : Hid (w0.ownsRow w.heap.size 5 1 v0 T.length (bv T)) := by unfold Hid; rw [hTl.out]; exact hO
  have B0 := Hid.mk' hB
  clear hO hB C30
  dsimp only
  go_wp2_with fail
  go_loopg [6, 8, 13] en (fun m x6 x8 x13 wx => ∃ (i : Nat) (V : List UInt8), x13 = .int .i64 (i : Int) ∧ i + m = en ∧ Hid (app T ((E.map Er.d).take i) = some V) ∧ Hid (wx.ownsRow w.heap.size 5 1 x6 V.length (bv V)) ∧ Hid (Below w.heap.size w wx))
  case atStart => exact ⟨0, T, rfl, by omega, rfl, O0.out, B0.out⟩
  case round =>
    obtain ⟨i, V, rfl, him, HV, KO, KB⟩ := hrel
    obtain ⟨go, hgo⟩ : ∃ g, g = gk - 1 := ⟨_, rfl⟩
    clear O0 B0
    by_cases hi : i < en
    · have hi' : (i : Int) < (en : Int) := by omega
      have hi0 : (0 : Int) ≤ (i : Int) := by omega
      obtain ⟨r, hr⟩ : ∃ r, E[i]? = some r := ⟨_, List.getElem?_eq_getElem (by have := HN.out; omega)⟩
      obtain ⟨g, o, rfl, h3⟩ := HE.out.row.ed3 hr
      have hEt0 := HE.out.txs i r hr
      have HET0 := Hid.mk' hEt0
      have h4 := h3.keep KB.out
      have HR := Hid.mk' hr
      have HVl : Hid (V.length ≤ 140737488355328) := HM.out i V HV.out
      obtain ⟨x6a, x6c, e6, hTx6⟩ := own_tx KO.out (by have := HVl.out; omega)
      subst e6
      have hfd : ∃ b, fitB V r.d = b := ⟨_, rfl⟩
      obtain ⟨b, hb⟩ := hfd
      have HF := Hid.mk' hb
      have CF0 := fun W (hW : Below wr.heap.size wr W) => efits_any x6a V.length x6c V r W (hTx6.keep hW) ((hEt0.keep KB.out).keep hW)
      rw [hb] at CF0
      obtain ⟨ra, rp1, ro, rc1, rO, rp2, rn, rc2, rN⟩ := r
      have CF : Hid (∀ W, Below wr.heap.size wr W → Calls Try.prog 64 #[.slice x6a V.length x6c, .agg #[.int .i64 ra, .slice rp1 ro rc1, .slice rp2 rn rc2]] W fun e w' => e = .returned (.bool b) ∧ Below W.heap.size W w') := CF0
      dsimp only at h4
      have t0 := h4.e0
      have t1 := h4.e1
      have t2 := h4.e2
      clear hr h3 h4 hEt0 hTx6 CF0 hb
      obtain ⟨w1, hw1⟩ : ∃ w1, w1 = wr.alloc (.cells #[.int .i64 ra, .slice rp1 ro rc1, .slice rp2 rn rc2] 77) := ⟨_, rfl⟩
      have B1 : Hid (Below wr.heap.size wr w1) := by unfold Hid; rw [hw1]; exact bAlloc (Below.refl _ _) _
      have Y0 : Hid (Blk w1 wr.heap.size 77 #[.int .i64 ra, .slice rp1 ro rc1, .slice rp2 rn rc2]) := by unfold Hid; rw [hw1]; exact Blk.new _ _ _
      go_upto_region 5 with fail
      rw [← hw1]
      clear hw1 t0 t1 t2
      have y0 : w1.cell? ⟨wr.heap.size, 0, none⟩ = some (.int .i64 ra) := Y0.out.cell rfl
      have y1 : w1.cell? ⟨wr.heap.size, 1, none⟩ = some (.slice rp1 ro rc1) := Y0.out.cell rfl
      have y2 : w1.cell? ⟨wr.heap.size, 2, none⟩ = some (.slice rp2 rn rc2) := Y0.out.cell rfl
      go_wp2_with fail
      refine (CF.out w1 B1.out).mono ?_
      rintro e w2 ⟨rfl, hb2⟩
      have B2 := Hid.mk' (bT B1.out hb2)
      have Y2 := Hid.mk' (Y0.out.keep hb2)
      have L2 := Hid.mk' (bT KB.out B2.out)
      clear hb2 CF y0 y1 y2 Y0 B1
      dsimp only
      cases b with
      | false =>
        have HZ : Hid (app T (E.map Er.d) = none) := app_stop HV.out HR.out HF.out
        go_wp2
        exact bodyPost_ret (v := .tuple #[.slice none 0 0, .int .i64 170]) (by simp [results, Try.results34]) rfl (.inr ⟨HZ.out, rfl, L2.out⟩)
      | true =>
        obtain ⟨p, hp1, hp2, hp3⟩ := fitB_iff.1 HF.out
        have hpl := fit_len hp2 hp3
        have hol := HET0.out.t1.len
        have hnl := HET0.out.t2.len
        have hnb := HET0.out.b2
        dsimp only [Er.d] at hp1 hp3 hpl hol hnl hnb
        subst hp1
        obtain ⟨j, hj⟩ : ∃ j, j = p + ro := ⟨_, rfl⟩
        have hVl := HVl.out
        have hw9 : IntKind.i64.wrap ((p : Int) + (ro : Int)) = (j : Int) := by rw [IntKind.wrap_i64]; omega
        have hnx := app_next HV.out HR.out HF.out
        have hst : stp V (Er.d ⟨(p : Int), rp1, ro, rc1, rO, rp2, rn, rc2, rN⟩) = V.take p ++ rN ++ V.drop j := by
          show V.take p ++ rN ++ V.drop (p + rO.length) = _
          rw [hj, hol]
        rw [hst] at hnx
        have hlen : (V.take p ++ rN ++ V.drop j).length = p + rn + (V.length - j) := by simp only [List.length_append, List.length_take, List.length_drop]; omega
        have hbd := HM.out (i + 1) _ hnx
        have CR := Hid.mk' (replace_any w.heap.size (.slice x6a V.length x6c) V.length p j V rp2 rn rc2 (p + rn + (V.length - j)) rN w2 (own_keep KO.out B2.out) (HET0.out.t2.keep L2.out) (fun hm a ha => by
          obtain ⟨a', u, e', hc⟩ := HET0.out.t2.ne hm
          rw [show (rp2 : Option Addr) = some a' from e'] at ha
          injection ha with ha
          subst ha
          exact lt_of_cell hc) (by omega) (by omega) rfl (by omega) hnb (by omega) L2.out.size)
        have HNX := Hid.mk' hnx
        have HLN := Hid.mk' hlen
        have y0 : w2.cell? ⟨wr.heap.size, 0, none⟩ = some (.int .i64 (p : Int)) := Y2.out.cell rfl
        have y1 : w2.cell? ⟨wr.heap.size, 1, none⟩ = some (.slice rp1 ro rc1) := Y2.out.cell rfl
        have y2 : w2.cell? ⟨wr.heap.size, 2, none⟩ = some (.slice rp2 rn rc2) := Y2.out.cell rfl
        have hw8 : IntKind.i64.wrap ((i : Int) + 1) = ((i + 1 : Nat) : Int) := by rw [IntKind.wrap_i64]; omega
        have KO2 := Hid.mk' (own_keep KO.out B2.out)
        clear hnx hlen hbd hst hj hVl hpl hol hnl hnb hp2 hp3 Y2 B2 HF
        go_wp2_with fail
        refine CR.out.mono ?_
        rintro e w3 ⟨v', rfl, hO3, hG3, hF3⟩
        have O3 : Hid (w3.ownsRow w.heap.size 5 1 v' (V.take p ++ rN ++ V.drop j).length (bv (V.take p ++ rN ++ V.drop j))) := by unfold Hid; rw [HLN.out]; exact hO3
        have L3 : Hid (Below w.heap.size w w3) := L2.out.grown hG3 L2.out.size (fun k hk => (KO2.out.lt k hk).1)
        clear hO3 hG3 hF3 CR
        dsimp only
        go_wp2
        go_roundg go
        case measure => omega
        case rel => exact ⟨i + 1, _, by go_num, by omega, HNX.out, O3.out, L3.out⟩
    · have hi' : ¬ (i : Int) < (en : Int) := by omega
      have HF : Hid (app T (E.map Er.d) = some V) := by
        have h1 := HV.out
        rw [List.take_of_length_le (by rw [List.length_map]; have := HN.out; omega)] at h1
        exact h1
      clear hgo
      go_wp2
      exact bodyPost_ret (v := .tuple #[u6, .int .i64 0]) (by simp [results, Try.results34]) rfl (.inl ⟨V, _, HF.out, rfl, KO.out, KB.out⟩)
end Go.Proofs.Ytaahklapoppgaaa