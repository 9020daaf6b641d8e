/- App, Lpr, Tkffn, Tkffe, Tkffm, Tkftn, Tkfte, Tkftm, Tktfn -/
import Derived.Test.YtppefcnopkmhbaaGreatDoorPs04
import Derived.Test.YtppefcnopkmhbaaGreatDoorPs06
import Derived.Test.YtppefcnopkmhbaaGreatDoorPs01
namespace Go.Proofs.YtppefcnopkmhbaaGreatDoor
open Go.RowKit

set_option maxRecDepth 8000
/-- what Apply gives -/
def ApG (o : Option (List UInt8)) (w : World) (e : Ending) (w' : World) : Prop :=
  (∃ U v, o = some U ∧ e = .returned (.tuple #[v, .int .i64 0]) ∧ w'.ownsRow w.heap.size 5 1 v U.length (bv U) ∧ Below w.heap.size w w') ∨ (o = none ∧ e = .returned (.tuple #[.slice none 0 0, .int .i64 170]) ∧ Below w.heap.size w w')
/-- no text on the way is too long -/
def Mod (T : List UInt8) (D : List Ed) : Prop := ∀ k U, app T (D.take k) = some U → U.length ≤ 140737488355328
theorem app_next {T V : List UInt8} {E : List Er} {i : Nat} {r : Er} (h : app T ((E.map Er.d).take i) = some V) (hr : E[i]? = some r) (hf : fitB V r.d = true) : app T ((E.map Er.d).take (i + 1)) = some (stp V r.d) := by
  have hd : (E.map Er.d)[i]? = some r.d := by rw [List.getElem?_map, hr]; rfl
  obtain ⟨hi, e⟩ := List.getElem?_eq_some_iff.1 hd
  rw [List.take_succ_eq_append_getElem hi, e, app_snoc h, if_pos hf]
theorem app_stop {T V : List UInt8} {E : List Er} {i : Nat} {r : Er} (h : app T ((E.map Er.d).take i) = some V) (hr : E[i]? = some r) (hf : fitB V r.d = false) : app T (E.map Er.d) = none := by
  have hd : (E.map Er.d)[i]? = some r.d := by rw [List.getElem?_map, hr]; rfl
  obtain ⟨hi, e⟩ := List.getElem?_eq_some_iff.1 hd
  rw [← List.take_append_drop i (E.map Er.d), app_append, h, List.drop_eq_getElem_cons hi, e]
  show (if fitB V r.d then _ else none) = none
  rw [hf]; rfl
set_option maxHeartbeats 8000000 in
theorem apply_any (ao : Option Addr) (n c : Nat) (T : List UInt8) (eo : Option Addr) (en ec : Nat) (E : List Er) (w : World) (hT : Hid (Tx w ao n c T)) (hb : n ≤ 140737488355328) (HE : Hid (Edz w eo E)) (hn : E.length = en) (heb : en ≤ 140737488355328) (HM : Hid (Mod T (E.map Er.d))) :
    Calls Tryz.prog 58 #[.slice ao n c, .slice eo en ec] w fun e w' => ApG (app T (E.map Er.d)) w e w' := by
  have HN := Hid.mk' hn
  have C30 := Hid.mk' (clone_any ao n c T w hb hT)
  have hTl := Hid.mk' hT.out.len
  clear hn hb
  go_enter Tryz.func58, Tryz.ntmps58
  go_wp2_with fail
  refine C30.out.mono ?_
  rintro e w0 ⟨v0, rfl, hO, hB⟩
  have O0 : Hid (w0.ownsRow w.heap.size 5 1 v0 T.length (bv T)) := by unfold Hid; rw [hTl.out]; exact hO
  have B0 := Hid.mk' hB
  clear hO hB C30
  dsimp only
  go_wp2_with fail
  go_loopg [6, 8, 13] en (fun m x6 x8 x13 wx => ∃ (i : Nat) (V : List UInt8), x13 = .int .i64 (i : Int) ∧ i + m = en ∧ Hid (app T ((E.map Er.d).take i) = some V) ∧ Hid (wx.ownsRow w.heap.size 5 1 x6 V.length (bv V)) ∧ Hid (Below w.heap.size w wx))
  case atStart => exact ⟨0, T, rfl, by omega, rfl, O0.out, B0.out⟩
  case round =>
    obtain ⟨i, V, rfl, him, HV, KO, KB⟩ := hrel
    obtain ⟨go, hgo⟩ : ∃ g, g = gk - 1 := ⟨_, rfl⟩
    clear O0 B0
    by_cases hi : i < en
    · have hi' : (i : Int) < (en : Int) := by omega
      have hi0 : (0 : Int) ≤ (i : Int) := by omega
      obtain ⟨r, hr⟩ : ∃ r, E[i]? = some r := ⟨_, List.getElem?_eq_getElem (by have := HN.out; omega)⟩
      obtain ⟨g, o, rfl, h3⟩ := HE.out.row.ed3 hr
      have hEt0 := HE.out.txs i r hr
      have HET0 := Hid.mk' hEt0
      have h4 := h3.keep KB.out
      have HR := Hid.mk' hr
      have HVl : Hid (V.length ≤ 140737488355328) := HM.out i V HV.out
      obtain ⟨x6a, x6c, e6, hTx6⟩ := own_tx KO.out (by have := HVl.out; omega)
      subst e6
      have hfd : ∃ b, fitB V r.d = b := ⟨_, rfl⟩
      obtain ⟨b, hb⟩ := hfd
      have HF := Hid.mk' hb
      have CF0 := fun W (hW : Below wr.heap.size wr W) => efits_any x6a V.length x6c V r W (hTx6.keep hW) ((hEt0.keep KB.out).keep hW)
      rw [hb] at CF0
      obtain ⟨ra, rp1, ro, rc1, rO, rp2, rn, rc2, rN⟩ := r
      have CF : Hid (∀ W, Below wr.heap.size wr W → Calls Tryz.prog 94 #[.slice x6a V.length x6c, .agg #[.int .i64 ra, .slice rp1 ro rc1, .slice rp2 rn rc2]] W fun e w' => e = .returned (.bool b) ∧ Below W.heap.size W w') := CF0
      dsimp only at h4
      have t0 := h4.e0
      have t1 := h4.e1
      have t2 := h4.e2
      clear hr h3 h4 hEt0 hTx6 CF0 hb
      obtain ⟨w1, hw1⟩ : ∃ w1, w1 = wr.alloc (.cells #[.int .i64 ra, .slice rp1 ro rc1, .slice rp2 rn rc2] 65) := ⟨_, rfl⟩
      have B1 : Hid (Below wr.heap.size wr w1) := by unfold Hid; rw [hw1]; exact bAlloc (Below.refl _ _) _
      have Y0 : Hid (Blk w1 wr.heap.size 65 #[.int .i64 ra, .slice rp1 ro rc1, .slice rp2 rn rc2]) := by unfold Hid; rw [hw1]; exact Blk.new _ _ _
      go_upto_region 5 with fail
      rw [← hw1]
      clear hw1 t0 t1 t2
      have y0 : w1.cell? ⟨wr.heap.size, 0, none⟩ = some (.int .i64 ra) := Y0.out.cell rfl
      have y1 : w1.cell? ⟨wr.heap.size, 1, none⟩ = some (.slice rp1 ro rc1) := Y0.out.cell rfl
      have y2 : w1.cell? ⟨wr.heap.size, 2, none⟩ = some (.slice rp2 rn rc2) := Y0.out.cell rfl
      go_wp2_with fail
      refine (CF.out w1 B1.out).mono ?_
      rintro e w2 ⟨rfl, hb2⟩
      have B2 := Hid.mk' (bT B1.out hb2)
      have Y2 := Hid.mk' (Y0.out.keep hb2)
      have L2 := Hid.mk' (bT KB.out B2.out)
      clear hb2 CF y0 y1 y2 Y0 B1
      dsimp only
      cases b with
      | false =>
        have HZ : Hid (app T (E.map Er.d) = none) := app_stop HV.out HR.out HF.out
        go_wp2
        exact bodyPost_ret (v := .tuple #[.slice none 0 0, .int .i64 170]) (by simp [results, Tryz.results58]) rfl (.inr ⟨HZ.out, rfl, L2.out⟩)
      | true =>
        obtain ⟨p, hp1, hp2, hp3⟩ := fitB_iff.1 HF.out
        have hpl := fit_len hp2 hp3
        have hol := HET0.out.t1.len
        have hnl := HET0.out.t2.len
        have hnb := HET0.out.b2
        dsimp only [Er.d] at hp1 hp3 hpl hol hnl hnb
        subst hp1
        obtain ⟨j, hj⟩ : ∃ j, j = p + ro := ⟨_, rfl⟩
        have hVl := HVl.out
        have hw9 : IntKind.i64.wrap ((p : Int) + (ro : Int)) = (j : Int) := by rw [IntKind.wrap_i64]; omega
        have hnx := app_next HV.out HR.out HF.out
        have hst : stp V (Er.d ⟨(p : Int), rp1, ro, rc1, rO, rp2, rn, rc2, rN⟩) = V.take p ++ rN ++ V.drop j := by
          show V.take p ++ rN ++ V.drop (p + rO.length) = _
          rw [hj, hol]
        rw [hst] at hnx
        have hlen : (V.take p ++ rN ++ V.drop j).length = p + rn + (V.length - j) := by simp only [List.length_append, List.length_take, List.length_drop]; omega
        have hbd := HM.out (i + 1) _ hnx
        have CR := Hid.mk' (replace_any w.heap.size (.slice x6a V.length x6c) V.length p j V rp2 rn rc2 (p + rn + (V.length - j)) rN w2 (own_keep KO.out B2.out) (HET0.out.t2.keep L2.out) (fun hm a ha => by
          obtain ⟨a', u, e', hc⟩ := HET0.out.t2.ne hm
          rw [show (rp2 : Option Addr) = some a' from e'] at ha
          injection ha with ha
          subst ha
          exact lt_of_cell hc) (by omega) (by omega) rfl (by omega) hnb (by omega) L2.out.size)
        have HNX := Hid.mk' hnx
        have HLN := Hid.mk' hlen
        have y0 : w2.cell? ⟨wr.heap.size, 0, none⟩ = some (.int .i64 (p : Int)) := Y2.out.cell rfl
        have y1 : w2.cell? ⟨wr.heap.size, 1, none⟩ = some (.slice rp1 ro rc1) := Y2.out.cell rfl
        have y2 : w2.cell? ⟨wr.heap.size, 2, none⟩ = some (.slice rp2 rn rc2) := Y2.out.cell rfl
        have hw8 : IntKind.i64.wrap ((i : Int) + 1) = ((i + 1 : Nat) : Int) := by rw [IntKind.wrap_i64]; omega
        have KO2 := Hid.mk' (own_keep KO.out B2.out)
        clear hnx hlen hbd hst hj hVl hpl hol hnl hnb hp2 hp3 Y2 B2 HF
        go_wp2_with fail
        refine CR.out.mono ?_
        rintro e w3 ⟨v', rfl, hO3, hG3, hF3⟩
        have O3 : Hid (w3.ownsRow w.heap.size 5 1 v' (V.take p ++ rN ++ V.drop j).length (bv (V.take p ++ rN ++ V.drop j))) := by unfold Hid; rw [HLN.out]; exact hO3
        have L3 : Hid (Below w.heap.size w w3) := L2.out.grown hG3 L2.out.size (fun k hk => (KO2.out.lt k hk).1)
        clear hO3 hG3 hF3 CR
        dsimp only
        go_wp2
        go_roundg go
        case measure => omega
        case rel => exact ⟨i + 1, _, by go_num, by omega, HNX.out, O3.out, L3.out⟩
    · have hi' : ¬ (i : Int) < (en : Int) := by omega
      have HF : Hid (app T (E.map Er.d) = some V) := by
        have h1 := HV.out
        rw [List.take_of_length_le (by rw [List.length_map]; have := HN.out; omega)] at h1
        exact h1
      clear hgo
      go_wp2
      exact bodyPost_ret (v := .tuple #[u6, .int .i64 0]) (by simp [results, Tryz.results58]) rfl (.inl ⟨V, _, HF.out, rfl, KO.out, KB.out⟩)
end Go.Proofs.YtppefcnopkmhbaaGreatDoor

namespace Go.Proofs.YtppefcnopkmhbaaGreatDoor
open Go.RowKit

theorem rgB_mk {l : List UInt8} {F T : Int} {L D : Bool} (h1 : 0 ≤ F) (h2 : F ≤ T) (h3 : T ≤ l.length) (h4 : D = false ∨ leB l F = true) : rgB l F T L D = true := by
  unfold rgB
  rw [decide_eq_true ⟨h1, h2, h3⟩, Bool.true_and]
  rcases h4 with h4 | h4
  · rw [h4]; simp
  · rw [h4]; simp
/-- the bytes from a to b -/
def sl (l : List UInt8) (a b : Nat) : List UInt8 := (l.drop a).take (b - a)
theorem sl_app (l : List UInt8) {a b c : Nat} (h1 : a ≤ b) (h2 : b ≤ c) : sl l a b ++ sl l b c = sl l a c := by
  unfold sl
  rw [show c - a = (b - a) + (c - b) from by omega, List.take_add, List.drop_drop, show a + (b - a) = b from by omega]
theorem sl_len {l : List UInt8} {a b : Nat} (hb : b ≤ l.length) : (sl l a b).length = b - a := by unfold sl; simp; omega
theorem sp_mono {l : List UInt8} {i j : Nat} (h : i ≤ j) (hj : j ≤ nl l) : sp l i ≤ sp l j := by
  rcases Nat.lt_or_ge (sp l j) (sp l i) with hh | hh
  · have := (sp_st hj).lt (sp_st (by omega)) hh; omega
  · exact hh
end Go.Proofs.YtppefcnopkmhbaaGreatDoor

namespace Go.Proofs.YtppefcnopkmhbaaGreatDoor
open Go.RowKit

set_option maxRecDepth 8000
set_option maxHeartbeats 4000000 in
theorem take_ff_none (w : World) :
    Calls Tryz.prog 100 #[.slice none 0 0, .agg #[.int .i64 0, .int .i64 0, .bool false, .bool false]] w fun e w' => ∃ v, e = tr true false v 0 ∧ w'.ownsRow w.heap.size 5 1 v (tk [] 0 0 false false).length (bv (tk [] 0 0 false false)) ∧ Below w.heap.size w w' := by
  obtain ⟨i5, hi5, hz5, hs5, hb5⟩ := info_parts info5
  have HT := Hid.mk' (tx_nil w)
  obtain ⟨B, hB0⟩ : ∃ B : List UInt8, B = [] := ⟨_, rfl⟩
  have HTK : Hid (tk [] 0 0 false false = B) := by unfold Hid; rw [hB0]; rfl
  have HBL : Hid (B.length = 0) := by unfold Hid; rw [hB0]; rfl
  have HB0 := Hid.mk' hB0
  clear hB0
  have SR : Hid (Srv (((w.alloc (.cells #[.int .i64 (0), .int .i64 (0), .bool false, .bool false] 28)).alloc (.cells #[.bool false, .bool false, .slice none 0 0] 33)).drew) (.slice none 0 0) 0 (bv B)) := by unfold Hid; rw [HB0.out]; exact .inl ⟨rfl, rfl, rfl⟩
  have CL := Hid.mk' (isLE_any none 0 0 0 [] _ (HT.out.keep (bAlloc (bAlloc (Below.refl _ w) (.cells #[.int .i64 (0), .int .i64 (0), .bool false, .bool false] 28)) (.cells #[.bool false, .bool false, .slice none 0 0] 33))))
  go_enter Tryz.func100, Tryz.ntmps100
  go_wp2_with (go_at_call 129; refine CL.out.mono ?_; rintro e w' ⟨rfl, hw⟩; have hq := hw.symm; subst hq; clear hw)
  go_region
  all_goals go_wp2_with (at_builtin; refine append_srv rfl (.const (.slice none 0 0)) (.tmp 57) 22 rfl (w.heap.size + 2) 5 i5 (.int .u8 0) 1 1 Tryz.underlying22 hi5 hz5 hs5 hb5 rfl (by decide) (.slice none 0 0) 0 [] rfl (World.ownsRow_nil _ _ _ _) (.slice none 0 0) 0 (bv B) rfl SR.out ?q1 (bv_one _) ?q2 ?q3 ?q4 ?_)
  case q1 => rw [bv_length, HBL.out, Nat.mul_one]
  case q2 => unfold maxLen; omega
  case q3 => omega
  case q4 => simp
  intro v1 w2 hown1 hgrow1 _
  have HW1 : Hid (w2.ownsRow (w.heap.size + 2) 5 1 v1 0 (bv B)) := by unfold Hid; simpa using hown1
  have L0 : Hid (Below (w.heap.size + 2) ((w.alloc (.cells #[.int .i64 (0), .int .i64 (0), .bool false, .bool false] 28)).alloc (.cells #[.bool false, .bool false, .slice none 0 0] 33)) w2) := (Below.refl _ _).drew.grown hgrow1 (by simp) (fun k hk => by simp [Value.ownBlock] at hk)
  have L1 : Hid (Below w.heap.size w w2) := (bAlloc (bAlloc (Below.refl _ w) (.cells #[.int .i64 (0), .int .i64 (0), .bool false, .bool false] 28)) (.cells #[.bool false, .bool false, .slice none 0 0] 33)).trans (L0.out.mono (by omega))
  obtain ⟨ax, cx, ev1⟩ := own_shape HW1.out
  subst ev1
  obtain ⟨k0, k1, k2, k3, z0, z1, z2, y0, y1, y2, hz⟩ := tk_cells L0.out
  clear hown1 hgrow1
  go_wp2
  exact bodyPost_ret (v := .tuple #[.agg #[.bool true, .bool false, .slice ax 0 cx], .int .i64 0]) (by simp [results, Tryz.results100, go_sem, z0, z1, z2]) rfl ⟨_, rfl, by rw [HTK.out]; have h := own_set3 (b := w.heap.size) HW1.out (x := .bool true) (y := .bool false) (z := .slice ax 0 cx); rw [HBL.out]; exact h, bset3' L1.out _ _ _⟩

end Go.Proofs.YtppefcnopkmhbaaGreatDoor

namespace Go.Proofs.YtppefcnopkmhbaaGreatDoor
open Go.RowKit

set_option maxRecDepth 8000
set_option maxHeartbeats 4000000 in
theorem take_ff_end (n : Nat) (l : List UInt8) (w : World) (a : Addr) (hbig : n ≤ 140737488351232) (HT : Hid (Tx w (some a) n n l)) :
    Calls Tryz.prog 100 #[.slice (some a) n n, .agg #[.int .i64 (n : Int), .int .i64 (n : Int), .bool false, .bool false]] w fun e w' => ∃ v, e = tr true false v 0 ∧ w'.ownsRow w.heap.size 5 1 v (tk l n n false false).length (bv (tk l n n false false)) ∧ Below w.heap.size w w' := by
  obtain ⟨i5, hi5, hz5, hs5, hb5⟩ := info_parts info5
  have hbn : (n : Int) ≤ 140737488351232 := by omega
  obtain ⟨B, hB⟩ : ∃ B, tkb l n n false = B := ⟨_, rfl⟩
  have HTK : Hid (tk l n n false false = B) := by unfold Hid tk; rw [← hB]; rfl
  have hB0 : B = [] := by rw [← hB]; unfold tkb; rw [show n - (n + false.toNat) = 0 from by simp]; rfl
  have HBL : Hid (B.length = 0) := by unfold Hid; rw [hB0]; rfl
  have HB0 := Hid.mk' hB0
  clear hB0
  clear hB
  have SR : Hid (Srv (((w.alloc (.cells #[.int .i64 ((n : Int)), .int .i64 ((n : Int)), .bool false, .bool false] 28)).alloc (.cells #[.bool false, .bool false, .slice none 0 0] 33)).drew) (.slice (some a) 0 0) 0 (bv B)) := by unfold Hid; rw [HB0.out]; exact .inr ⟨a, 0, rfl, fun j u hj => by simp [bv] at hj⟩
  have CL := Hid.mk' (isLE_any (some a) n n (n : Int) l _ (HT.out.keep (bAlloc (bAlloc (Below.refl _ w) (.cells #[.int .i64 ((n : Int)), .int .i64 ((n : Int)), .bool false, .bool false] 28)) (.cells #[.bool false, .bool false, .slice none 0 0] 33))))
  go_enter Tryz.func100, Tryz.ntmps100
  go_wp2_with (go_at_call 129; refine CL.out.mono ?_; rintro e w' ⟨rfl, hw⟩; have hq := hw.symm; subst hq; clear hw)
  go_region
  all_goals go_wp2_with (at_builtin; refine append_srv rfl (.const (.slice none 0 0)) (.tmp 57) 22 rfl (w.heap.size + 2) 5 i5 (.int .u8 0) 1 1 Tryz.underlying22 hi5 hz5 hs5 hb5 rfl (by decide) (.slice none 0 0) 0 [] rfl (World.ownsRow_nil _ _ _ _) (.slice (some a) 0 0) 0 (bv B) rfl SR.out ?q1 (bv_one _) ?q2 ?q3 ?q4 ?_)
  case q1 => rw [bv_length, HBL.out, Nat.mul_one]
  case q2 => unfold maxLen; omega
  case q3 => omega
  case q4 => simp
  intro v1 w2 hown1 hgrow1 _
  have HW1 : Hid (w2.ownsRow (w.heap.size + 2) 5 1 v1 0 (bv B)) := by unfold Hid; simpa using hown1
  have L0 : Hid (Below (w.heap.size + 2) ((w.alloc (.cells #[.int .i64 ((n : Int)), .int .i64 ((n : Int)), .bool false, .bool false] 28)).alloc (.cells #[.bool false, .bool false, .slice none 0 0] 33)) w2) := (Below.refl _ _).drew.grown hgrow1 (by simp) (fun k hk => by simp [Value.ownBlock] at hk)
  have L1 : Hid (Below w.heap.size w w2) := (bAlloc (bAlloc (Below.refl _ w) (.cells #[.int .i64 ((n : Int)), .int .i64 ((n : Int)), .bool false, .bool false] 28)) (.cells #[.bool false, .bool false, .slice none 0 0] 33)).trans (L0.out.mono (by omega))
  obtain ⟨ax, cx, ev1⟩ := own_shape HW1.out
  subst ev1
  obtain ⟨k0, k1, k2, k3, z0, z1, z2, y0, y1, y2, hz⟩ := tk_cells L0.out
  clear hown1 hgrow1
  go_wp2
  exact bodyPost_ret (v := .tuple #[.agg #[.bool true, .bool false, .slice ax 0 cx], .int .i64 0]) (by simp [results, Tryz.results100, go_sem, z0, z1, z2]) rfl ⟨_, rfl, by rw [HTK.out]; have h := own_set3 (b := w.heap.size) HW1.out (x := .bool true) (y := .bool false) (z := .slice ax 0 cx); rw [HBL.out]; exact h, bset3' L1.out _ _ _⟩

end Go.Proofs.YtppefcnopkmhbaaGreatDoor

namespace Go.Proofs.YtppefcnopkmhbaaGreatDoor
open Go.RowKit

set_option maxRecDepth 8000
set_option maxHeartbeats 4000000 in
theorem take_ff_mid (ao0 : Option Addr) (n c f t : Nat) (l : List UInt8) (w : World) (hft : f ≤ t) (htn : t ≤ n) (hbig : n ≤ 140737488351232) (HT : Hid (Tx w ao0 n c l)) (a : Addr) (hao : ao0 = some a) (hce : ¬ c = f) :
    Calls Tryz.prog 100 #[.slice ao0 n c, .agg #[.int .i64 (f : Int), .int .i64 (t : Int), .bool false, .bool false]] w fun e w' => ∃ v, e = tr true false v 0 ∧ w'.ownsRow w.heap.size 5 1 v (tk l f t false false).length (bv (tk l f t false false)) ∧ Below w.heap.size w w' := by
  obtain ⟨i5, hi5, hz5, hs5, hb5⟩ := info_parts info5
  have hlen := Hid.mk' HT.out.len
  have hcap := HT.out.cap
  have hbn : (n : Int) ≤ 140737488351232 := by omega
  have hft' : (f : Int) ≤ t := by omega
  have htn' : (t : Int) ≤ n := by omega
  obtain ⟨B, hB⟩ : ∃ B, tkb l f t false = B := ⟨_, rfl⟩
  have HTK : Hid (tk l f t false false = B) := by unfold Hid tk; rw [← hB]; rfl
  obtain ⟨m, hm⟩ : ∃ m, t - f = m := ⟨_, rfl⟩
  have hB2 : B = (l.drop f).take m := by
    rw [← hB, ← hm]; rfl
  have hmI : (t : Int) - (f : Int) = (m : Int) := by omega
  have hmn : m ≤ n := by omega
  have HBL : Hid (B.length = m) := by unfold Hid; rw [hB2, List.length_take, List.length_drop, hlen.out]; omega
  subst hao
  have T1 := Hid.mk' ((HT.out.tail (s := f) (by omega)).head (i := m) (by omega))
  rw [← hB2] at T1
  have hcn : m ≤ c - (f) := by omega
  have hmN : t - (f) = m := by omega
  clear hB hB2
  have SR : Hid (Srv (((w.alloc (.cells #[.int .i64 ((f : Int)), .int .i64 ((t : Int)), .bool false, .bool false] 28)).alloc (.cells #[.bool false, .bool false, .slice none 0 0] 33)).drew) (.slice (some (a.add (f))) m (c - (f))) m (bv B)) := (T1.out.keep (bAlloc (bAlloc (Below.refl _ w) (.cells #[.int .i64 ((f : Int)), .int .i64 ((t : Int)), .bool false, .bool false] 28)) (.cells #[.bool false, .bool false, .slice none 0 0] 33)).drew).srv
  have CL := Hid.mk' (isLE_any (some a) n c (f : Int) l _ (HT.out.keep (bAlloc (bAlloc (Below.refl _ w) (.cells #[.int .i64 ((f : Int)), .int .i64 ((t : Int)), .bool false, .bool false] 28)) (.cells #[.bool false, .bool false, .slice none 0 0] 33))))
  go_enter Tryz.func100, Tryz.ntmps100
  go_wp2_with (go_at_call 129; refine CL.out.mono ?_; rintro e w' ⟨rfl, hw⟩; have hq := hw.symm; subst hq; clear hw)
  go_region
  all_goals go_wp2_with (at_builtin; refine append_srv rfl (.const (.slice none 0 0)) (.tmp 57) 22 rfl (w.heap.size + 2) 5 i5 (.int .u8 0) 1 1 Tryz.underlying22 hi5 hz5 hs5 hb5 rfl (by decide) (.slice none 0 0) 0 [] rfl (World.ownsRow_nil _ _ _ _) (.slice (some (a.add (f))) m (c - (f))) m (bv B) rfl SR.out ?q1 (bv_one _) ?q2 ?q3 ?q4 ?_)
  case q1 => rw [bv_length, HBL.out, Nat.mul_one]
  case q2 => unfold maxLen; omega
  case q3 => omega
  case q4 => simp
  intro v1 w2 hown1 hgrow1 _
  have HW1 : Hid (w2.ownsRow (w.heap.size + 2) 5 1 v1 m (bv B)) := by unfold Hid; simpa using hown1
  have L0 : Hid (Below (w.heap.size + 2) ((w.alloc (.cells #[.int .i64 ((f : Int)), .int .i64 ((t : Int)), .bool false, .bool false] 28)).alloc (.cells #[.bool false, .bool false, .slice none 0 0] 33)) w2) := (Below.refl _ _).drew.grown hgrow1 (by simp) (fun k hk => by simp [Value.ownBlock] at hk)
  have L1 : Hid (Below w.heap.size w w2) := (bAlloc (bAlloc (Below.refl _ w) (.cells #[.int .i64 ((f : Int)), .int .i64 ((t : Int)), .bool false, .bool false] 28)) (.cells #[.bool false, .bool false, .slice none 0 0] 33)).trans (L0.out.mono (by omega))
  obtain ⟨ax, cx, ev1⟩ := own_shape HW1.out
  subst ev1
  obtain ⟨k0, k1, k2, k3, z0, z1, z2, y0, y1, y2, hz⟩ := tk_cells L0.out
  clear hown1 hgrow1
  go_wp2
  exact bodyPost_ret (v := .tuple #[.agg #[.bool true, .bool false, .slice ax m cx], .int .i64 0]) (by simp [results, Tryz.results100, go_sem, z0, z1, z2]) rfl ⟨_, rfl, by rw [HTK.out]; have h := own_set3 (b := w.heap.size) HW1.out (x := .bool true) (y := .bool false) (z := .slice ax m cx); rw [HBL.out]; exact h, bset3' L1.out _ _ _⟩

end Go.Proofs.YtppefcnopkmhbaaGreatDoor

namespace Go.Proofs.YtppefcnopkmhbaaGreatDoor
open Go.RowKit

set_option maxRecDepth 8000
set_option maxHeartbeats 4000000 in
theorem take_ft_none (w : World) :
    Calls Tryz.prog 100 #[.slice none 0 0, .agg #[.int .i64 0, .int .i64 0, .bool false, .bool true]] w fun e w' => ∃ v, e = tr true false v 0 ∧ w'.ownsRow w.heap.size 5 1 v (tk [] 0 0 false true).length (bv (tk [] 0 0 false true)) ∧ Below w.heap.size w w' := by
  obtain ⟨i5, hi5, hz5, hs5, hb5⟩ := info_parts info5
  have HT := Hid.mk' (tx_nil w)
  obtain ⟨B, hB0⟩ : ∃ B : List UInt8, B = [] := ⟨_, rfl⟩
  have HTK : Hid (tk [] 0 0 false true = B) := by unfold Hid; rw [hB0]; rfl
  have HBL : Hid (B.length = 0) := by unfold Hid; rw [hB0]; rfl
  have HB0 := Hid.mk' hB0
  clear hB0
  have SR : Hid (Srv (((w.alloc (.cells #[.int .i64 (0), .int .i64 (0), .bool false, .bool true] 28)).alloc (.cells #[.bool false, .bool false, .slice none 0 0] 33)).drew) (.slice none 0 0) 0 (bv B)) := by unfold Hid; rw [HB0.out]; exact .inl ⟨rfl, rfl, rfl⟩
  have CL := Hid.mk' (isLE_any none 0 0 0 [] _ (HT.out.keep (bAlloc (bAlloc (Below.refl _ w) (.cells #[.int .i64 (0), .int .i64 (0), .bool false, .bool true] 28)) (.cells #[.bool false, .bool false, .slice none 0 0] 33))))
  go_enter Tryz.func100, Tryz.ntmps100
  go_wp2_with (go_at_call 129; refine CL.out.mono ?_; rintro e w' ⟨rfl, hw⟩; have hq := hw.symm; subst hq; clear hw)
  go_region
  all_goals go_wp2_with (at_builtin; refine append_srv rfl (.const (.slice none 0 0)) (.tmp 57) 22 rfl (w.heap.size + 2) 5 i5 (.int .u8 0) 1 1 Tryz.underlying22 hi5 hz5 hs5 hb5 rfl (by decide) (.slice none 0 0) 0 [] rfl (World.ownsRow_nil _ _ _ _) (.slice none 0 0) 0 (bv B) rfl SR.out ?q1 (bv_one _) ?q2 ?q3 ?q4 ?_)
  case q1 => rw [bv_length, HBL.out, Nat.mul_one]
  case q2 => unfold maxLen; omega
  case q3 => omega
  case q4 => simp
  intro v1 w2 hown1 hgrow1 _
  have HW1 : Hid (w2.ownsRow (w.heap.size + 2) 5 1 v1 0 (bv B)) := by unfold Hid; simpa using hown1
  have L0 : Hid (Below (w.heap.size + 2) ((w.alloc (.cells #[.int .i64 (0), .int .i64 (0), .bool false, .bool true] 28)).alloc (.cells #[.bool false, .bool false, .slice none 0 0] 33)) w2) := (Below.refl _ _).drew.grown hgrow1 (by simp) (fun k hk => by simp [Value.ownBlock] at hk)
  have L1 : Hid (Below w.heap.size w w2) := (bAlloc (bAlloc (Below.refl _ w) (.cells #[.int .i64 (0), .int .i64 (0), .bool false, .bool true] 28)) (.cells #[.bool false, .bool false, .slice none 0 0] 33)).trans (L0.out.mono (by omega))
  obtain ⟨ax, cx, ev1⟩ := own_shape HW1.out
  subst ev1
  obtain ⟨k0, k1, k2, k3, z0, z1, z2, y0, y1, y2, hz⟩ := tk_cells L0.out
  clear hown1 hgrow1
  go_wp2
  exact bodyPost_ret (v := .tuple #[.agg #[.bool true, .bool false, .slice ax 0 cx], .int .i64 0]) (by simp [results, Tryz.results100, go_sem, z0, z1, z2]) rfl ⟨_, rfl, by rw [HTK.out]; have h := own_set3 (b := w.heap.size) HW1.out (x := .bool true) (y := .bool false) (z := .slice ax 0 cx); rw [HBL.out]; exact h, bset3' L1.out _ _ _⟩

end Go.Proofs.YtppefcnopkmhbaaGreatDoor

namespace Go.Proofs.YtppefcnopkmhbaaGreatDoor
open Go.RowKit

set_option maxRecDepth 8000
set_option maxHeartbeats 4000000 in
theorem take_ft_end (n : Nat) (l : List UInt8) (w : World) (a : Addr) (hbig : n ≤ 140737488351232) (HT : Hid (Tx w (some a) n n l)) :
    Calls Tryz.prog 100 #[.slice (some a) n n, .agg #[.int .i64 (n : Int), .int .i64 (n : Int), .bool false, .bool true]] w fun e w' => ∃ v, e = tr true false v 0 ∧ w'.ownsRow w.heap.size 5 1 v (tk l n n false true).length (bv (tk l n n false true)) ∧ Below w.heap.size w w' := by
  obtain ⟨i5, hi5, hz5, hs5, hb5⟩ := info_parts info5
  have hbn : (n : Int) ≤ 140737488351232 := by omega
  obtain ⟨B, hB⟩ : ∃ B, tkb l n n false = B := ⟨_, rfl⟩
  have HTK : Hid (tk l n n false true = B) := by unfold Hid tk; rw [← hB]; rfl
  have hB0 : B = [] := by rw [← hB]; unfold tkb; rw [show n - (n + false.toNat) = 0 from by simp]; rfl
  have HBL : Hid (B.length = 0) := by unfold Hid; rw [hB0]; rfl
  have HB0 := Hid.mk' hB0
  clear hB0
  clear hB
  have SR : Hid (Srv (((w.alloc (.cells #[.int .i64 ((n : Int)), .int .i64 ((n : Int)), .bool false, .bool true] 28)).alloc (.cells #[.bool false, .bool false, .slice none 0 0] 33)).drew) (.slice (some a) 0 0) 0 (bv B)) := by unfold Hid; rw [HB0.out]; exact .inr ⟨a, 0, rfl, fun j u hj => by simp [bv] at hj⟩
  have CL := Hid.mk' (isLE_any (some a) n n (n : Int) l _ (HT.out.keep (bAlloc (bAlloc (Below.refl _ w) (.cells #[.int .i64 ((n : Int)), .int .i64 ((n : Int)), .bool false, .bool true] 28)) (.cells #[.bool false, .bool false, .slice none 0 0] 33))))
  go_enter Tryz.func100, Tryz.ntmps100
  go_wp2_with (go_at_call 129; refine CL.out.mono ?_; rintro e w' ⟨rfl, hw⟩; have hq := hw.symm; subst hq; clear hw)
  go_region
  all_goals go_wp2_with (at_builtin; refine append_srv rfl (.const (.slice none 0 0)) (.tmp 57) 22 rfl (w.heap.size + 2) 5 i5 (.int .u8 0) 1 1 Tryz.underlying22 hi5 hz5 hs5 hb5 rfl (by decide) (.slice none 0 0) 0 [] rfl (World.ownsRow_nil _ _ _ _) (.slice (some a) 0 0) 0 (bv B) rfl SR.out ?q1 (bv_one _) ?q2 ?q3 ?q4 ?_)
  case q1 => rw [bv_length, HBL.out, Nat.mul_one]
  case q2 => unfold maxLen; omega
  case q3 => omega
  case q4 => simp
  intro v1 w2 hown1 hgrow1 _
  have HW1 : Hid (w2.ownsRow (w.heap.size + 2) 5 1 v1 0 (bv B)) := by unfold Hid; simpa using hown1
  have L0 : Hid (Below (w.heap.size + 2) ((w.alloc (.cells #[.int .i64 ((n : Int)), .int .i64 ((n : Int)), .bool false, .bool true] 28)).alloc (.cells #[.bool false, .bool false, .slice none 0 0] 33)) w2) := (Below.refl _ _).drew.grown hgrow1 (by simp) (fun k hk => by simp [Value.ownBlock] at hk)
  have L1 : Hid (Below w.heap.size w w2) := (bAlloc (bAlloc (Below.refl _ w) (.cells #[.int .i64 ((n : Int)), .int .i64 ((n : Int)), .bool false, .bool true] 28)) (.cells #[.bool false, .bool false, .slice none 0 0] 33)).trans (L0.out.mono (by omega))
  obtain ⟨ax, cx, ev1⟩ := own_shape HW1.out
  subst ev1
  obtain ⟨k0, k1, k2, k3, z0, z1, z2, y0, y1, y2, hz⟩ := tk_cells L0.out
  clear hown1 hgrow1
  go_wp2
  exact bodyPost_ret (v := .tuple #[.agg #[.bool true, .bool false, .slice ax 0 cx], .int .i64 0]) (by simp [results, Tryz.results100, go_sem, z0, z1, z2]) rfl ⟨_, rfl, by rw [HTK.out]; have h := own_set3 (b := w.heap.size) HW1.out (x := .bool true) (y := .bool false) (z := .slice ax 0 cx); rw [HBL.out]; exact h, bset3' L1.out _ _ _⟩

end Go.Proofs.YtppefcnopkmhbaaGreatDoor

namespace Go.Proofs.YtppefcnopkmhbaaGreatDoor
open Go.RowKit

set_option maxRecDepth 8000
set_option maxHeartbeats 4000000 in
theorem take_ft_mid (ao0 : Option Addr) (n c f t : Nat) (l : List UInt8) (w : World) (hft : f ≤ t) (htn : t ≤ n) (hbig : n ≤ 140737488351232) (HT : Hid (Tx w ao0 n c l)) (a : Addr) (hao : ao0 = some a) (hce : ¬ c = f) :
    Calls Tryz.prog 100 #[.slice ao0 n c, .agg #[.int .i64 (f : Int), .int .i64 (t : Int), .bool false, .bool true]] w fun e w' => ∃ v, e = tr true false v 0 ∧ w'.ownsRow w.heap.size 5 1 v (tk l f t false true).length (bv (tk l f t false true)) ∧ Below w.heap.size w w' := by
  obtain ⟨i5, hi5, hz5, hs5, hb5⟩ := info_parts info5
  have hlen := Hid.mk' HT.out.len
  have hcap := HT.out.cap
  have hbn : (n : Int) ≤ 140737488351232 := by omega
  have hft' : (f : Int) ≤ t := by omega
  have htn' : (t : Int) ≤ n := by omega
  obtain ⟨B, hB⟩ : ∃ B, tkb l f t false = B := ⟨_, rfl⟩
  have HTK : Hid (tk l f t false true = B) := by unfold Hid tk; rw [← hB]; rfl
  obtain ⟨m, hm⟩ : ∃ m, t - f = m := ⟨_, rfl⟩
  have hB2 : B = (l.drop f).take m := by
    rw [← hB, ← hm]; rfl
  have hmI : (t : Int) - (f : Int) = (m : Int) := by omega
  have hmn : m ≤ n := by omega
  have HBL : Hid (B.length = m) := by unfold Hid; rw [hB2, List.length_take, List.length_drop, hlen.out]; omega
  subst hao
  have T1 := Hid.mk' ((HT.out.tail (s := f) (by omega)).head (i := m) (by omega))
  rw [← hB2] at T1
  have hcn : m ≤ c - (f) := by omega
  have hmN : t - (f) = m := by omega
  clear hB hB2
  have SR : Hid (Srv (((w.alloc (.cells #[.int .i64 ((f : Int)), .int .i64 ((t : Int)), .bool false, .bool true] 28)).alloc (.cells #[.bool false, .bool false, .slice none 0 0] 33)).drew) (.slice (some (a.add (f))) m (c - (f))) m (bv B)) := (T1.out.keep (bAlloc (bAlloc (Below.refl _ w) (.cells #[.int .i64 ((f : Int)), .int .i64 ((t : Int)), .bool false, .bool true] 28)) (.cells #[.bool false, .bool false, .slice none 0 0] 33)).drew).srv
  have CL := Hid.mk' (isLE_any (some a) n c (f : Int) l _ (HT.out.keep (bAlloc (bAlloc (Below.refl _ w) (.cells #[.int .i64 ((f : Int)), .int .i64 ((t : Int)), .bool false, .bool true] 28)) (.cells #[.bool false, .bool false, .slice none 0 0] 33))))
  go_enter Tryz.func100, Tryz.ntmps100
  go_wp2_with (go_at_call 129; refine CL.out.mono ?_; rintro e w' ⟨rfl, hw⟩; have hq := hw.symm; subst hq; clear hw)
  go_region
  all_goals go_wp2_with (at_builtin; refine append_srv rfl (.const (.slice none 0 0)) (.tmp 57) 22 rfl (w.heap.size + 2) 5 i5 (.int .u8 0) 1 1 Tryz.underlying22 hi5 hz5 hs5 hb5 rfl (by decide) (.slice none 0 0) 0 [] rfl (World.ownsRow_nil _ _ _ _) (.slice (some (a.add (f))) m (c - (f))) m (bv B) rfl SR.out ?q1 (bv_one _) ?q2 ?q3 ?q4 ?_)
  case q1 => rw [bv_length, HBL.out, Nat.mul_one]
  case q2 => unfold maxLen; omega
  case q3 => omega
  case q4 => simp
  intro v1 w2 hown1 hgrow1 _
  have HW1 : Hid (w2.ownsRow (w.heap.size + 2) 5 1 v1 m (bv B)) := by unfold Hid; simpa using hown1
  have L0 : Hid (Below (w.heap.size + 2) ((w.alloc (.cells #[.int .i64 ((f : Int)), .int .i64 ((t : Int)), .bool false, .bool true] 28)).alloc (.cells #[.bool false, .bool false, .slice none 0 0] 33)) w2) := (Below.refl _ _).drew.grown hgrow1 (by simp) (fun k hk => by simp [Value.ownBlock] at hk)
  have L1 : Hid (Below w.heap.size w w2) := (bAlloc (bAlloc (Below.refl _ w) (.cells #[.int .i64 ((f : Int)), .int .i64 ((t : Int)), .bool false, .bool true] 28)) (.cells #[.bool false, .bool false, .slice none 0 0] 33)).trans (L0.out.mono (by omega))
  obtain ⟨ax, cx, ev1⟩ := own_shape HW1.out
  subst ev1
  obtain ⟨k0, k1, k2, k3, z0, z1, z2, y0, y1, y2, hz⟩ := tk_cells L0.out
  clear hown1 hgrow1
  go_wp2
  exact bodyPost_ret (v := .tuple #[.agg #[.bool true, .bool false, .slice ax m cx], .int .i64 0]) (by simp [results, Tryz.results100, go_sem, z0, z1, z2]) rfl ⟨_, rfl, by rw [HTK.out]; have h := own_set3 (b := w.heap.size) HW1.out (x := .bool true) (y := .bool false) (z := .slice ax m cx); rw [HBL.out]; exact h, bset3' L1.out _ _ _⟩

end Go.Proofs.YtppefcnopkmhbaaGreatDoor

namespace Go.Proofs.YtppefcnopkmhbaaGreatDoor
open Go.RowKit

set_option maxRecDepth 8000
set_option maxHeartbeats 4000000 in
theorem take_tf_none (w : World) :
    Calls Tryz.prog 100 #[.slice none 0 0, .agg #[.int .i64 0, .int .i64 0, .bool true, .bool false]] w fun e w' => ∃ v, e = tr true true v 0 ∧ w'.ownsRow w.heap.size 5 1 v (tk [] 0 0 true false).length (bv (tk [] 0 0 true false)) ∧ Below w.heap.size w w' := by
  obtain ⟨i5, hi5, hz5, hs5, hb5⟩ := info_parts info5
  have HT := Hid.mk' (tx_nil w)
  obtain ⟨B, hB0⟩ : ∃ B : List UInt8, B = [] := ⟨_, rfl⟩
  have HTN : Hid (lack B = false → tk [] 0 0 true false = B) := by
    intro h; rw [hB0] at h; cases h
  have HTY : Hid (lack B = true → tk [] 0 0 true false = B ++ [10]) := by
    intro h; rw [hB0]; rfl
  have HBL : Hid (B.length = 0) := by unfold Hid; rw [hB0]; rfl
  have HB0 := Hid.mk' hB0
  clear hB0
  have SR : Hid (Srv (((w.alloc (.cells #[.int .i64 (0), .int .i64 (0), .bool true, .bool false] 28)).alloc (.cells #[.bool false, .bool false, .slice none 0 0] 33)).drew) (.slice none 0 0) 0 (bv B)) := by unfold Hid; rw [HB0.out]; exact .inl ⟨rfl, rfl, rfl⟩
  have CL := Hid.mk' (isLE_any none 0 0 0 [] _ (HT.out.keep (bAlloc (bAlloc (Below.refl _ w) (.cells #[.int .i64 (0), .int .i64 (0), .bool true, .bool false] 28)) (.cells #[.bool false, .bool false, .slice none 0 0] 33))))
  go_enter Tryz.func100, Tryz.ntmps100
  go_wp2_with (go_at_call 129; refine CL.out.mono ?_; rintro e w' ⟨rfl, hw⟩; have hq := hw.symm; subst hq; clear hw)
  go_region
  all_goals go_wp2_with (at_builtin; refine append_srv rfl (.const (.slice none 0 0)) (.tmp 57) 22 rfl (w.heap.size + 2) 5 i5 (.int .u8 0) 1 1 Tryz.underlying22 hi5 hz5 hs5 hb5 rfl (by decide) (.slice none 0 0) 0 [] rfl (World.ownsRow_nil _ _ _ _) (.slice none 0 0) 0 (bv B) rfl SR.out ?q1 (bv_one _) ?q2 ?q3 ?q4 ?_)
  case q1 => rw [bv_length, HBL.out, Nat.mul_one]
  case q2 => unfold maxLen; omega
  case q3 => omega
  case q4 => simp
  intro v1 w2 hown1 hgrow1 _
  have HW1 : Hid (w2.ownsRow (w.heap.size + 2) 5 1 v1 0 (bv B)) := by unfold Hid; simpa using hown1
  have L0 : Hid (Below (w.heap.size + 2) ((w.alloc (.cells #[.int .i64 (0), .int .i64 (0), .bool true, .bool false] 28)).alloc (.cells #[.bool false, .bool false, .slice none 0 0] 33)) w2) := (Below.refl _ _).drew.grown hgrow1 (by simp) (fun k hk => by simp [Value.ownBlock] at hk)
  have L1 : Hid (Below w.heap.size w w2) := (bAlloc (bAlloc (Below.refl _ w) (.cells #[.int .i64 (0), .int .i64 (0), .bool true, .bool false] 28)) (.cells #[.bool false, .bool false, .slice none 0 0] 33)).trans (L0.out.mono (by omega))
  obtain ⟨ax, cx, ev1⟩ := own_shape HW1.out
  subst ev1
  obtain ⟨k0, k1, k2, k3, z0, z1, z2, y0, y1, y2, hz⟩ := tk_cells L0.out
  clear hown1 hgrow1
  obtain ⟨ao2, c2, e2, T2⟩ := own_txl HW1.out (by omega)
  obtain ⟨g1, g2⟩ : ax = ao2 ∧ cx = c2 := by simpa using e2
  subst g1 g2
  have CB := Hid.mk' (isLE_any _ 0 _ (-1) B w2 T2)
  have hlk : lack B = !leB B (-1) := by unfold lack; rw [HBL.out]; try rfl
  clear e2
  cases hq : leB B (-1) with
  | true =>
    rw [hq] at CB hlk
    have HTK : Hid (tk [] 0 0 true false = B) := HTN.out hlk
    clear hq hlk
    go_wp2_with (go_at_call 129; refine CB.out.mono ?_; rintro e w' ⟨rfl, hw⟩; have hq := hw.symm; subst hq; clear hw)
    exact bodyPost_ret (v := .tuple #[.agg #[.bool true, .bool true, .slice ax 0 cx], .int .i64 0]) (by simp [results, Tryz.results100, go_sem, z0, z1, z2]) rfl ⟨_, rfl, by rw [HTK.out]; have h := own_set3 (b := w.heap.size) HW1.out (x := .bool true) (y := .bool true) (z := .slice ax 0 cx); rw [HBL.out]; exact h, bset3' L1.out _ _ _⟩
  | false =>
    rw [hq] at CB hlk
    have HTK : Hid (tk [] 0 0 true false = B ++ [10]) := HTY.out hlk
    clear hq hlk
    go_wp2_with (first | (go_at_call 129; refine CB.out.mono ?_; rintro e w' ⟨rfl, hw⟩; have hq := hw.symm; subst hq; clear hw) | (at_builtin; refine append_srv rfl (.tmp 72) (.tmp 73) 22 rfl (w.heap.size + 2) 5 i5 (.int .u8 0) 1 1 Tryz.underlying22 hi5 hz5 hs5 hb5 rfl (by decide) (.slice ax 0 cx) 0 (bv B) rfl (HW1.out.alloc _) (.slice (some ⟨w2.heap.size, 0, none⟩) 1 1) 1 [.int .u8 10] rfl (.inr ⟨⟨w2.heap.size, 0, none⟩, 1, rfl, fun j u hj => lit_cells w2 _ 5 j u hj⟩) rfl ?r1 ?r2 ?r3 ?r4 ?_))
    case r1 => intro u hu; simp at hu; subst hu; rfl
    case r2 => unfold maxLen; omega
    case r3 => omega
    case r4 => have := hz; simp; omega
    intro v2 w3 hown2 hgrow2 _
    have HW2 : Hid (w3.ownsRow (w.heap.size + 2) 5 1 v2 (0 + 1) (bv (B ++ [10]))) := by unfold Hid; rw [bv_append]; exact hown2
    have L3 : Hid (Below (w.heap.size + 2) ((w.alloc (.cells #[.int .i64 (0), .int .i64 (0), .bool true, .bool false] 28)).alloc (.cells #[.bool false, .bool false, .slice none 0 0] 33)) w3) := (L0.out.alloc (by omega) _).grown hgrow2 (by simp; omega) (fun k hk => (HW1.out.lt k hk).1)
    have L4 : Hid (Below w.heap.size w w3) := (bAlloc (bAlloc (Below.refl _ w) (.cells #[.int .i64 (0), .int .i64 (0), .bool true, .bool false] 28)) (.cells #[.bool false, .bool false, .slice none 0 0] 33)).trans (L3.out.mono (by omega))
    obtain ⟨ax2, cx2, ev2⟩ := own_shape HW2.out
    subst ev2
    clear k0 k1 k2 k3 z0 z1 z2 y0 y1 y2 hz
    obtain ⟨k0, k1, k2, k3, z0, z1, z2, y0, y1, y2, hz⟩ := tk_cells L3.out
    clear hown2 hgrow2
    go_wp2
    exact bodyPost_ret (v := .tuple #[.agg #[.bool true, .bool true, .slice ax2 (0 + 1) cx2], .int .i64 0]) (by simp [results, Tryz.results100, go_sem, z0, z1, z2]) rfl ⟨_, rfl, by rw [HTK.out]; have h := own_set3 (b := w.heap.size) HW2.out (x := .bool true) (y := .bool true) (z := .slice ax2 (0 + 1) cx2); rw [List.length_append, HBL.out]; exact h, bset3' L4.out _ _ _⟩

end Go.Proofs.YtppefcnopkmhbaaGreatDoor
