/- Chk, Sam9, Rfa, Rtu -/
import Derived.Test.YtppefcnopkmhbaaGreatDoorPt12
import Derived.Test.YtppefcnopkmhbaaGreatDoorPt18
import Derived.Test.YtppefcnopkmhbaaGreatDoorPt28
import Derived.Test.YtppefcnopkmhbaaGreatDoorPt14
namespace Go.Proofs.YtppefcnopkmhbaaGreatDoor
open Go.RowKit

set_option maxRecDepth 8000
theorem map_take {E : List Er} {i : Nat} {r : Er} (h : E[i]? = some r) : (E.map Er.d).take (i + 1) = (E.map Er.d).take i ++ [r.d] := by
  have hd : (E.map Er.d)[i]? = some r.d := by rw [List.getElem?_map, h]; rfl
  obtain ⟨hi, e⟩ := List.getElem?_eq_some_iff.1 hd
  rw [List.take_succ_eq_append_getElem hi, e]
end Go.Proofs.YtppefcnopkmhbaaGreatDoor

namespace Go.Proofs.YtppefcnopkmhbaaGreatDoor
open Go.RowKit

set_option maxRecDepth 8000
/-- an effect as it lies in memory, to be read -/
structure Efr (W : World) (v tv : Value) (F : List Er) (x : Ef) : Prop where
  d : F.map Er.d = x.es
  es : ∃ ao c, v = .slice ao F.length c ∧ Edz W ao F
  tx : ∃ to' c, tv = .slice to' x.txt.length c ∧ Tx W to' x.txt.length c x.txt
theorem Efr.keep {W W' : World} {v tv : Value} {F : List Er} {x : Ef} (h : Efr W v tv F x) (hb : Below W.heap.size W W') : Efr W' v tv F x := by
  obtain ⟨ao, c, h1, h2⟩ := h.es
  obtain ⟨to', c2, h3, h4⟩ := h.tx
  exact ⟨h.d, ⟨ao, c, h1, h2.keep hb⟩, ⟨to', c2, h3, h4.keep hb⟩⟩
theorem Efm.efr {W : World} {lo hi : Nat} {v tv : Value} {F : List Er} {x : Ef} (h : Efm W lo hi v F tv x.txt) (hF : F.map Er.d = x.es) (hb : x.txt.length ≤ 150000000000000) : Efr W v tv F x := by
  obtain ⟨ao, c, h1, h2, -⟩ := h.eds.edz
  obtain ⟨to', c2, h3⟩ := h.tx.shape
  subst h3
  exact ⟨hF, ⟨ao, c, h1, h2⟩, ⟨to', c2, rfl, h.tx.tx hb⟩⟩
theorem efz_efr (W : World) : Efr W (.slice none 0 0) (.slice none 0 0) [] ef0 :=
  ⟨rfl, ⟨none, 0, rfl, ⟨fun k r h => by simp at h, fun k r h => by simp at h⟩⟩, ⟨none, 0, rfl, tx_nil W⟩⟩
theorem er_at {F G : List Er} {D : List Ed} {i : Nat} {r : Er} (h1 : F.map Er.d = D) (h2 : G.map Er.d = D) (hr : F[i]? = some r) : ∃ q, G[i]? = some q ∧ q.a = r.a ∧ q.O = r.O ∧ q.N = r.N := by
  have e1 : (F.map Er.d)[i]? = some r.d := by rw [List.getElem?_map, hr]; rfl
  rw [h1, ← h2, List.getElem?_map] at e1
  cases hq : G[i]? with
  | none => rw [hq] at e1; cases e1
  | some q =>
    rw [hq] at e1
    have : q.d = r.d := by simpa using e1
    exact ⟨q, rfl, congrArg Ed.a this, congrArg Ed.O this, congrArg Ed.N this⟩
set_option maxHeartbeats 16000000 in
set_option linter.unusedSimpArgs false in
theorem same_yes (w : World) (v1 tv1 v2 tv2 : Value) (F1 F2 : List Er) (x : Ef) (H1 : Hid (Efr w v1 tv1 F1 x)) (H2 : Hid (Efr w v2 tv2 F2 x)) (hn : x.es.length ≤ 140737488355328) :
    Calls Tryz.prog 11 #[efV v1 tv1 x, efV v2 tv2 x] w fun e w' => e = .returned (.bool true) ∧ Below w.heap.size w w' := by
  obtain ⟨a1, c1, rfl, Z1⟩ := H1.out.es
  obtain ⟨t1, d1, rfl, T1⟩ := H1.out.tx
  obtain ⟨a2, c2, rfl, Z2⟩ := H2.out.es
  obtain ⟨t2, d2, rfl, T2⟩ := H2.out.tx
  have HD1 := Hid.mk' H1.out.d
  have HD2 := Hid.mk' H2.out.d
  obtain ⟨en, hen⟩ : ∃ en, F1.length = en := ⟨_, rfl⟩
  have hen2 : F2.length = en := by rw [← hen, ← List.length_map (f := Er.d), HD2.out, ← HD1.out, List.length_map]
  have henb : en ≤ 140737488355328 := by rw [← hen, ← List.length_map (f := Er.d), HD1.out]; exact hn
  rw [hen, hen2]
  have HEN1 := Hid.mk' hen
  have HEN2 := Hid.mk' hen2
  clear hen hen2 hn H1 H2
  obtain ⟨es, cur, set, lin, txt, how, typ⟩ := x
  unfold efV
  dsimp only at T1 T2 HD1 HD2 ⊢
  obtain ⟨tn, htn⟩ : ∃ tn, txt.length = tn := ⟨_, rfl⟩
  rw [htn] at T1 T2 ⊢
  clear htn
  obtain ⟨W1, hW1⟩ : ∃ x, (w.alloc (.cells (ef7 (.slice a1 en c1) cur set lin (.slice t1 tn d1) how typ) 35)).alloc (.cells (ef7 (.slice a2 en c2) cur set lin (.slice t2 tn d2) how typ) 35) = x := ⟨_, rfl⟩
  obtain ⟨B, hB⟩ : ∃ b, w.heap.size = b := ⟨_, rfl⟩
  have hb1 : Below w.heap.size w W1 := by rw [← hW1]; exact bAlloc (bAlloc (Below.refl _ _) _) _
  have K1 : Hid (Blk W1 B 35 (ef7 (.slice a1 en c1) cur set lin (.slice t1 tn d1) how typ)) := by unfold Hid; rw [← hW1, ← hB]; exact (Blk.new w 35 _).keep (bAlloc (Below.refl _ _) _)
  have K2 : Hid (Blk W1 (B + 1) 35 (ef7 (.slice a2 en c2) cur set lin (.slice t2 tn d2) how typ)) := by
    unfold Hid
    rw [← hW1, ← hB]
    have := Blk.new (w.alloc (.cells (ef7 (.slice a1 en c1) cur set lin (.slice t1 tn d1) how typ) 35)) 35 (ef7 (.slice a2 en c2) cur set lin (.slice t2 tn d2) how typ)
    rwa [World.size_alloc] at this
  have B1 := Hid.mk' hb1
  have Y1 := Hid.mk' (Z1.keep hb1)
  have Y2 := Hid.mk' (Z2.keep hb1)
  have U1 := Hid.mk' (T1.keep hb1)
  have U2 := Hid.mk' (T2.keep hb1)
  unfold ef7 at hW1
  clear Z1 Z2 T1 T2 hb1
  go_enter Tryz.func11, Tryz.ntmps11
  go_upto_region 1 with fail
  clear hW1 hB
  obtain ⟨x0, x1, x2, x3, x4, x5, x6⟩ := ef_cells K1.out
  obtain ⟨y0, y1, y2, y3, y4, y5, y6⟩ := ef_cells K2.out
  have cv1 := conv_tx U1.out
  have cv2 := conv_tx U2.out
  have nn := ne9_no txt W1
  go_upto_region 3 with fail
  go_wp2_with fail
  clear x0 x1 x2 x3 x4 x5 x6 y0 y1 y2 y3 y4 y5 y6 cv1 cv2 nn U1 U2
  go_loopg [5, 6, 7, 68] en (fun m x5 x6 x7 x68 wx => ∃ (i : Nat), x68 = .int .i64 (i : Int) ∧ i + m = en ∧ Hid (Below W1.heap.size W1 wx))
  case atStart => exact ⟨0, rfl, by omega, Below.refl _ _⟩
  case round =>
    obtain ⟨i, rfl, him, KB⟩ := hrel
    cases gk with
    | zero =>
      have hii : ¬ (i : Int) < (en : Int) := by omega
      go_wp2
      go_ret
      exact ⟨rfl, bT B1.out KB.out⟩
    | succ go =>
      have hii : (i : Int) < (en : Int) := by omega
      have hi0 : (0 : Int) ≤ (i : Int) := by omega
      obtain ⟨r, hr⟩ : ∃ r, F1[i]? = some r := ⟨_, List.getElem?_eq_getElem (by have := HEN1.out; omega)⟩
      obtain ⟨q, hq, ha, hO, hN⟩ := er_at HD1.out HD2.out hr
      have hE1 := (Y1.out.txs i r hr).keep KB.out
      have hE2 := (Y2.out.txs i q hq).keep KB.out
      obtain ⟨g, o, rfl, h3⟩ := Y1.out.row.ed3 hr
      obtain ⟨g2, o2, rfl, h4⟩ := Y2.out.row.ed3 hq
      have h5 := h3.keep KB.out
      have h6 := h4.keep KB.out
      obtain ⟨ra, rp1, ro, rc1, rO, rp2, rn, rc2, rN⟩ := r
      obtain ⟨qa, qp1, qo, qc1, qO, qp2, qn, qc2, qN⟩ := q
      dsimp only at h5 h6 ha hO hN
      subst ha hO hN
      have HE1 := Hid.mk' hE1
      have HE2 := Hid.mk' hE2
      have H6 := Hid.mk' h6
      have t0 := h5.e0
      have t1 := h5.e1
      have t2 := h5.e2
      have hw8 : IntKind.i64.wrap ((i : Int) + 1) = ((i + 1 : Nat) : Int) := by rw [IntKind.wrap_i64]; omega
      have HIM := Hid.mk' him
      clear hr hq h3 h4 h5 h6 hE1 hE2 him
      go_upto_region 6 with fail
      obtain ⟨P, hP⟩ : ∃ q, wr.heap.size = q := ⟨_, rfl⟩
      have hbx : Below wr.heap.size wr (wr.alloc (.cells #[.int .i64 qa, .slice rp1 ro rc1, .slice rp2 rn rc2] 65)) := bAlloc (Below.refl _ _) _
      have P1 : Hid (Blk (wr.alloc (.cells #[.int .i64 qa, .slice rp1 ro rc1, .slice rp2 rn rc2] 65)) P 65 #[.int .i64 qa, .slice rp1 ro rc1, .slice rp2 rn rc2]) := by unfold Hid; rw [← hP]; exact Blk.new wr 65 _
      rw [hP]
      generalize wr.alloc (.cells #[.int .i64 qa, .slice rp1 ro rc1, .slice rp2 rn rc2] 65) = w2 at *
      have KB2 := Hid.mk' (bT KB.out hbx)
      have H7 := Hid.mk' (H6.out.keep hbx)
      have HE3 := Hid.mk' (HE1.out.keep hbx)
      have HE4 := Hid.mk' (HE2.out.keep hbx)
      clear hP hbx KB H6 HE1 HE2 t0 t1 t2
      obtain ⟨y0, y1, y2, y3, y4, y5, y6⟩ := ef_cells (K2.out.keep KB2.out)
      have t0 := H7.out.e0
      have t1 := H7.out.e1
      have t2 := H7.out.e2
      go_upto_region 7 with fail
      obtain ⟨R, hR⟩ : ∃ q, w2.heap.size = q := ⟨_, rfl⟩
      have hbx : Below w2.heap.size w2 (w2.alloc (.cells #[.int .i64 qa, .slice qp1 qo qc1, .slice qp2 qn qc2] 65)) := bAlloc (Below.refl _ _) _
      have R1 : Hid (Blk (w2.alloc (.cells #[.int .i64 qa, .slice qp1 qo qc1, .slice qp2 qn qc2] 65)) R 65 #[.int .i64 qa, .slice qp1 qo qc1, .slice qp2 qn qc2]) := by unfold Hid; rw [← hR]; exact Blk.new w2 65 _
      rw [hR]
      generalize w2.alloc (.cells #[.int .i64 qa, .slice qp1 qo qc1, .slice qp2 qn qc2] 65) = w3 at *
      have P2 := Hid.mk' (P1.out.keep hbx)
      have KB3 := Hid.mk' (bT KB2.out hbx)
      have HE5 := HE3.out.keep hbx
      have HE6 := HE4.out.keep hbx
      clear hR hbx KB2 H7 HE3 HE4 t0 t1 t2 y0 y1 y2 y3 y4 y5 y6 P1
      have p0 : w3.cell? ⟨P, 0, none⟩ = some (.int .i64 qa) := P2.out.cell rfl
      have p1 : w3.cell? ⟨P, 1, none⟩ = some (.slice rp1 ro rc1) := P2.out.cell rfl
      have p2 : w3.cell? ⟨P, 2, none⟩ = some (.slice rp2 rn rc2) := P2.out.cell rfl
      have r0 : w3.cell? ⟨R, 0, none⟩ = some (.int .i64 qa) := R1.out.cell rfl
      have r1 : w3.cell? ⟨R, 1, none⟩ = some (.slice qp1 qo qc1) := R1.out.cell rfl
      have r2 : w3.cell? ⟨R, 2, none⟩ = some (.slice qp2 qn qc2) := R1.out.cell rfl
      have cv1 := conv_tx HE5.t1
      have cv2 := conv_tx HE5.t2
      have cv3 := conv_tx HE6.t1
      have cv4 := conv_tx HE6.t2
      have n1 := ne9_no qO w3
      have n2 := ne9_no qN w3
      clear HE5 HE6
      go_wp2
      go_roundg go
      case measure => omega
      case rel => exact ⟨i + 1, by go_num, by have := HIM.out; omega, KB3.out⟩
end Go.Proofs.YtppefcnopkmhbaaGreatDoor

namespace Go.Proofs.YtppefcnopkmhbaaGreatDoor
open Go.RowKit

set_option maxRecDepth 8000
set_option maxHeartbeats 1000000 in
theorem rcop_any (ao : Option Addr) (n c : Nat) (l : List UInt8) (w : World) (hb : n ≤ 140737488355328) (h : Hid (Tx w ao n c l)) :
    Calls Tryz.prog 41 #[.slice ao n c] w fun e w' => NewP n l w e w' := by
  have hlen := Hid.mk' h.out.len
  go_enter Tryz.func41, Tryz.ntmps41
  go_wp2_with (at_builtin; refine append_big rfl (.tmp 4) (.tmp 5) rfl w.heap.size (.slice none 0 0) 0 [] rfl (World.ownsRow_nil _ _ _ _) (.slice ao n c) n (bv l) rfl h.out.srv (by rw [bv_length]; exact hlen.out) (bv_one l) (by omega) (by omega) (Nat.le_refl _) ?_)
  intro v1 w1 hown hgrow _
  have HW1 : Hid (w1.ownsRow w.heap.size 5 1 v1 n (bv l)) := by unfold Hid; simpa using hown
  have L1 : Hid (Below w.heap.size w w1) := (Below.refl _ w).grown hgrow (Nat.le_refl _) (by intro k hk; simp [Value.ownBlock] at hk)
  clear hown hgrow
  go_wp2
  go_ret
  exact ⟨v1, rfl, HW1.out, L1.out⟩
/-- a list of edits that a call answers -/
def EdP (D : List Ed) (w : World) (e : Ending) (w' : World) : Prop := ∃ ao c F, e = .returned (.slice ao F.length c) ∧ F.map Er.d = D ∧ Edz w' ao F ∧ Below w.heap.size w w'
theorem edz_nil (W : World) : Edz W none [] := ⟨fun k r h => by simp at h, fun k r h => by simp at h⟩
theorem edz_one {W : World} {B : Nat} {a : Int} {p1 p2 : Option Addr} {o1 c1 n2 c2 : Nat} {O N : List UInt8} (hK : Blk W B 65 #[.int .i64 a, .slice p1 o1 c1, .slice p2 n2 c2]) (h1 : Tx W p1 o1 c1 O) (h2 : Tx W p2 n2 c2 N) (b1 : o1 ≤ 140737488355328) (b2 : n2 ≤ 140737488355328) : Edz W (some ⟨B, 0, none⟩) [⟨a, p1, o1, c1, O, p2, n2, c2, N⟩] := by
  refine ⟨fun k r hk => ?_, fun k r hk => ?_⟩
  · match k, hk with
    | 0, hk =>
      simp at hk
      subst hk
      exact ⟨B, 0, rfl, hK.cell rfl, hK.cell rfl, hK.cell rfl⟩
    | k + 1, hk => simp at hk
  · match k, hk with
    | 0, hk => simp at hk; subst hk; exact ⟨h1, h2, b1, b2⟩
    | k + 1, hk => simp at hk
theorem sl_both {w : World} {ao : Option Addr} {n c a b : Nat} {l : List UInt8} (h : Tx w ao n c l) (h1 : a ≤ b) (h2 : b ≤ n) : ∃ a' c', (∀ W, (Instr.sliceAt 22 (.slice ao n c) (some (.int .i64 (a : Int))) (some (.int .i64 (b : Int))) none).run Tryz.prog W = .ok (.slice a' (b - a) c') W) ∧ ∀ V, Tx V ao n c l → Tx V a' (b - a) c' (sl l a b) := by
  obtain ⟨a', c', h3, h4⟩ := sl_lh' h h1 h2
  refine ⟨a', c', h3, fun V hV => ?_⟩
  obtain ⟨a2, c2, h5, h6⟩ := sl_lh' hV h1 h2
  have e := (h3 V).symm.trans (h5 V)
  simp at e
  obtain ⟨rfl, rfl⟩ := e
  exact h6
set_option maxHeartbeats 8000000 in
set_option linter.unusedSimpArgs false in
theorem redit_any (ao : Option Addr) (n c f t : Nat) (l : List UInt8) (xp : Option Addr) (xn xc : Nat) (X : List UInt8) (w : World) (HT : Hid (Tx w ao n c l)) (hft : f ≤ t) (ht : t ≤ n) (hn : n ≤ 140737488355328) (HX : Hid (Tx w xp xn xc X)) (hxn : xn ≤ 140737488355328) :
    Calls Tryz.prog 29 #[.slice ao n c, .int .i64 (f : Int), .int .i64 (t : Int), .slice xp xn xc] w fun e w' => EdP (sw l f t X) w e w' := by
  obtain ⟨a3, c3, hs3, hT3⟩ := sl_both HT.out hft ht
  have HT3 : Hid (∀ W, Below w.heap.size w W → Tx W a3 (t - f) c3 (sl l f t)) := fun W hW => hT3 W (HT.out.keep hW)
  have HXK : Hid (∀ W, Below w.heap.size w W → Tx W xp xn xc X) := fun W hW => HX.out.keep hW
  have CC : Hid (∀ (W : World) (a' : Option Addr) (n' c' : Nat) (p : List UInt8), n' ≤ 140737488355328 → Tx W a' n' c' p → Calls Tryz.prog 41 #[.slice a' n' c'] W fun e w' => NewP n' p W e w') := fun W a' n' c' p h1 h2 => rcop_any a' n' c' p W h1 h2
  have hcap := HT.out.cap
  have hp0 : (0 : Int) ≤ (f : Int) := by omega
  have hp1 : (f : Int) ≤ (t : Int) := by omega
  have hp2 : (t : Int) ≤ (n : Int) := by omega
  have hp3 : (t : Int) ≤ (c : Int) := by omega
  have HSW : Hid (sw l f t X = if sl l f t = X then [] else [⟨(f : Int), sl l f t, X⟩]) := rfl
  rw [HSW.out]
  obtain ⟨O, hO⟩ : ∃ O, sl l f t = O := ⟨_, rfl⟩
  rw [hO] at HT3 ⊢
  obtain ⟨k, hk⟩ : ∃ k, t - f = k := ⟨_, rfl⟩
  rw [hk] at HT3 hs3
  have hkn : k ≤ n := by omega
  clear hO hT3 HX hft ht hk
  by_cases he : O = X
  · subst he
    rw [if_pos rfl]
    have e1 := conv_tx (HT3.out w.drew (Below.refl _ _).drew)
    have e2 := conv_tx (HXK.out w.drew (Below.refl _ _).drew)
    have e1' := fun q => conv_drew (HT3.out w (Below.refl _ _)) q
    have e2' := fun q => conv_drew (HXK.out w (Below.refl _ _)) q
    have ee : ∀ W, (binOp .eql 9 (.string ⟨O.toArray⟩) (.string ⟨O.toArray⟩)).run Tryz.prog W = .ok (.bool true) W := fun W => by simp [binOp, Op.stringOp]
    go_enter Tryz.func29, Tryz.ntmps29
    go_upto_region 1 with fail
    go_quiet (fail)
    all_goals (go_wp2; go_ret; exact ⟨none, 0, [], rfl, rfl, edz_nil _, below_drewN _ _⟩)
  · rw [if_neg he]
    have e1' := fun q => conv_drew (HT3.out w (Below.refl _ _)) q
    have e2' := fun q => conv_drew (HXK.out w (Below.refl _ _)) q
    have ee : ∀ W, (binOp .eql 9 (.string ⟨O.toArray⟩) (.string ⟨X.toArray⟩)).run Tryz.prog W = .ok (.bool false) W := fun W => by simp [binOp, Op.stringOp, he]
    have hne : (O == X) = false := by simpa using he
    go_enter Tryz.func29, Tryz.ntmps29
    go_upto_region 1 with fail
    go_quiet (fail)
    have HB2 := below_drewN w nq
    generalize w.drewN nq = w2 at *
    have B2 := Hid.mk' HB2
    have C1 := Hid.mk' (CC.out w2 a3 k c3 O (by omega) (HT3.out w2 HB2))
    clear HB2 e1' e2' ee he hne
    go_upto_region 3 with fail
    go_wp2_with fail
    refine C1.out.mono ?_
    rintro e w3 ⟨v3, rfl, ho3, hb3⟩
    obtain ⟨p3, d3, rfl⟩ := own_shape ho3
    have B3 := Hid.mk' (bT B2.out hb3)
    have hT4 := own_tx' ho3 (by omega)
    have C2 := Hid.mk' (CC.out w3 xp xn xc X hxn (HXK.out w3 B3.out))
    have T4 := Hid.mk' hT4
    clear ho3 hb3 C1 hT4
    go_wp2_with fail
    refine C2.out.mono ?_
    rintro e w4 ⟨v4, rfl, ho4, hb4⟩
    obtain ⟨p4, d4, rfl⟩ := own_shape ho4
    have B4 := Hid.mk' (bT B3.out hb4)
    have T5 := Hid.mk' (T4.out.keep hb4)
    have T6 := Hid.mk' (own_tx' ho4 hxn)
    clear ho4 hb4 C2 T4
    go_wp2
    go_ret
    have hbx : Below w4.heap.size w4 (w4.alloc (.cells #[.int .i64 (f : Int), .slice p3 k d3, .slice p4 xn d4] 65)) := bAlloc (Below.refl _ _) _
    exact ⟨_, _, [⟨(f : Int), p3, k, d3, O, p4, xn, d4, X⟩], rfl, rfl, edz_one (Blk.new w4 65 _) (T5.out.keep hbx) (T6.out.keep hbx) (by omega) hxn, bT B4.out hbx⟩
set_option maxHeartbeats 4000000 in
theorem rtimes_any (ao : Option Addr) (n c q : Nat) (l : List UInt8) (w : World) (HT : Hid (Tx w ao n c l)) (hq : q ≤ 9999) (hb : n * q ≤ 1048576) :
    Calls Tryz.prog 42 #[.slice ao n c, .int .i64 (q : Int)] w fun e w' => NewP (n * q) (rp l q) w e w' := by
  have HL := Hid.mk' HT.out.len
  have HBB := Hid.mk' hb
  have HTK : Hid (∀ W, Below w.heap.size w W → Tx W ao n c l) := fun W hW => HT.out.keep hW
  have hrs : ∀ k, rp l k ++ l = rp l (k + 1) := fun k => by
    induction k with
    | zero => show [] ++ l = l ++ []; simp
    | succ k ih => show (l ++ rp l k) ++ l = l ++ rp l (k + 1); rw [List.append_assoc, ih]
  have HRS := Hid.mk' hrs
  clear hb hrs HT
  go_enter Tryz.func42, Tryz.ntmps42
  go_wp2_with fail
  go_loopg [5, 6] q (fun m x5 x6 wx => ∃ (i : Nat) (jo : Option Addr) (jc : Nat), x6 = .int .i64 (i : Int) ∧ i + m = q ∧ x5 = .slice jo (n * i) jc ∧ Hid (wx.ownsRow w.heap.size 5 1 (.slice jo (n * i) jc) (n * i) (bv (rp l i))) ∧ Hid (Below w.heap.size w wx))
  case atStart => exact ⟨0, none, 0, rfl, by omega, by rw [Nat.mul_zero], by rw [Nat.mul_zero]; exact World.ownsRow_nil _ _ _ _, Below.refl _ _⟩
  case round =>
    obtain ⟨i, jo, jc, rfl, him, rfl, HJ, KB⟩ := hrel
    cases gk with
    | zero =>
      have hii : ¬ (i : Int) < (q : Int) := by omega
      obtain rfl : i = q := by omega
      go_wp2
      go_ret
      exact ⟨_, rfl, HJ.out, KB.out⟩
    | succ go =>
      have hii : (i : Int) < (q : Int) := by omega
      have hwi : IntKind.i64.wrap ((i : Int) + 1) = (i : Int) + 1 := by rw [IntKind.wrap_i64]; omega
      have hsum : n * i + n ≤ 1048576 := by
        have h1 : n * (i + 1) ≤ n * q := Nat.mul_le_mul_left n (by omega)
        have h2 := HBB.out
        rw [Nat.mul_succ] at h1
        omega
      have HSM := Hid.mk' hsum
      have HIM := Hid.mk' him
      obtain ⟨m, hm⟩ : ∃ m, n * i = m := ⟨_, rfl⟩
      have hms : n * (i + 1) = m + n := by rw [Nat.mul_succ, hm]
      have HMS := Hid.mk' hms
      rw [hm] at HJ HSM ⊢
      have hT := (HTK.out wr KB.out)
      clear hm hms hsum him
      go_wp2_with (at_builtin; refine append_big rfl (.tmp 12) (.tmp 13) rfl w.heap.size (.slice jo m jc) m (bv (rp l i)) rfl HJ.out (.slice ao n c) n (bv l) rfl hT.srv (by rw [bv_length]; exact HL.out) (bv_one _) (by have := HSM.out; omega) (by have := HSM.out; omega) KB.out.size ?_)
      intro v1 w1 hown hgrow _
      obtain ⟨jo2, jc2, rfl⟩ := own_shape hown
      have K1 := Hid.mk' (KB.out.grown hgrow KB.out.size (fun k hk => (HJ.out.lt k hk).1))
      have O1 : Hid (w1.ownsRow w.heap.size 5 1 (.slice jo2 (m + n) jc2) (m + n) (bv (rp l (i + 1)))) := by unfold Hid; rw [← HRS.out, bv_append]; exact hown
      clear hown hgrow hT
      go_wp2
      go_roundg go
      case measure => omega
      case rel => exact ⟨i + 1, jo2, jc2, by go_num, by have := HIM.out; omega, by rw [HMS.out], by rw [HMS.out]; exact O1.out, K1.out⟩
end Go.Proofs.YtppefcnopkmhbaaGreatDoor

namespace Go.Proofs.YtppefcnopkmhbaaGreatDoor
open Go.RowKit

set_option maxRecDepth 8000
theorem tw_i {g : Int → Int} (hg : ∀ b, 0 ≤ b → b ≤ 255 → 0 ≤ g b ∧ g b ≤ 255) (b : UInt8) : g (b.toNat : Int) = ((tw g b).toNat : Int) := (tw_nat hg b).symm
set_option maxHeartbeats 4000000 in
theorem rtu_tog (ao : Option Addr) (n c : Nat) (l : List UInt8) (w : World) (HT : Hid (Tx w ao n c l)) (hb : n ≤ 1048576) :
    Calls Tryz.prog 34 #[.slice ao n c, .string ⟨#[103, 126]⟩] w fun e w' => NewP n (l.map (tw tgB)) w e w' := by
  have HL := Hid.mk' HT.out.len
  have HTK : Hid (∀ W, Below w.heap.size w W → Tx W ao n c l) := fun W hW => HT.out.keep hW
  have HBB := Hid.mk' hb
  clear hb HT
  go_enter Tryz.func34, Tryz.ntmps34
  go_wp2_with fail
  go_loopg [5, 6, 7] n (fun m x5 x6 x7 wx => ∃ (i : Nat) (jo : Option Addr) (jc : Nat), x6 = .int .i64 (i : Int) ∧ i + m = n ∧ x5 = .slice jo i jc ∧ Hid (wx.ownsRow w.heap.size 5 1 (.slice jo i jc) i (bv ((l.take i).map (tw tgB)))) ∧ Hid (Below w.heap.size w wx))
  case atStart => exact ⟨0, none, 0, rfl, by omega, rfl, World.ownsRow_nil _ _ _ _, Below.refl _ _⟩
  case round =>
    obtain ⟨i, jo, jc, rfl, him, rfl, HJ, KB⟩ := hrel
    cases gk with
    | zero =>
      have hii : ¬ (i : Int) < (n : Int) := by omega
      obtain rfl : i = n := by omega
      have HJ2 : Hid (wr.ownsRow w.heap.size 5 1 (.slice jo i jc) i (bv (l.map (tw tgB)))) := by have := HJ.out; rw [List.take_of_length_le (by have := HL.out; omega)] at this; exact this
      go_wp2
      go_ret
      exact ⟨_, rfl, HJ2.out, KB.out⟩
    | succ go =>
      have hii : (i : Int) < (n : Int) := by omega
      have hi0 : (0 : Int) ≤ (i : Int) := by omega
      have hwi : IntKind.i64.wrap ((i : Int) + 1) = (i : Int) + 1 := by rw [IntKind.wrap_i64]; have := HBB.out; omega
      have HIM := Hid.mk' him
      have hil : i < l.length := by have := HL.out; omega
      have HSN : Hid ((l.take (i + 1)).map (tw tgB) = (l.take i).map (tw tgB) ++ [tw tgB (at8 l i)]) := by unfold Hid; rw [List.take_succ_eq_append_getElem hil, List.map_append, at8_eq hil]; rfl
      have hT := HTK.out wr KB.out
      obtain ⟨gg, o, rfl, hc⟩ := hT.at (by omega)
      have k0 := hc i (by omega)
      have hb1 : ((at8 l i).toNat : Int) ≤ 255 := by have := UInt8.toNat_lt (at8 l i); omega
      have HTW : Hid (tgB ((at8 l i).toNat : Int) = ((tw tgB (at8 l i)).toNat : Int)) := tw_i tg_in (at8 l i)
      have CT := Hid.mk' (rtoggle_any ((at8 l i).toNat : Int) wr (by omega) hb1)
      clear hc hT him hil hb1
      generalize at8 l i = bb at *
      go_upto_region 10 with (first | (go_at_call 65; refine CT.out.mono ?_; rintro e w' ⟨rfl, hw⟩; have hq := hw.symm; subst hq; clear hw) | fail)
      rw [HTW.out]
      clear CT k0
      generalize tw tgB bb = b2 at *
      go_wp2_with (at_builtin; refine append_big rfl (.tmp 33) (.tmp 35) rfl w.heap.size (.slice jo i jc) i (bv ((l.take i).map (tw tgB))) rfl (own_keep HJ.out (bAlloc (Below.refl _ _) _)) (.slice (some ⟨wr.heap.size, 0, none⟩) 1 1) 1 (bv [b2]) rfl ((Wb.new (one_own wr b2)).tx (by simp)).srv rfl (bv_one _) (by have := HBB.out; omega) (by omega) (Nat.le_trans KB.out.size (by rw [World.size_alloc]; omega)) ?_)
      intro v1 w1 hown hgrow _
      obtain ⟨jo2, jc2, rfl⟩ := own_shape hown
      have K0 := bT KB.out (bAlloc (Below.refl wr.heap.size wr) (.cells #[.int .u8 (b2.toNat : Int)] 5))
      have K1 := Hid.mk' (K0.grown hgrow K0.size (fun k hk => (HJ.out.lt k hk).1))
      have O1 : Hid (w1.ownsRow w.heap.size 5 1 (.slice jo2 (i + 1) jc2) (i + 1) (bv ((l.take (i + 1)).map (tw tgB)))) := by unfold Hid; rw [HSN.out, bv_append, List.map_take]; exact hown
      clear hown hgrow K0
      go_wp2
      go_roundg go
      case measure => omega
      case rel => exact ⟨i + 1, jo2, jc2, by go_num, by have := HIM.out; omega, rfl, O1.out, K1.out⟩
set_option maxHeartbeats 4000000 in
theorem rtu_low (ao : Option Addr) (n c : Nat) (l : List UInt8) (w : World) (HT : Hid (Tx w ao n c l)) (hb : n ≤ 1048576) :
    Calls Tryz.prog 34 #[.slice ao n c, .string ⟨#[103, 117]⟩] w fun e w' => NewP n (l.map (tw loB)) w e w' := by
  have HL := Hid.mk' HT.out.len
  have HTK : Hid (∀ W, Below w.heap.size w W → Tx W ao n c l) := fun W hW => HT.out.keep hW
  have HBB := Hid.mk' hb
  clear hb HT
  go_enter Tryz.func34, Tryz.ntmps34
  go_wp2_with fail
  go_loopg [5, 6, 7] n (fun m x5 x6 x7 wx => ∃ (i : Nat) (jo : Option Addr) (jc : Nat), x6 = .int .i64 (i : Int) ∧ i + m = n ∧ x5 = .slice jo i jc ∧ Hid (wx.ownsRow w.heap.size 5 1 (.slice jo i jc) i (bv ((l.take i).map (tw loB)))) ∧ Hid (Below w.heap.size w wx))
  case atStart => exact ⟨0, none, 0, rfl, by omega, rfl, World.ownsRow_nil _ _ _ _, Below.refl _ _⟩
  case round =>
    obtain ⟨i, jo, jc, rfl, him, rfl, HJ, KB⟩ := hrel
    cases gk with
    | zero =>
      have hii : ¬ (i : Int) < (n : Int) := by omega
      obtain rfl : i = n := by omega
      have HJ2 : Hid (wr.ownsRow w.heap.size 5 1 (.slice jo i jc) i (bv (l.map (tw loB)))) := by have := HJ.out; rw [List.take_of_length_le (by have := HL.out; omega)] at this; exact this
      go_wp2
      go_ret
      exact ⟨_, rfl, HJ2.out, KB.out⟩
    | succ go =>
      have hii : (i : Int) < (n : Int) := by omega
      have hi0 : (0 : Int) ≤ (i : Int) := by omega
      have hwi : IntKind.i64.wrap ((i : Int) + 1) = (i : Int) + 1 := by rw [IntKind.wrap_i64]; have := HBB.out; omega
      have HIM := Hid.mk' him
      have hil : i < l.length := by have := HL.out; omega
      have HSN : Hid ((l.take (i + 1)).map (tw loB) = (l.take i).map (tw loB) ++ [tw loB (at8 l i)]) := by unfold Hid; rw [List.take_succ_eq_append_getElem hil, List.map_append, at8_eq hil]; rfl
      have hT := HTK.out wr KB.out
      obtain ⟨gg, o, rfl, hc⟩ := hT.at (by omega)
      have k0 := hc i (by omega)
      have hb1 : ((at8 l i).toNat : Int) ≤ 255 := by have := UInt8.toNat_lt (at8 l i); omega
      have HTW : Hid (loB ((at8 l i).toNat : Int) = ((tw loB (at8 l i)).toNat : Int)) := tw_i lo_in (at8 l i)
      have CT := Hid.mk' (rtoggle_any ((at8 l i).toNat : Int) wr (by omega) hb1)
      have CL := Hid.mk' (rlower_any ((at8 l i).toNat : Int) wr (by omega) hb1)
      clear hc hT him hil hb1
      generalize at8 l i = bb at *
      go_upto_region 10 with (first | (go_at_call 65; refine CT.out.mono ?_; rintro e w' ⟨rfl, hw⟩; have hq := hw.symm; subst hq; clear hw) | (go_at_call 66; refine CL.out.mono ?_; rintro e w' ⟨rfl, hw⟩; have hq := hw.symm; subst hq; clear hw) | fail)
      rw [HTW.out]
      clear CT CL k0
      generalize tw loB bb = b2 at *
      go_wp2_with (at_builtin; refine append_big rfl (.tmp 33) (.tmp 35) rfl w.heap.size (.slice jo i jc) i (bv ((l.take i).map (tw loB))) rfl (own_keep HJ.out (bAlloc (Below.refl _ _) _)) (.slice (some ⟨wr.heap.size, 0, none⟩) 1 1) 1 (bv [b2]) rfl ((Wb.new (one_own wr b2)).tx (by simp)).srv rfl (bv_one _) (by have := HBB.out; omega) (by omega) (Nat.le_trans KB.out.size (by rw [World.size_alloc]; omega)) ?_)
      intro v1 w1 hown hgrow _
      obtain ⟨jo2, jc2, rfl⟩ := own_shape hown
      have K0 := bT KB.out (bAlloc (Below.refl wr.heap.size wr) (.cells #[.int .u8 (b2.toNat : Int)] 5))
      have K1 := Hid.mk' (K0.grown hgrow K0.size (fun k hk => (HJ.out.lt k hk).1))
      have O1 : Hid (w1.ownsRow w.heap.size 5 1 (.slice jo2 (i + 1) jc2) (i + 1) (bv ((l.take (i + 1)).map (tw loB)))) := by unfold Hid; rw [HSN.out, bv_append, List.map_take]; exact hown
      clear hown hgrow K0
      go_wp2
      go_roundg go
      case measure => omega
      case rel => exact ⟨i + 1, jo2, jc2, by go_num, by have := HIM.out; omega, rfl, O1.out, K1.out⟩
set_option maxHeartbeats 4000000 in
theorem rtu_upp (ao : Option Addr) (n c : Nat) (l : List UInt8) (w : World) (HT : Hid (Tx w ao n c l)) (hb : n ≤ 1048576) :
    Calls Tryz.prog 34 #[.slice ao n c, .string ⟨#[103, 85]⟩] w fun e w' => NewP n (l.map (tw upB)) w e w' := by
  have HL := Hid.mk' HT.out.len
  have HTK : Hid (∀ W, Below w.heap.size w W → Tx W ao n c l) := fun W hW => HT.out.keep hW
  have HBB := Hid.mk' hb
  clear hb HT
  go_enter Tryz.func34, Tryz.ntmps34
  go_wp2_with fail
  go_loopg [5, 6, 7] n (fun m x5 x6 x7 wx => ∃ (i : Nat) (jo : Option Addr) (jc : Nat), x6 = .int .i64 (i : Int) ∧ i + m = n ∧ x5 = .slice jo i jc ∧ Hid (wx.ownsRow w.heap.size 5 1 (.slice jo i jc) i (bv ((l.take i).map (tw upB)))) ∧ Hid (Below w.heap.size w wx))
  case atStart => exact ⟨0, none, 0, rfl, by omega, rfl, World.ownsRow_nil _ _ _ _, Below.refl _ _⟩
  case round =>
    obtain ⟨i, jo, jc, rfl, him, rfl, HJ, KB⟩ := hrel
    cases gk with
    | zero =>
      have hii : ¬ (i : Int) < (n : Int) := by omega
      obtain rfl : i = n := by omega
      have HJ2 : Hid (wr.ownsRow w.heap.size 5 1 (.slice jo i jc) i (bv (l.map (tw upB)))) := by have := HJ.out; rw [List.take_of_length_le (by have := HL.out; omega)] at this; exact this
      go_wp2
      go_ret
      exact ⟨_, rfl, HJ2.out, KB.out⟩
    | succ go =>
      have hii : (i : Int) < (n : Int) := by omega
      have hi0 : (0 : Int) ≤ (i : Int) := by omega
      have hwi : IntKind.i64.wrap ((i : Int) + 1) = (i : Int) + 1 := by rw [IntKind.wrap_i64]; have := HBB.out; omega
      have HIM := Hid.mk' him
      have hil : i < l.length := by have := HL.out; omega
      have HSN : Hid ((l.take (i + 1)).map (tw upB) = (l.take i).map (tw upB) ++ [tw upB (at8 l i)]) := by unfold Hid; rw [List.take_succ_eq_append_getElem hil, List.map_append, at8_eq hil]; rfl
      have hT := HTK.out wr KB.out
      obtain ⟨gg, o, rfl, hc⟩ := hT.at (by omega)
      have k0 := hc i (by omega)
      have hb1 : ((at8 l i).toNat : Int) ≤ 255 := by have := UInt8.toNat_lt (at8 l i); omega
      have HTW : Hid (upB ((at8 l i).toNat : Int) = ((tw upB (at8 l i)).toNat : Int)) := tw_i up_in (at8 l i)
      have CT := Hid.mk' (rtoggle_any ((at8 l i).toNat : Int) wr (by omega) hb1)
      have CU := Hid.mk' (rupper_any ((at8 l i).toNat : Int) wr (by omega) hb1)
      clear hc hT him hil hb1
      generalize at8 l i = bb at *
      go_upto_region 10 with (first | (go_at_call 65; refine CT.out.mono ?_; rintro e w' ⟨rfl, hw⟩; have hq := hw.symm; subst hq; clear hw) | (go_at_call 67; refine CU.out.mono ?_; rintro e w' ⟨rfl, hw⟩; have hq := hw.symm; subst hq; clear hw) | fail)
      rw [HTW.out]
      clear CT CU k0
      generalize tw upB bb = b2 at *
      go_wp2_with (at_builtin; refine append_big rfl (.tmp 33) (.tmp 35) rfl w.heap.size (.slice jo i jc) i (bv ((l.take i).map (tw upB))) rfl (own_keep HJ.out (bAlloc (Below.refl _ _) _)) (.slice (some ⟨wr.heap.size, 0, none⟩) 1 1) 1 (bv [b2]) rfl ((Wb.new (one_own wr b2)).tx (by simp)).srv rfl (bv_one _) (by have := HBB.out; omega) (by omega) (Nat.le_trans KB.out.size (by rw [World.size_alloc]; omega)) ?_)
      intro v1 w1 hown hgrow _
      obtain ⟨jo2, jc2, rfl⟩ := own_shape hown
      have K0 := bT KB.out (bAlloc (Below.refl wr.heap.size wr) (.cells #[.int .u8 (b2.toNat : Int)] 5))
      have K1 := Hid.mk' (K0.grown hgrow K0.size (fun k hk => (HJ.out.lt k hk).1))
      have O1 : Hid (w1.ownsRow w.heap.size 5 1 (.slice jo2 (i + 1) jc2) (i + 1) (bv ((l.take (i + 1)).map (tw upB)))) := by unfold Hid; rw [HSN.out, bv_append, List.map_take]; exact hown
      clear hown hgrow K0
      go_wp2
      go_roundg go
      case measure => omega
      case rel => exact ⟨i + 1, jo2, jc2, by go_num, by have := HIM.out; omega, rfl, O1.out, K1.out⟩
end Go.Proofs.YtppefcnopkmhbaaGreatDoor
