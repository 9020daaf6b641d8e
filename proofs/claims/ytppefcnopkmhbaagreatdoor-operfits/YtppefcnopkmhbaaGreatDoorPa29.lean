/- Chk, Sam9, Fts, Fpr -/
import Derived.Test.YtppefcnopkmhbaaGreatDoorPa11
import Derived.Test.YtppefcnopkmhbaaGreatDoorPa16
import Derived.Test.YtppefcnopkmhbaaGreatDoorPa28
import Derived.Test.YtppefcnopkmhbaaGreatDoorPa18
import Derived.Test.YtppefcnopkmhbaaGreatDoorPa23
namespace Go.Proofs.YtppefcnopkmhbaaGreatDoor
open Go.RowKit

set_option maxRecDepth 8000
set_option maxHeartbeats 4000000 in
theorem check_any (ao : Option Addr) (n c : Nat) (T : List UInt8) (eo : Option Addr) (en ec : Nat) (E : List Er) (w : World) (hT : Hid (Tx w ao n c T)) (hb : n ≤ 140737488355328) (HE : Hid (Edz w eo E)) (hn : E.length = en) (heb : en ≤ 140737488355328) (HM : Hid (Mod T (E.map Er.d))) :
    Calls Tryz.prog 59 #[.slice ao n c, .slice eo en ec] w fun e w' => e = .returned (.int .i64 (if (app T (E.map Er.d)).isSome then 0 else 170)) ∧ Below w.heap.size w w' := by
  have C := Hid.mk' (apply_any ao n c T eo en ec E w hT hb HE hn heb HM)
  generalize app T (E.map Er.d) = z at *
  clear hb hn heb
  go_enter Tryz.func59, Tryz.ntmps59
  go_wp2_with fail
  refine C.out.mono ?_
  rintro e w1 (⟨U, v, rfl, rfl, -, hB⟩ | ⟨rfl, rfl, hB⟩)
  · have B := Hid.mk' hB
    clear hB C
    dsimp only
    go_wp2
    go_ret
    exact ⟨rfl, B.out⟩
  · have B := Hid.mk' hB
    clear hB C
    dsimp only
    go_wp2
    go_ret
    exact ⟨rfl, B.out⟩
theorem map_take {E : List Er} {i : Nat} {r : Er} (h : E[i]? = some r) : (E.map Er.d).take (i + 1) = (E.map Er.d).take i ++ [r.d] := by
  have hd : (E.map Er.d)[i]? = some r.d := by rw [List.getElem?_map, h]; rfl
  obtain ⟨hi, e⟩ := List.getElem?_eq_some_iff.1 hd
  rw [List.take_succ_eq_append_getElem hi, e]
set_option maxHeartbeats 4000000 in
theorem size_any (eo : Option Addr) (en ec : Nat) (E : List Er) (w : World) (HE : Hid (Edz w eo E)) (hn : E.length = en) (heb : en ≤ 140737488355328) :
    Calls Tryz.prog 60 #[.slice eo en ec] w fun e w' => e = .returned (.int .i64 (sz (E.map Er.d))) ∧ Below w.heap.size w w' := by
  have HN := Hid.mk' hn
  clear hn
  go_enter Tryz.func60, Tryz.ntmps60
  go_wp2_with fail
  go_loopg [3, 5, 8] en (fun m x3 x5 x8 wx => ∃ (i : Nat) (s : Int), x8 = .int .i64 (i : Int) ∧ x3 = .int .i64 s ∧ i + m = en ∧ Hid (s = sz ((E.map Er.d).take i)) ∧ Hid (Below w.heap.size w wx))
  case atStart => exact ⟨0, 0, rfl, rfl, by omega, rfl, Below.refl _ _⟩
  case round =>
    obtain ⟨i, s, rfl, rfl, him, HF, KB⟩ := hrel
    obtain ⟨go, hgo⟩ : ∃ g, g = gk - 1 := ⟨_, rfl⟩
    by_cases hi : i < en
    · have hi' : (i : Int) < (en : Int) := by omega
      have hi0 : (0 : Int) ≤ (i : Int) := by omega
      obtain ⟨r, hr⟩ : ∃ r, E[i]? = some r := ⟨_, List.getElem?_eq_getElem (by have := HN.out; omega)⟩
      obtain ⟨g, o, rfl, h3⟩ := HE.out.row.ed3 hr
      have hEt0 := HE.out.txs i r hr
      have h4 := h3.keep KB.out
      have hts : sz ((E.map Er.d).take (i + 1)) = IntKind.i64.wrap (sz ((E.map Er.d).take i) + ((r.n : Int) - (r.o : Int))) := by
        rw [map_take hr, sz_snoc]
        show IntKind.i64.wrap (_ + ((r.N.length : Int) - (r.O.length : Int))) = _
        rw [hEt0.t1.len, hEt0.t2.len]
      rw [← HF.out] at hts
      have b1 := hEt0.b1
      have b2 := hEt0.b2
      obtain ⟨ra, rp1, ro, rc1, rO, rp2, rn, rc2, rN⟩ := r
      dsimp only at h4 hts b1 b2
      have t0 := h4.e0
      have t1 := h4.e1
      have t2 := h4.e2
      obtain ⟨s2, hs2⟩ : ∃ s2, IntKind.i64.wrap (s + ((rn : Int) - (ro : Int))) = s2 := ⟨_, rfl⟩
      have HT : Hid (s2 = sz ((E.map Er.d).take (i + 1))) := by unfold Hid; rw [hts, hs2]
      have hw1 : IntKind.i64.wrap ((rn : Int) - (ro : Int)) = (rn : Int) - (ro : Int) := by rw [IntKind.wrap_i64]; omega
      have hw8 : IntKind.i64.wrap ((i : Int) + 1) = ((i + 1 : Nat) : Int) := by rw [IntKind.wrap_i64]; omega
      have BA := Hid.mk' (bT KB.out (bAlloc (Below.refl _ wr) (.cells #[.int .i64 ra, .slice rp1 ro rc1, .slice rp2 rn rc2] 65)))
      clear hr h3 h4 hEt0 hts b1 b2
      go_wp2
      go_roundg go
      case measure => omega
      case rel => exact ⟨i + 1, s2, by go_num, rfl, by omega, HT.out, BA.out⟩
    · have hi' : ¬ (i : Int) < (en : Int) := by omega
      have HF2 : Hid (s = sz (E.map Er.d)) := by
        have h1 := HF.out
        rw [List.take_of_length_le (by rw [List.length_map]; have := HN.out; omega)] at h1
        exact h1
      clear hgo HF
      go_wp2
      go_ret
      exact ⟨by rw [← HF2.out]; rfl, KB.out⟩
theorem sz_small (D : List Ed) (h1 : (nsum D : Int) ≤ 1152921504606846976) (h2 : (osum D : Int) ≤ 1152921504606846976) : sz D = (nsum D : Int) - (osum D : Int) := by
  have key : ∀ (D : List Ed) (s a b : Int), 0 ≤ a → 0 ≤ b → s = a - b → a + (nsum D : Int) ≤ 1152921504606846976 → b + (osum D : Int) ≤ 1152921504606846976 → D.foldl (fun s d => IntKind.i64.wrap (s + ((d.N.length : Int) - (d.O.length : Int)))) s = s + ((nsum D : Int) - (osum D : Int)) := by
    intro D
    induction D with
    | nil => intro s a b _ _ _ _ _; show s = s + (((0 : Nat) : Int) - ((0 : Nat) : Int)); omega
    | cons d D ih =>
      intro s a b ha hb hs h3 h4
      have e1 : nsum (d :: D) = d.N.length + nsum D := by simp [nsum]
      have e2 : osum (d :: D) = d.O.length + osum D := by simp [osum]
      rw [e1] at h3 ⊢
      rw [e2] at h4 ⊢
      rw [List.foldl_cons]
      have hw : IntKind.i64.wrap (s + ((d.N.length : Int) - (d.O.length : Int))) = s + ((d.N.length : Int) - (d.O.length : Int)) := by rw [IntKind.wrap_i64]; omega
      rw [hw, ih (s + ((d.N.length : Int) - (d.O.length : Int))) (a + d.N.length) (b + d.O.length) (by omega) (by omega) (by omega) (by omega) (by omega)]
      omega
  have := key D 0 0 0 (by omega) (by omega) (by omega) (by omega) (by omega)
  unfold sz
  rw [this]
  omega
end Go.Proofs.YtppefcnopkmhbaaGreatDoor

namespace Go.Proofs.YtppefcnopkmhbaaGreatDoor
open Go.RowKit

set_option maxRecDepth 8000
/-- an effect as it lies in memory, to be read -/
structure Efr (W : World) (v tv : Value) (F : List Er) (x : Ef) : Prop where
  d : F.map Er.d = x.es
  es : ∃ ao c, v = .slice ao F.length c ∧ Edz W ao F
  tx : ∃ to' c, tv = .slice to' x.txt.length c ∧ Tx W to' x.txt.length c x.txt
theorem Efr.keep {W W' : World} {v tv : Value} {F : List Er} {x : Ef} (h : Efr W v tv F x) (hb : Below W.heap.size W W') : Efr W' v tv F x := by
  obtain ⟨ao, c, h1, h2⟩ := h.es
  obtain ⟨to', c2, h3, h4⟩ := h.tx
  exact ⟨h.d, ⟨ao, c, h1, h2.keep hb⟩, ⟨to', c2, h3, h4.keep hb⟩⟩
theorem Efm.efr {W : World} {lo hi : Nat} {v tv : Value} {F : List Er} {x : Ef} (h : Efm W lo hi v F tv x.txt) (hF : F.map Er.d = x.es) (hb : x.txt.length ≤ 150000000000000) : Efr W v tv F x := by
  obtain ⟨ao, c, h1, h2, -⟩ := h.eds.edz
  obtain ⟨to', c2, h3⟩ := h.tx.shape
  subst h3
  exact ⟨hF, ⟨ao, c, h1, h2⟩, ⟨to', c2, rfl, h.tx.tx hb⟩⟩
theorem efz_efr (W : World) : Efr W (.slice none 0 0) (.slice none 0 0) [] ef0 :=
  ⟨rfl, ⟨none, 0, rfl, ⟨fun k r h => by simp at h, fun k r h => by simp at h⟩⟩, ⟨none, 0, rfl, tx_nil W⟩⟩
theorem er_at {F G : List Er} {D : List Ed} {i : Nat} {r : Er} (h1 : F.map Er.d = D) (h2 : G.map Er.d = D) (hr : F[i]? = some r) : ∃ q, G[i]? = some q ∧ q.a = r.a ∧ q.O = r.O ∧ q.N = r.N := by
  have e1 : (F.map Er.d)[i]? = some r.d := by rw [List.getElem?_map, hr]; rfl
  rw [h1, ← h2, List.getElem?_map] at e1
  cases hq : G[i]? with
  | none => rw [hq] at e1; cases e1
  | some q =>
    rw [hq] at e1
    have : q.d = r.d := by simpa using e1
    exact ⟨q, rfl, congrArg Ed.a this, congrArg Ed.O this, congrArg Ed.N this⟩
set_option maxHeartbeats 16000000 in
set_option linter.unusedSimpArgs false in
theorem same_yes (w : World) (v1 tv1 v2 tv2 : Value) (F1 F2 : List Er) (x : Ef) (H1 : Hid (Efr w v1 tv1 F1 x)) (H2 : Hid (Efr w v2 tv2 F2 x)) (hn : x.es.length ≤ 140737488355328) :
    Calls Tryz.prog 11 #[efV v1 tv1 x, efV v2 tv2 x] w fun e w' => e = .returned (.bool true) ∧ Below w.heap.size w w' := by
  obtain ⟨a1, c1, rfl, Z1⟩ := H1.out.es
  obtain ⟨t1, d1, rfl, T1⟩ := H1.out.tx
  obtain ⟨a2, c2, rfl, Z2⟩ := H2.out.es
  obtain ⟨t2, d2, rfl, T2⟩ := H2.out.tx
  have HD1 := Hid.mk' H1.out.d
  have HD2 := Hid.mk' H2.out.d
  obtain ⟨en, hen⟩ : ∃ en, F1.length = en := ⟨_, rfl⟩
  have hen2 : F2.length = en := by rw [← hen, ← List.length_map (f := Er.d), HD2.out, ← HD1.out, List.length_map]
  have henb : en ≤ 140737488355328 := by rw [← hen, ← List.length_map (f := Er.d), HD1.out]; exact hn
  rw [hen, hen2]
  have HEN1 := Hid.mk' hen
  have HEN2 := Hid.mk' hen2
  clear hen hen2 hn H1 H2
  obtain ⟨es, cur, set, lin, txt, how, typ⟩ := x
  unfold efV
  dsimp only at T1 T2 HD1 HD2 ⊢
  obtain ⟨tn, htn⟩ : ∃ tn, txt.length = tn := ⟨_, rfl⟩
  rw [htn] at T1 T2 ⊢
  clear htn
  obtain ⟨W1, hW1⟩ : ∃ x, (w.alloc (.cells (ef7 (.slice a1 en c1) cur set lin (.slice t1 tn d1) how typ) 35)).alloc (.cells (ef7 (.slice a2 en c2) cur set lin (.slice t2 tn d2) how typ) 35) = x := ⟨_, rfl⟩
  obtain ⟨B, hB⟩ : ∃ b, w.heap.size = b := ⟨_, rfl⟩
  have hb1 : Below w.heap.size w W1 := by rw [← hW1]; exact bAlloc (bAlloc (Below.refl _ _) _) _
  have K1 : Hid (Blk W1 B 35 (ef7 (.slice a1 en c1) cur set lin (.slice t1 tn d1) how typ)) := by unfold Hid; rw [← hW1, ← hB]; exact (Blk.new w 35 _).keep (bAlloc (Below.refl _ _) _)
  have K2 : Hid (Blk W1 (B + 1) 35 (ef7 (.slice a2 en c2) cur set lin (.slice t2 tn d2) how typ)) := by
    unfold Hid
    rw [← hW1, ← hB]
    have := Blk.new (w.alloc (.cells (ef7 (.slice a1 en c1) cur set lin (.slice t1 tn d1) how typ) 35)) 35 (ef7 (.slice a2 en c2) cur set lin (.slice t2 tn d2) how typ)
    rwa [World.size_alloc] at this
  have B1 := Hid.mk' hb1
  have Y1 := Hid.mk' (Z1.keep hb1)
  have Y2 := Hid.mk' (Z2.keep hb1)
  have U1 := Hid.mk' (T1.keep hb1)
  have U2 := Hid.mk' (T2.keep hb1)
  unfold ef7 at hW1
  clear Z1 Z2 T1 T2 hb1
  go_enter Tryz.func11, Tryz.ntmps11
  go_upto_region 1 with fail
  clear hW1 hB
  obtain ⟨x0, x1, x2, x3, x4, x5, x6⟩ := ef_cells K1.out
  obtain ⟨y0, y1, y2, y3, y4, y5, y6⟩ := ef_cells K2.out
  have cv1 := conv_tx U1.out
  have cv2 := conv_tx U2.out
  have nn := ne9_no txt W1
  go_upto_region 3 with fail
  go_wp2_with fail
  clear x0 x1 x2 x3 x4 x5 x6 y0 y1 y2 y3 y4 y5 y6 cv1 cv2 nn U1 U2
  go_loopg [5, 6, 7, 68] en (fun m x5 x6 x7 x68 wx => ∃ (i : Nat), x68 = .int .i64 (i : Int) ∧ i + m = en ∧ Hid (Below W1.heap.size W1 wx))
  case atStart => exact ⟨0, rfl, by omega, Below.refl _ _⟩
  case round =>
    obtain ⟨i, rfl, him, KB⟩ := hrel
    cases gk with
    | zero =>
      have hii : ¬ (i : Int) < (en : Int) := by omega
      go_wp2
      go_ret
      exact ⟨rfl, bT B1.out KB.out⟩
    | succ go =>
      have hii : (i : Int) < (en : Int) := by omega
      have hi0 : (0 : Int) ≤ (i : Int) := by omega
      obtain ⟨r, hr⟩ : ∃ r, F1[i]? = some r := ⟨_, List.getElem?_eq_getElem (by have := HEN1.out; omega)⟩
      obtain ⟨q, hq, ha, hO, hN⟩ := er_at HD1.out HD2.out hr
      have hE1 := (Y1.out.txs i r hr).keep KB.out
      have hE2 := (Y2.out.txs i q hq).keep KB.out
      obtain ⟨g, o, rfl, h3⟩ := Y1.out.row.ed3 hr
      obtain ⟨g2, o2, rfl, h4⟩ := Y2.out.row.ed3 hq
      have h5 := h3.keep KB.out
      have h6 := h4.keep KB.out
      obtain ⟨ra, rp1, ro, rc1, rO, rp2, rn, rc2, rN⟩ := r
      obtain ⟨qa, qp1, qo, qc1, qO, qp2, qn, qc2, qN⟩ := q
      dsimp only at h5 h6 ha hO hN
      subst ha hO hN
      have HE1 := Hid.mk' hE1
      have HE2 := Hid.mk' hE2
      have H6 := Hid.mk' h6
      have t0 := h5.e0
      have t1 := h5.e1
      have t2 := h5.e2
      have hw8 : IntKind.i64.wrap ((i : Int) + 1) = ((i + 1 : Nat) : Int) := by rw [IntKind.wrap_i64]; omega
      have HIM := Hid.mk' him
      clear hr hq h3 h4 h5 h6 hE1 hE2 him
      go_upto_region 6 with fail
      obtain ⟨P, hP⟩ : ∃ q, wr.heap.size = q := ⟨_, rfl⟩
      have hbx : Below wr.heap.size wr (wr.alloc (.cells #[.int .i64 qa, .slice rp1 ro rc1, .slice rp2 rn rc2] 65)) := bAlloc (Below.refl _ _) _
      have P1 : Hid (Blk (wr.alloc (.cells #[.int .i64 qa, .slice rp1 ro rc1, .slice rp2 rn rc2] 65)) P 65 #[.int .i64 qa, .slice rp1 ro rc1, .slice rp2 rn rc2]) := by unfold Hid; rw [← hP]; exact Blk.new wr 65 _
      rw [hP]
      generalize wr.alloc (.cells #[.int .i64 qa, .slice rp1 ro rc1, .slice rp2 rn rc2] 65) = w2 at *
      have KB2 := Hid.mk' (bT KB.out hbx)
      have H7 := Hid.mk' (H6.out.keep hbx)
      have HE3 := Hid.mk' (HE1.out.keep hbx)
      have HE4 := Hid.mk' (HE2.out.keep hbx)
      clear hP hbx KB H6 HE1 HE2 t0 t1 t2
      obtain ⟨y0, y1, y2, y3, y4, y5, y6⟩ := ef_cells (K2.out.keep KB2.out)
      have t0 := H7.out.e0
      have t1 := H7.out.e1
      have t2 := H7.out.e2
      go_upto_region 7 with fail
      obtain ⟨R, hR⟩ : ∃ q, w2.heap.size = q := ⟨_, rfl⟩
      have hbx : Below w2.heap.size w2 (w2.alloc (.cells #[.int .i64 qa, .slice qp1 qo qc1, .slice qp2 qn qc2] 65)) := bAlloc (Below.refl _ _) _
      have R1 : Hid (Blk (w2.alloc (.cells #[.int .i64 qa, .slice qp1 qo qc1, .slice qp2 qn qc2] 65)) R 65 #[.int .i64 qa, .slice qp1 qo qc1, .slice qp2 qn qc2]) := by unfold Hid; rw [← hR]; exact Blk.new w2 65 _
      rw [hR]
      generalize w2.alloc (.cells #[.int .i64 qa, .slice qp1 qo qc1, .slice qp2 qn qc2] 65) = w3 at *
      have P2 := Hid.mk' (P1.out.keep hbx)
      have KB3 := Hid.mk' (bT KB2.out hbx)
      have HE5 := HE3.out.keep hbx
      have HE6 := HE4.out.keep hbx
      clear hR hbx KB2 H7 HE3 HE4 t0 t1 t2 y0 y1 y2 y3 y4 y5 y6 P1
      have p0 : w3.cell? ⟨P, 0, none⟩ = some (.int .i64 qa) := P2.out.cell rfl
      have p1 : w3.cell? ⟨P, 1, none⟩ = some (.slice rp1 ro rc1) := P2.out.cell rfl
      have p2 : w3.cell? ⟨P, 2, none⟩ = some (.slice rp2 rn rc2) := P2.out.cell rfl
      have r0 : w3.cell? ⟨R, 0, none⟩ = some (.int .i64 qa) := R1.out.cell rfl
      have r1 : w3.cell? ⟨R, 1, none⟩ = some (.slice qp1 qo qc1) := R1.out.cell rfl
      have r2 : w3.cell? ⟨R, 2, none⟩ = some (.slice qp2 qn qc2) := R1.out.cell rfl
      have cv1 := conv_tx HE5.t1
      have cv2 := conv_tx HE5.t2
      have cv3 := conv_tx HE6.t1
      have cv4 := conv_tx HE6.t2
      have n1 := ne9_no qO w3
      have n2 := ne9_no qN w3
      clear HE5 HE6
      go_wp2
      go_roundg go
      case measure => omega
      case rel => exact ⟨i + 1, by go_num, by have := HIM.out; omega, KB3.out⟩
end Go.Proofs.YtppefcnopkmhbaaGreatDoor

namespace Go.Proofs.YtppefcnopkmhbaaGreatDoor
open Go.RowKit

set_option maxRecDepth 8000
theorem apply_ok {ao : Option Addr} {n c : Nat} {l : List UInt8} {W : World} {eo : Option Addr} {en ec : Nat} {E : List Er} {D : List Ed} {U : List UInt8} (HT : Tx W ao n c l) (hn : n ≤ 1048576) (HE : Edz W eo E) (hen : E.length = en) (he : en ≤ 1048577) (hD : E.map Er.d = D) (hs : nsum D ≤ 1073741824) (hU : apU l D = U ∧ apE l D = 0) :
    Calls Tryz.prog 58 #[.slice ao n c, .slice eo en ec] W fun e w' => ∃ uo uc, e = .returned (.tuple #[.slice uo U.length uc, .int .i64 0]) ∧ Tx w' uo U.length uc U ∧ Below W.heap.size W w' := by
  have hM : Mod l D := mod_n (by have := HT.len; omega)
  refine (apply_q ao n c l eo en ec E W HT (by omega) HE hen (by omega) hD hM).mono ?_
  rintro e w' ⟨v, he', ho, hb⟩
  rw [hU.1] at ho
  rw [hU.2] at he'
  obtain ⟨uo, uc, rfl, hT⟩ := own_tx ho (by have := apU_le hM; rw [hU.1] at this; omega)
  exact ⟨uo, uc, he', hT, hb⟩
/-- what P19.2 says of an answer -/
def FitP (l : List UInt8) (x : Ef × Int) : Prop := (x.2 ≠ 0 ∧ x.1 = ef0) ∨ (x.2 = 0 ∧ ∃ U, app l x.1.es = some U ∧ 0 ≤ x.1.cur ∧ x.1.cur ≤ (U.length : Int))
theorem ef0_v : efV (.slice none 0 0) (.slice none 0 0) ef0 = .agg #[.slice none 0 0, .int .i64 0, .bool false, .bool false, .slice none 0 0, .int .i64 0, .bool false] := rfl
set_option maxHeartbeats 16000000 in
set_option linter.unusedSimpArgs false in
theorem fits_no (w : World) (ao : Option Addr) (n c : Nat) (z : Int) (v tv : Value) (F : List Er) (H : Hid (Efr w v tv F ef0)) (hz : z ≠ 0) :
    Calls Tryz.prog 22 #[.slice ao n c, efV v tv ef0, .int .i64 z] w fun e w' => e = .returned (.bool true) ∧ Below w.heap.size w w' := by
  have hb1 : Below w.heap.size w (w.alloc (.cells (ef7 v 0 false false tv 0 false) 35)) := bAlloc (Below.refl _ _) _
  have CS := same_yes (w.alloc (.cells (ef7 v 0 false false tv 0 false) 35)) v tv (.slice none 0 0) (.slice none 0 0) F [] ef0 (H.out.keep hb1) (efz_efr _) (Nat.zero_le _)
  rw [ef0_v] at CS
  obtain ⟨a1, c1, rfl, -⟩ := H.out.es
  obtain ⟨t1, d1, rfl, -⟩ := H.out.tx
  obtain ⟨en, hen⟩ : ∃ en, F.length = en := ⟨_, rfl⟩
  rw [hen] at CS hb1 ⊢
  obtain ⟨W1, hW1⟩ : ∃ x, w.alloc (.cells (ef7 (.slice a1 en c1) 0 false false (.slice t1 ef0.txt.length d1) 0 false) 35) = x := ⟨_, rfl⟩
  have K1 : Hid (Blk W1 w.heap.size 35 (ef7 (.slice a1 en c1) 0 false false (.slice t1 ef0.txt.length d1) 0 false)) := by unfold Hid; rw [← hW1]; exact Blk.new w 35 _
  rw [hW1] at CS hb1
  unfold efV at CS
  have C1 := Hid.mk' CS
  have B1 := Hid.mk' hb1
  obtain ⟨B, hB⟩ : ∃ b, w.heap.size = b := ⟨_, rfl⟩
  rw [hB] at K1
  unfold ef7 at hW1
  unfold efV
  dsimp only [ef0, List.length_nil] at hW1 C1 K1 ⊢
  have hz1 : (z == 0) = false := beq_eq_false_iff_ne.2 hz
  have hz2 : (z != 0) = true := by simpa using hz
  clear CS hb1 H hz
  go_enter Tryz.func22, Tryz.ntmps22
  go_upto_region 1 with fail
  clear hW1 hB
  go_upto_region 2 with fail
  obtain ⟨x0, x1, x2, x3, x4, x5, x6⟩ := ef_cells K1.out
  go_wp2_with fail
  refine C1.out.mono ?_
  rintro e w' ⟨rfl, hb⟩
  clear x0 x1 x2 x3 x4 x5 x6
  dsimp only
  go_wp2_with fail
  go_ret
  exact ⟨rfl, bT B1.out hb⟩
set_option maxHeartbeats 16000000 in
set_option linter.unusedSimpArgs false in
theorem fits_yes (w : World) (ao : Option Addr) (n c : Nat) (l : List UInt8) (HT : Hid (Tx w ao n c l)) (hbig : n ≤ 1048576) (v tv : Value) (F : List Er) (x : Ef) (H : Hid (Efr w v tv F x)) (U : List UInt8) (hU : app l x.es = some U) (h0 : 0 ≤ x.cur) (h1 : x.cur ≤ (U.length : Int)) (hs : nsum x.es ≤ 1073741824) (hl : x.es.length ≤ 1048577) :
    Calls Tryz.prog 22 #[.slice ao n c, efV v tv x, .int .i64 0] w fun e w' => e = .returned (.bool true) ∧ Below w.heap.size w w' := by
  have hln := HT.out.len
  have hlen := app_len hU
  have hM : Mod l x.es := mod_n (by omega)
  have hsz := sz_small x.es (by omega) (by omega)
  have hUE : apU l x.es = U ∧ apE l x.es = 0 := by unfold apU apE; rw [hU]; exact ⟨rfl, rfl⟩
  have HD := Hid.mk' H.out.d
  obtain ⟨a1, c1, rfl, Z1⟩ := H.out.es
  obtain ⟨t1, d1, rfl, -⟩ := H.out.tx
  obtain ⟨en, hen⟩ : ∃ en, F.length = en := ⟨_, rfl⟩
  have henb : en ≤ 1048577 := by rw [← hen, ← List.length_map (f := Er.d), HD.out]; exact hl
  rw [hen]
  obtain ⟨es, cur, set, lin, txt, how, typ⟩ := x
  dsimp only at hU h0 h1 hs hl hlen hM hsz hUE HD ⊢
  obtain ⟨tn, htn⟩ : ∃ tn, txt.length = tn := ⟨_, rfl⟩
  unfold efV
  dsimp only
  rw [htn]
  obtain ⟨W1, hW1⟩ : ∃ x, w.alloc (.cells (ef7 (.slice a1 en c1) cur set lin (.slice t1 tn d1) how typ) 35) = x := ⟨_, rfl⟩
  obtain ⟨B, hB⟩ : ∃ b, w.heap.size = b := ⟨_, rfl⟩
  have K1 : Hid (Blk W1 B 35 (ef7 (.slice a1 en c1) cur set lin (.slice t1 tn d1) how typ)) := by unfold Hid; rw [← hW1, ← hB]; exact Blk.new w 35 _
  have hb1 : Below w.heap.size w W1 := by rw [← hW1]; exact bAlloc (Below.refl _ _) _
  have B1 := Hid.mk' hb1
  have HT1 := Hid.mk' (HT.out.keep hb1)
  have Z2 := Hid.mk' (Z1.keep hb1)
  have CA := Hid.mk' (apply_ok (ec := c1) (U := U) HT1.out hbig Z2.out hen henb HD.out hs hUE)
  have CC : Hid (∀ W, Below W1.heap.size W1 W → Calls Tryz.prog 59 #[.slice ao n c, .slice a1 en c1] W fun e w' => e = .returned (.int .i64 0) ∧ Below W.heap.size W w') := fun W hW => by
    have h := check_any ao n c l a1 en c1 F W (HT1.out.keep hW) (by omega) (Z2.out.keep hW) hen (by omega) (by rw [HD.out]; exact hM)
    rw [HD.out, hU] at h
    exact h
  have CZ : Hid (∀ W, Below W1.heap.size W1 W → Calls Tryz.prog 60 #[.slice a1 en c1] W fun e w' => e = .returned (.int .i64 ((U.length : Int) - (n : Int))) ∧ Below W.heap.size W w') := fun W hW => by
    have h := size_any a1 en c1 F W (Z2.out.keep hW) hen (by omega)
    rw [HD.out, hsz, show (nsum es : Int) - (osum es : Int) = (U.length : Int) - (n : Int) by omega] at h
    exact h
  obtain ⟨un, hun⟩ : ∃ un, U.length = un := ⟨_, rfl⟩
  rw [hun] at h1 CZ CA hlen
  have hwu : IntKind.i64.wrap ((n : Int) + ((un : Int) - (n : Int))) = (un : Int) := by rw [IntKind.wrap_i64]; omega
  have hwu2 : IntKind.i64.wrap (un : Int) = (un : Int) := by rw [IntKind.wrap_i64]; omega
  unfold ef7 at hW1
  clear HT H Z1 hb1 hU hlen hM hsz hUE hs hl hen henb htn hun HT1 Z2 hln hbig
  go_enter Tryz.func22, Tryz.ntmps22
  go_upto_region 1 with fail
  clear hW1 hB
  go_upto_region 3 with fail
  obtain ⟨x0, x1, x2, x3, x4, x5, x6⟩ := ef_cells K1.out
  go_wp2_with fail
  refine CA.out.mono ?_
  rintro e w2 ⟨uo, uc, rfl, -, hb2⟩
  clear x0 x1 x2 x3 x4 x5 x6 CA
  obtain ⟨x0, x1, x2, x3, x4, x5, x6⟩ := ef_cells (K1.out.keep hb2)
  have B2 := Hid.mk' hb2
  clear hb2
  go_upto_region 4 with fail
  go_wp2_with fail
  refine (CC.out w2 B2.out).mono ?_
  rintro e w3 ⟨rfl, hb3⟩
  clear x0 x1 x2 x3 x4 x5 x6 CC
  have B3 := Hid.mk' (bT B2.out hb3)
  obtain ⟨x0, x1, x2, x3, x4, x5, x6⟩ := ef_cells (K1.out.keep B3.out)
  clear hb3
  dsimp only
  go_wp2_with fail
  refine (CZ.out w3 B3.out).mono ?_
  rintro e w4 ⟨rfl, hb4⟩
  clear x0 x1 x2 x3 x4 x5 x6 CZ
  have B4 := Hid.mk' (bT B3.out hb4)
  clear hb4
  dsimp only
  go_wp2_with fail
  go_ret
  exact ⟨rfl, bT B1.out B4.out⟩
theorem fits_any (w : World) (ao : Option Addr) (n c : Nat) (l : List UInt8) (HT : Hid (Tx w ao n c l)) (hbig : n ≤ 1048576) (v tv : Value) (F : List Er) (x : Ef) (z : Int) (H : Hid (Efr w v tv F x)) (hP : FitP l (x, z)) (hs : nsum x.es ≤ 1073741824) (hl : x.es.length ≤ 1048577) :
    Calls Tryz.prog 22 #[.slice ao n c, efV v tv x, .int .i64 z] w fun e w' => e = .returned (.bool true) ∧ Below w.heap.size w w' := by
  rcases hP with ⟨h1, h2⟩ | ⟨h1, U, h2, h3, h4⟩
  · dsimp only at h1 h2
    subst h2
    exact fits_no w ao n c z v tv F H h1
  · dsimp only at h1 h2 h3 h4
    subst h1
    exact fits_yes w ao n c l HT hbig v tv F x H U h2 h3 h4 hs hl
end Go.Proofs.YtppefcnopkmhbaaGreatDoor

namespace Go.Proofs.YtppefcnopkmhbaaGreatDoor
open Go.RowKit

set_option maxRecDepth 8000
theorem fb_le (l : List UInt8) (z : Nat) : ∀ d i, fb l z d i ≤ max z (i + d)
  | 0, i => by show z ≤ _; omega
  | d + 1, i => by
    unfold fb
    split
    · have := fb_le l z d (i + 1); omega
    · omega
theorem aFirst_le (l : List UInt8) (L : Int) : 0 ≤ (aFirst l L).1 ∧ (aFirst l L).1 ≤ (l.length : Int) := by
  unfold aFirst ans
  cases hb : lnB l L with
  | false => rw [if_neg (by simp)]; exact ⟨Int.le_refl _, by omega⟩
  | true =>
    rw [if_pos rfl]
    obtain ⟨k, rfl, hk⟩ := ln_yes hb
    have h1 := sp_le (t := l) hk
    have h2 := en_ge l (sp l k)
    have h3 := en_le h1
    have h4 := lb_le h2
    rw [show ((k : Int)).toNat = k from rfl]
    have h5 := fb_le l (lb (sp l k) (en l (sp l k))) (en l (sp l k) - sp l k) (sp l k)
    dsimp only
    omega
theorem aAt_le (l : List UInt8) (L c : Int) : 0 ≤ (aAt l L c).1 ∧ (aAt l L c).1 ≤ (l.length : Int) := by
  unfold aAt ans
  cases hb : (lnB l L && decide (-1 ≤ c)) with
  | false => rw [if_neg (by simp)]; exact ⟨Int.le_refl _, by omega⟩
  | true =>
    rw [if_pos rfl]
    obtain ⟨k, rfl, hk⟩ := ln_yes (Bool.and_eq_true_iff.1 hb).1
    have h1 := sp_le (t := l) hk
    have h2 := en_ge l (sp l k)
    have h3 := en_le h1
    have h4 := lb_le h2
    rw [show ((k : Int)).toNat = k from rfl]
    dsimp only
    unfold pc
    split <;> omega
theorem fbh_le (l : List UInt8) (D : List Ed) (i : Nat) : 0 ≤ fbh l D i ∧ fbh l D i ≤ ((apU l D).length : Int) := aFirst_le _ _
/-- where the first byte that isn't blank stands in a line -/
def fq (p : List UInt8) : Nat := fb p (lb 0 p.length) p.length 0
theorem fb_shift {l p : List UInt8} {s z : Nat} : ∀ (d i : Nat), (∀ j, j < i + d → at8 l (s + j) = at8 p j) → fb l (s + z) d (s + i) = s + fb p z d i
  | 0, _, _ => rfl
  | d + 1, i, h => by
    unfold fb
    rw [h i (by omega)]
    split
    · exact fb_shift d (i + 1) (fun j hj => h j (by omega))
    · rfl
theorem at8_ln {l : List UInt8} {i j : Nat} (h : i ≤ nl l) (hj : j < (ln l i).length) : at8 l (sp l i + j) = at8 (ln l i) j := by
  have e := ln_len h
  have he := en_le (sp_le (t := l) h)
  rw [at8_eq (by omega), at8_eq hj]
  simp [ln]
theorem aFirst_ln {l : List UInt8} {i : Nat} (h : i ≤ nl l) : aFirst l (i : Int) = (((sp l i + fq (ln l i) : Nat) : Int), 0) := by
  have e := ln_len h
  unfold aFirst ans
  rw [ln_at h, if_pos rfl, show ((i : Int)).toNat = i from rfl]
  have h1 : lb (sp l i) (en l (sp l i)) = sp l i + lb 0 (ln l i).length := by unfold lb; omega
  have h2 : en l (sp l i) - sp l i = (ln l i).length := by omega
  rw [h1, h2]
  have := fb_shift (l := l) (p := ln l i) (s := sp l i) (z := lb 0 (ln l i).length) (ln l i).length 0 (fun j hj => at8_ln h (by omega))
  rw [Nat.add_zero] at this
  rw [this]
  rfl
/-- where a line begins hangs on the lines ahead -/
theorem sp_same {T l : List UInt8} : ∀ a : Nat, a ≤ nl T → a ≤ nl l → (∀ j, j < a → ln T j = ln l j) → sp T a = sp l a
  | 0, _, _, _ => by rw [sp_zero, sp_zero]
  | a + 1, h1, h2, h3 => by
    rw [(sp_next h1).2, (sp_next h2).2, ← ln_len (l := T) (i := a) (by omega), ← ln_len (l := l) (i := a) (by omega), sp_same a (by omega) (by omega) (fun j hj => h3 j (by omega)), h3 a (by omega)]
theorem first_same {T U : List UInt8} {a : Nat} (h1 : a ≤ nl T) (h2 : a ≤ nl U) (h3 : ∀ j, j ≤ a → ln T j = ln U j) : (aFirst T (a : Int)).1 = (aFirst U (a : Int)).1 := by
  rw [aFirst_ln h1, aFirst_ln h2, sp_same a h1 h2 (fun j hj => h3 j (by omega)), h3 a (Nat.le_refl _)]
theorem nw_nolf' {hd : List UInt8 → Nat × Nat} {p : List UInt8} (h : nolf p) : nolf (nw hd p) := by
  unfold nw
  intro x hx
  rcases List.mem_append.1 hx with hx | hx
  · have : x = 9 := by
      generalize (hd p).2 = k at hx
      induction k with
      | zero => cases hx
      | succ k ih => rcases List.mem_cons.1 hx with h | h
                     · exact h
                     · exact ih h
    rw [this]; decide +kernel
  · exact h x (List.mem_of_mem_drop hx)
/-- the first edit alone is shift's over fewer lines -/
theorem shf_one (hd : List UInt8 → Nat × Nat) (l : List UInt8) : ∀ (c i : Nat) (g : Int) (D : List Ed), shf hd l (c + 1) i g = some D → ∃ c1, c1 ≤ c ∧ shf hd l (c1 + 1) i g = some (D.take 1)
  | 0, i, g, D, h => by
    refine ⟨0, Nat.le_refl _, ?_⟩
    have : D.length ≤ 1 := by
      unfold shf at h
      split at h
      · cases h
      · obtain ⟨D', hD', rfl⟩ := Option.map_eq_some_iff.1 h
        injection hD' with hD'
        subst hD'
        split <;> simp
    rw [List.take_of_length_le this]
    exact h
  | c + 1, i, g, D, h => by
    have h0 := h
    unfold shf at h
    split at h
    · cases h
    · rename_i hg
      obtain ⟨D', hD', rfl⟩ := Option.map_eq_some_iff.1 h
      by_cases hx : 0 < (hd (ln l i)).1 + (hd (ln l i)).2
      · refine ⟨0, Nat.zero_le _, ?_⟩
        unfold shf
        rw [if_neg hg, if_pos hx]
        rfl
      · obtain ⟨c1, h1, h2⟩ := shf_one hd l c (i + 1) _ D' hD'
        refine ⟨c1 + 1, by omega, ?_⟩
        unfold shf
        rw [if_neg hg, h2, if_neg hx]
        rfl
theorem shf_first {hd : List UInt8 → Nat × Nat} {l : List UInt8} (hle : ∀ p, (hd p).1 ≤ p.length) {a m : Nat} {D : List Ed} (ham : a + m ≤ nl l + 1) (hm : 1 ≤ m) (hD : shf hd l m a 0 = some D) : fbh l (D.take 1) a = fbh l D a := by
  obtain ⟨m0, rfl⟩ : ∃ k, m = k + 1 := ⟨m - 1, by omega⟩
  obtain ⟨c1, h1, h2⟩ := shf_one hd l m0 a 0 D hD
  have e1 := app_lines hle ham hm hD
  have e2 := app_lines hle (a := a) (m := c1 + 1) (by omega) (by omega) h2
  have f1 : apU l D = tj (lw hd (ln l) a (m0 + 1)) (nl l) 0 := by unfold apU; rw [e1]; rfl
  have f2 : apU l (D.take 1) = tj (lw hd (ln l) a (c1 + 1)) (nl l) 0 := by unfold apU; rw [e2]; rfl
  have hn : ∀ m j, nolf (lw hd (ln l) a m j) := fun m j => by
    unfold lw
    split
    · exact nw_nolf' (ln_nolf l j)
    · exact ln_nolf l j
  obtain ⟨n1, l1⟩ := tj_lines (f := lw hd (ln l) a (m0 + 1)) (m := nl l) (fun j _ => hn _ j)
  obtain ⟨n2, l2⟩ := tj_lines (f := lw hd (ln l) a (c1 + 1)) (m := nl l) (fun j _ => hn _ j)
  unfold fbh
  rw [f1, f2, n1, n2, show min (a : Int) (nl l : Int) = (a : Int) by omega]
  refine first_same (by rw [n2]; omega) (by rw [n1]; omega) (fun j hj => ?_)
  rw [l1 j (by omega), l2 j (by omega)]
  unfold lw
  rcases Nat.lt_or_ge j a with h | h
  · rw [if_neg (by omega), if_neg (by omega)]
  · rw [if_pos (by omega), if_pos (by omega)]
/-- all that is asked of an answer's edits -/
structure FitB (l : List UInt8) (x : Ef × Int) : Prop where
  fit : FitP l x
  sum : nsum x.1.es ≤ 1073741824
  num : x.1.es.length ≤ 1048577
theorem FitB.no {l : List UInt8} {z : Int} (hz : z ≠ 0) : FitB l (ef0, z) := ⟨.inl ⟨hz, rfl⟩, Nat.zero_le _, Nat.zero_le _⟩
theorem FitB.none {l : List UInt8} {x : Ef} (he : x.es = []) (h1 : 0 ≤ x.cur) (h2 : x.cur ≤ (l.length : Int)) : FitB l (x, 0) :=
  ⟨.inr ⟨rfl, l, by dsimp only; rw [he]; rfl, h1, h2⟩, by dsimp only; rw [he]; exact Nat.zero_le _, by dsimp only; rw [he]; exact Nat.zero_le _⟩
theorem FitB.sw {l Y : List UInt8} {x : Ef} {f t : Nat} (he : x.es = sw l f t Y) (hft : f ≤ t) (ht : t ≤ l.length) (hY : Y.length ≤ 1073741824) (h1 : 0 ≤ x.cur) (h2 : x.cur ≤ ((f + Y.length + (l.length - t) : Nat) : Int)) : FitB l (x, 0) := by
  refine ⟨.inr ⟨rfl, l.take f ++ Y ++ l.drop t, by dsimp only; rw [he]; exact app_sw hft ht Y, h1, ?_⟩, ?_, ?_⟩
  · dsimp only
    rw [List.length_append, List.length_append, List.length_take, List.length_drop, show min f l.length = f by omega]
    exact h2
  · dsimp only; rw [he]; have := nsum_sw l f t Y; omega
  · dsimp only; rw [he]; have := sw_len l f t Y; omega
theorem fbh_sw {l Y : List UInt8} {f t i : Nat} (hft : f ≤ t) (ht : t ≤ l.length) : 0 ≤ fbh l (sw l f t Y) i ∧ fbh l (sw l f t Y) i ≤ ((f + Y.length + (l.length - t) : Nat) : Int) := by
  have h := fbh_le l (sw l f t Y) i
  rw [(apU_sw hft ht Y).1] at h
  rw [List.length_append, List.length_append, List.length_take, List.length_drop, show min f l.length = f by omega] at h
  exact h
end Go.Proofs.YtppefcnopkmhbaaGreatDoor
