/- change.Trim, change.Between. -/
import Derived.Test.YthklmdnamkjgmaaLst
namespace Go.Proofs.Ythklmdnamkjgmaa
open Go.RowKit

set_option maxRecDepth 8000
theorem wl_ed {w : World} {ops : Array Oper} {rest : List Oper} {o : Oper} {a : Act} {Q : Exit → Act → World → Prop} (hgd : o.guard = none) (d s : Operand)
    (ho : o.op = .call { callee := .builtin .append, args := #[d, s], argTypes := #[23, 23] }) (v u : Value) (hd : a.eval d = v) (hs : a.eval s = u) {v' : Value} {w' : World}
    (hr : ∀ ty, (Builtin.append_ #[23, 23] ty #[v, u]).run Try.prog w = .ok v' w') (h : wpList Try.prog ops Q rest (a.put o.dst v') w') : wpList Try.prog ops Q (o :: rest) a w :=
  Lib.wpList_append_run w hgd d s 23 23 ho v u hd hs v' w' (hr _) h
theorem Rws.low {w w1 W : World} {R : List Rw} (h : Rws w1 W R) (hb : Below w.heap.size w w1) : Rws w W R :=
  ⟨fun i r hi => own_lower (h.own i r hi) hb.size, h.far, bT hb h.bel⟩
theorem Lst.low {w w1 W : World} {v : Value} {F : List Er} (h : Lst w1 W v F) (hb : Below w.heap.size w w1) : Lst w W v F := ⟨h.rws.low hb, h.bnd⟩
/-- what a call that makes a list of edits gives -/
def LstP (D : List Ed) (w : World) (e : Ending) (w' : World) : Prop := ∃ v F, e = .returned v ∧ F.map Er.d = D ∧ Lst w w' v F
theorem trim_snoc (D : List Ed) (d : Ed) : trim (D ++ [d]) = trim D ++ (if (d.O == d.N) = true then [] else [cut d]) := by
  unfold trim
  rw [List.filter_append, List.map_append]
  congr 1
  by_cases h : d.O = d.N
  · simp [h]
  · have h2 : (d.O == d.N) = false := by simpa using h
    have h3 : (d.O != d.N) = true := by simp [bne, h2]
    simp [h2, List.filter, h3]
theorem map_take {E : List Er} {i : Nat} {r : Er} (h : E[i]? = some r) : (E.map Er.d).take (i + 1) = (E.map Er.d).take i ++ [r.d] := by
  have hd : (E.map Er.d)[i]? = some r.d := by rw [List.getElem?_map, h]; rfl
  obtain ⟨hi, e⟩ := List.getElem?_eq_some_iff.1 hd
  rw [List.take_succ_eq_append_getElem hi, e]
set_option maxHeartbeats 8000000 in
theorem trim_any (eo : Option Addr) (en ec : Nat) (E : List Er) (w : World) (HE : Hid (Edz w eo E)) (hn : E.length = en) (heb : en * 56 ≤ 140737488355328) :
    Calls Try.prog 18 #[.slice eo en ec] w fun e w' => LstP (trim (E.map Er.d)) w e w' := by
  have HN := Hid.mk' hn
  clear hn
  go_enter Try.func18, Try.ntmps18
  go_wp2_with fail
  go_loopg [3, 5, 8] en (fun m x3 x5 x8 wx => ∃ (i : Nat) (F : List Er), x8 = .int .i64 (i : Int) ∧ i + m = en ∧ Hid (F.map Er.d = trim ((E.map Er.d).take i)) ∧ Hid (F.length ≤ i) ∧ Hid (Lst w wx x3 F))
  case atStart => exact ⟨0, [], rfl, by omega, rfl, Nat.le_refl _, Lst.nil w⟩
  case round =>
    obtain ⟨i, F, rfl, him, HF, HL, KL⟩ := hrel
    obtain ⟨go, hgo⟩ : ∃ g, g = gk - 1 := ⟨_, rfl⟩
    by_cases hi : i < en
    · have hi' : (i : Int) < (en : Int) := by omega
      have hi0 : (0 : Int) ≤ (i : Int) := by omega
      obtain ⟨r, hr⟩ : ∃ r, E[i]? = some r := ⟨_, List.getElem?_eq_getElem (by have := HN.out; omega)⟩
      obtain ⟨g, o, rfl, h3⟩ := HE.out.row.ed3 hr
      have hEt0 := HE.out.txs i r hr
      have HET0 := Hid.mk' hEt0
      have KB := Hid.mk' KL.out.bel
      have h4 := h3.keep KB.out
      have HR := Hid.mk' hr
      have hts : Hid (trim ((E.map Er.d).take (i + 1)) = trim ((E.map Er.d).take i) ++ (if (r.O == r.N) = true then [] else [cut r.d])) := by
        unfold Hid; rw [map_take hr, trim_snoc]; rfl
      obtain ⟨b, hb⟩ : ∃ b, (r.O == r.N) = b := ⟨_, rfl⟩
      rw [hb] at hts
      have CE0 := fun W (hW : Below w.heap.size w W) => equal_any r.p1 r.o r.c1 r.O r.p2 r.n r.c2 r.N W (hEt0.t1.keep hW) (hEt0.t2.keep hW)
      rw [hb] at CE0
      have CC0 := fun W (hW : Below w.heap.size w W) => cut_any r W (hEt0.keep hW)
      generalize cut r.d = dc at *
      obtain ⟨ra, rp1, ro, rc1, rO, rp2, rn, rc2, rN⟩ := r
      have CE : Hid (∀ W, Below w.heap.size w W → Calls Try.prog 36 #[.slice rp1 ro rc1, .slice rp2 rn rc2] W fun e w' => e = .returned (.bool b) ∧ w' = W) := CE0
      have CC : Hid (∀ W, Below w.heap.size w W → Calls Try.prog 37 #[.agg #[.int .i64 ra, .slice rp1 ro rc1, .slice rp2 rn rc2]] W fun e w' => NewE dc W e w') := CC0
      dsimp only at h4
      have t0 := h4.e0
      have t1 := h4.e1
      have t2 := h4.e2
      clear hr h3 h4 hEt0 CE0 CC0 hb HET0 HR
      obtain ⟨w1, hw1⟩ : ∃ w1, w1 = wr.alloc (.cells #[.int .i64 ra, .slice rp1 ro rc1, .slice rp2 rn rc2] 38) := ⟨_, rfl⟩
      have B1 : Hid (Below wr.heap.size wr w1) := by unfold Hid; rw [hw1]; exact bAlloc (Below.refl _ _) _
      have Y0 : Hid (Blk w1 wr.heap.size 38 #[.int .i64 ra, .slice rp1 ro rc1, .slice rp2 rn rc2]) := by unfold Hid; rw [hw1]; exact Blk.new _ _ _
      have L1 := Hid.mk' (bT KB.out B1.out)
      have K1 := Hid.mk' (KL.out.keep B1.out)
      have hw8 : IntKind.i64.wrap ((i : Int) + 1) = ((i + 1 : Nat) : Int) := by rw [IntKind.wrap_i64]; omega
      go_upto_region 5 with fail
      rw [← hw1]
      clear hw1 t0 t1 t2 KL KB
      have y0 : w1.cell? ⟨wr.heap.size, 0, none⟩ = some (.int .i64 ra) := Y0.out.cell rfl
      have y1 : w1.cell? ⟨wr.heap.size, 1, none⟩ = some (.slice rp1 ro rc1) := Y0.out.cell rfl
      have y2 : w1.cell? ⟨wr.heap.size, 2, none⟩ = some (.slice rp2 rn rc2) := Y0.out.cell rfl
      go_wp2_with fail
      refine (CE.out w1 L1.out).mono ?_
      rintro e w2 ⟨rfl, rfl⟩
      clear CE
      dsimp only
      cases b with
      | true =>
        have HF2 : Hid (F.map Er.d = trim ((E.map Er.d).take (i + 1))) := by unfold Hid; rw [hts.out, HF.out]; simp
        go_wp2
        go_roundg go
        case measure => omega
        case rel => exact ⟨i + 1, F, by go_num, by omega, HF2.out, Nat.le_succ_of_le HL.out, K1.out⟩
      | false =>
        go_wp2_with fail
        refine (CC.out w2 L1.out).mono ?_
        rintro e w3 ⟨r5, rfl, hd5, hO5, hb5⟩
        obtain ⟨q, hq⟩ : ∃ q, q = w3.heap.size := ⟨_, rfl⟩
        have hbA : Below w2.heap.size w2 (w3.alloc (.cells r5.cs 38)) := bT hb5 (bAlloc (Below.refl _ _) _)
        have hOA := (hO5.keep (bAlloc (Below.refl _ w3) (.cells r5.cs 38)))
        have hlA := own_keep K1.out.own hbA
        have hsz := (bT L1.out hbA).size
        obtain ⟨v', w4, hr4, ho4, hg4, hf4⟩ := app_ed w.heap.size _ _ _ hlA ⟨w3.heap.size, 0, none⟩ r5 (fun j u hj => lit_cells w3 _ 38 j u hj) (by have := HL.out; omega) hsz
        have hL4 := K1.out.snoc hbA hOA hg4 ho4 hf4
        have HF2 : Hid ((F ++ [r5]).map Er.d = trim ((E.map Er.d).take (i + 1))) := by unfold Hid; rw [hts.out, List.map_append, HF.out, ← hd5]; simp
        have HL4 := Hid.mk' hL4
        have HR4 := Hid.mk' hr4
        clear hbA hOA hlA hsz ho4 hg4 hf4 hL4 hr4 hq hd5 hO5 hb5 K1 CC
        obtain ⟨a7, p7, o7, c7, O7, p8, n8, c8, N8⟩ := r5
        have HR5 : Hid (∀ ty c, (Builtin.append_ #[23, 23] ty #[u3, .slice (some ⟨w3.heap.size, 0, none⟩) 1 c]).run Try.prog (w3.alloc (.cells #[.int .i64 a7, .slice p7 o7 c7, .slice p8 n8 c8] 38)) = .ok v' w4) := HR4.out
        clear HR4
        dsimp only [Er.cs]
        go_wp2_with (at_builtin; refine wl_ed rfl _ _ rfl _ _ rfl rfl (fun ty => HR5.out ty _) ?_)
        go_roundg go
        case measure => omega
        case rel => exact ⟨i + 1, _, by go_num, by omega, HF2.out, by unfold Hid; rw [List.length_append]; have := HL.out; simp; omega, HL4.out⟩
    · have hi' : ¬ (i : Int) < (en : Int) := by omega
      have HF2 : Hid (F.map Er.d = trim (E.map Er.d)) := by
        have h1 := HF.out
        rw [List.take_of_length_le (by rw [List.length_map]; have := HN.out; omega)] at h1
        exact h1
      clear hgo
      go_wp2
      go_ret
      exact ⟨_, F, rfl, HF2.out, KL.out⟩
set_option maxHeartbeats 4000000 in
theorem between_any (a1 : Option Addr) (n1 c1 : Nat) (l1 : List UInt8) (a2 : Option Addr) (n2 c2 : Nat) (l2 : List UInt8) (w : World) (h1 : Hid (Tx w a1 n1 c1 l1)) (h2 : Hid (Tx w a2 n2 c2 l2)) (b1 : n1 ≤ 140737488355328) (b2 : n2 ≤ 140737488355328) :
    Calls Try.prog 20 #[.slice a1 n1 c1, .slice a2 n2 c2] w fun e w' => LstP (trim [⟨0, l1, l2⟩]) w e w' := by
  obtain ⟨w1, hw1⟩ : ∃ w1, w1 = w.alloc (.cells #[.int .i64 0, .slice a1 n1 c1, .slice a2 n2 c2] 38) := ⟨_, rfl⟩
  have B1 : Hid (Below w.heap.size w w1) := by unfold Hid; rw [hw1]; exact bAlloc (Below.refl _ _) _
  have Y0 : Blk w1 w.heap.size 38 #[.int .i64 0, .slice a1 n1 c1, .slice a2 n2 c2] := by rw [hw1]; exact Blk.new _ _ _
  obtain ⟨q, hq⟩ : ∃ q, q = w.heap.size := ⟨_, rfl⟩
  have hE : Edz w1 (some ⟨w.heap.size, 0, none⟩) [⟨0, a1, n1, c1, l1, a2, n2, c2, l2⟩] := ⟨fun k r hk => by
      match k, hk with
      | 0, hk => simp at hk; subst hk; exact ⟨_, 0, rfl, Y0.cell rfl, Y0.cell rfl, Y0.cell rfl⟩
      | k + 1, hk => simp at hk, fun k r hk => by
      match k, hk with
      | 0, hk => simp at hk; subst hk; exact ⟨h1.out.keep B1.out, h2.out.keep B1.out, b1, b2⟩
      | k + 1, hk => simp at hk⟩
  have C := Hid.mk' (fun c => trim_any (some ⟨w.heap.size, 0, none⟩) 1 c [⟨0, a1, n1, c1, l1, a2, n2, c2, l2⟩] w1 hE rfl (by omega))
  clear hq hE Y0
  go_enter Try.func20, Try.ntmps20
  go_wp2_with fail
  rw [← hw1]
  refine (C.out _).mono ?_
  rintro e w2 ⟨v, F, rfl, hF, hL⟩
  have HF := Hid.mk' hF
  have HL := Hid.mk' hL
  clear hF hL C hw1
  dsimp only
  go_wp2
  go_ret
  exact ⟨v, F, rfl, HF.out, HL.out.low B1.out⟩
end Go.Proofs.Ythklmdnamkjgmaa
