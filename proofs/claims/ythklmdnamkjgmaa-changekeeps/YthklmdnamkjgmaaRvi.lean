/- The reference: Invert. -/
import Derived.Test.YthklmdnamkjgmaaSiz
namespace Go.Proofs.Ythklmdnamkjgmaa
open Go.RowKit

set_option maxRecDepth 8000
/-- an edit's cells, below the base -/
theorem ed3_row {W W' : World} {g o o1 c1 n2 c2 base : Nat} {a : Int} {p1 p2 : Option Addr} {r : Option Nat} (h : Ed3 W g o a p1 o1 c1 p2 n2 c2) (hg : W.grownBy W' r) (hb : ∀ k, r = some k → base ≤ k) (hlt : g < base) : Ed3 W' g o a p1 o1 c1 p2 n2 c2 :=
  h.off hg (fun e => by have := hb g e.symm; omega)
theorem inv_take {E : List Er} {k : Nat} {r : Er} (hk : k < E.length) (hr : E[E.length - 1 - k]? = some r) : (inv (E.map Er.d)).take (k + 1) = (inv (E.map Er.d)).take k ++ [swp r.d] := by
  have h : (inv (E.map Er.d))[k]? = some (swp r.d) := by
    unfold inv
    rw [List.getElem?_reverse (by simpa using hk), List.getElem?_map, List.getElem?_map]
    simp only [List.length_map]
    rw [hr]; rfl
  obtain ⟨hi, e⟩ := List.getElem?_eq_some_iff.1 h
  rw [List.take_succ_eq_append_getElem hi, e]
set_option maxHeartbeats 8000000 in
set_option linter.unusedSimpArgs false in
theorem rinvert_any (eo : Option Addr) (en ec : Nat) (E : List Er) (w : World) (HE : Hid (Edz w eo E)) (hn : E.length = en) (heb : en * 56 ≤ 140737488355328) :
    Calls Try.prog 17 #[.slice eo en ec] w fun e w' => LstP (inv (E.map Er.d)) w e w' := by
  have HN := Hid.mk' hn
  clear hn
  have hw0 : IntKind.i64.wrap ((en : Int) - 1) = (en : Int) - 1 := by rw [IntKind.wrap_i64]; omega
  go_enter Try.func17, Try.ntmps17
  go_wp2_with fail
  go_loopg [3, 4] en (fun m x3 x4 wx => ∃ (k : Nat) (F : List Er), x4 = .int .i64 ((en : Int) - 1 - (k : Int)) ∧ k + m = en ∧ Hid (F.map Er.d = (inv (E.map Er.d)).take k) ∧ Hid (F.length = k) ∧ Hid (Lst w wx x3 F))
  case atStart => exact ⟨0, [], by simp, by omega, by unfold Hid; simp, rfl, Lst.nil w⟩
  case round =>
    obtain ⟨k, F, rfl, him, HF, HL, KL⟩ := hrel
    obtain ⟨go, hgo⟩ : ∃ g, g = gk - 1 := ⟨_, rfl⟩
    by_cases hi : k < en
    · obtain ⟨j, hj⟩ : ∃ j, j = en - 1 - k := ⟨_, rfl⟩
      have e1 : (en : Int) - 1 - (k : Int) = (j : Int) := by omega
      have hj0 : (0 : Int) ≤ (j : Int) := by omega
      have hj1 : (j : Int) < (en : Int) := by omega
      obtain ⟨r, hr⟩ : ∃ r, E[j]? = some r := ⟨_, List.getElem?_eq_getElem (by have := HN.out; omega)⟩
      have hit := inv_take (E := E) (k := k) (r := r) (by have := HN.out; omega) (by rw [HN.out, ← hj]; exact hr)
      obtain ⟨g, o, rfl, h3⟩ := HE.out.row.ed3 hr
      have hEt0 := HE.out.txs j r hr
      have HG : Hid (g < w.heap.size) := h3.lt
      have h4 := h3.keep (bT KL.out.bel (Below.refl _ _).drew)
      have C0 := fun (n1 c1 : Nat) (a1 : Option Addr) (l1 : List UInt8) W (hW : Below w.heap.size w W) (h : Tx w a1 n1 c1 l1) (hb : n1 ≤ 140737488355328) => rcopied_any a1 n1 c1 l1 W hb (h.keep hW)
      obtain ⟨ra, rp1, ro, rc1, rO, rp2, rn, rc2, rN⟩ := r
      have CO : Hid (∀ W, Below w.heap.size w W → Calls Try.prog 35 #[.slice rp1 ro rc1] W fun e w' => NewP ro rO W e w') := fun W hW => C0 ro rc1 rp1 rO W hW hEt0.t1 hEt0.b1
      have CN : Hid (∀ W, Below w.heap.size w W → Calls Try.prog 35 #[.slice rp2 rn rc2] W fun e w' => NewP rn rN W e w') := fun W hW => C0 rn rc2 rp2 rN W hW hEt0.t2 hEt0.b2
      have BO : Hid (ro ≤ 140737488355328 ∧ rn ≤ 140737488355328) := ⟨hEt0.b1, hEt0.b2⟩
      dsimp only [Er.d, swp] at h4 hit
      have KE : Hid (Ed3 wr.drew g (o + j * 3) ra rp1 ro rc1 rp2 rn rc2) := h4
      have KD : Hid (Lst w wr.drew u3 F) := KL.out.keep (Below.refl _ _).drew
      have HIT := Hid.mk' hit
      have hw1 : IntKind.i64.wrap ((j : Int) - 1) = (j : Int) - 1 := by rw [IntKind.wrap_i64]; omega
      have HJ := Hid.mk' hj
      rw [e1]
      clear hr h3 h4 hEt0 C0 hit KL e1 hj
      go_upto_region 5 with fail
      refine wp_region_held (S := fun w' => Ed3 w' g (o + j * 3) ra rp1 ro rc1 rp2 rn rc2) (by kernel_rfl) ?_
      change wpAnyH _ _ _ _ _ _ _ _ (World.drew _)
      generalize wr.drew = V3 at *
      refine wpAnyH_take (i := 0) (v := u3) rfl (by kernel_rfl) (by kernel_rfl) (by kernel_rfl) (fun _ _ _ h => h) (Yields.yieldsIf (Or.inl ⟨by rfl, fun w => by go_simp⟩)) KE.out ?_
      try simp only [Act.put, List.getElem_toArray, List.getElem_cons_zero, List.getElem_cons_succ, List.setIfInBounds_toArray, List.set_cons_zero, List.set_cons_succ]
      refine wpAnyH_take (i := 1) (v := .slice (some ⟨g, o, none⟩) en ec) rfl (by kernel_rfl) (by kernel_rfl) (by kernel_rfl) (fun _ _ _ h => h) (Yields.yieldsIf (Or.inl ⟨by rfl, fun w => by go_simp⟩)) KE.out ?_
      try simp only [Act.put, List.getElem_toArray, List.getElem_cons_zero, List.getElem_cons_succ, List.setIfInBounds_toArray, List.set_cons_zero, List.set_cons_succ]
      refine wpAnyH_take (i := 2) (v := .int .i64 (j : Int)) rfl (by kernel_rfl) (by kernel_rfl) (by kernel_rfl) (fun _ _ _ h => h) (Yields.yieldsIf (Or.inl ⟨by rfl, fun w => by go_simp⟩)) KE.out ?_
      try simp only [Act.put, List.getElem_toArray, List.getElem_cons_zero, List.getElem_cons_succ, List.setIfInBounds_toArray, List.set_cons_zero, List.set_cons_succ]
      refine wpAnyH_take (i := 3) (v := .pointer (some ⟨g, o + j * 3, none⟩)) rfl (by kernel_rfl) (by kernel_rfl) (by kernel_rfl) (fun _ _ _ h => h) (Yields.yieldsIf (Or.inl ⟨by rfl, fun w => by go_simp⟩)) KE.out ?_
      try simp only [Act.put, List.getElem_toArray, List.getElem_cons_zero, List.getElem_cons_succ, List.setIfInBounds_toArray, List.set_cons_zero, List.set_cons_succ]
      refine wpAnyH_take (i := 4) (v := .pointer (some ⟨g, o + j * 3, none⟩)) rfl (by kernel_rfl) (by kernel_rfl) (by kernel_rfl) (fun _ _ _ h => h) (Yields.yieldsIf (Or.inl ⟨by rfl, fun w => by go_simp⟩)) KE.out ?_
      try simp only [Act.put, List.getElem_toArray, List.getElem_cons_zero, List.getElem_cons_succ, List.setIfInBounds_toArray, List.set_cons_zero, List.set_cons_succ]
      refine wpAnyH_take (i := 5) (v := .int .i64 ra) rfl (by kernel_rfl) (by kernel_rfl) (by kernel_rfl) (fun _ _ _ h => h) (Or.inl ⟨by rfl, fun w9 h9 => by have h5 := h9.e0; have h6 := h9.e1; have h7 := h9.e2; go_simp⟩) KE.out ?_
      try simp only [Act.put, List.getElem_toArray, List.getElem_cons_zero, List.getElem_cons_succ, List.setIfInBounds_toArray, List.set_cons_zero, List.set_cons_succ]
      refine wpAnyH_take (i := 6) (v := .slice (some ⟨g, o, none⟩) en ec) rfl (by kernel_rfl) (by kernel_rfl) (by kernel_rfl) (fun _ _ _ h => h) (Yields.yieldsIf (Or.inl ⟨by rfl, fun w => by go_simp⟩)) KE.out ?_
      try simp only [Act.put, List.getElem_toArray, List.getElem_cons_zero, List.getElem_cons_succ, List.setIfInBounds_toArray, List.set_cons_zero, List.set_cons_succ]
      refine wpAnyH_take (i := 7) (v := .int .i64 (j : Int)) rfl (by kernel_rfl) (by kernel_rfl) (by kernel_rfl) (fun _ _ _ h => h) (Yields.yieldsIf (Or.inl ⟨by rfl, fun w => by go_simp⟩)) KE.out ?_
      try simp only [Act.put, List.getElem_toArray, List.getElem_cons_zero, List.getElem_cons_succ, List.setIfInBounds_toArray, List.set_cons_zero, List.set_cons_succ]
      refine wpAnyH_take (i := 8) (v := .pointer (some ⟨g, o + j * 3, none⟩)) rfl (by kernel_rfl) (by kernel_rfl) (by kernel_rfl) (fun _ _ _ h => h) (Yields.yieldsIf (Or.inl ⟨by rfl, fun w => by go_simp⟩)) KE.out ?_
      try simp only [Act.put, List.getElem_toArray, List.getElem_cons_zero, List.getElem_cons_succ, List.setIfInBounds_toArray, List.set_cons_zero, List.set_cons_succ]
      refine wpAnyH_take (i := 9) (v := .pointer (some ⟨g, o + j * 3 + 2, none⟩)) rfl (by kernel_rfl) (by kernel_rfl) (by kernel_rfl) (fun _ _ _ h => h) (Yields.yieldsIf (Or.inl ⟨by rfl, fun w => by go_simp⟩)) KE.out ?_
      try simp only [Act.put, List.getElem_toArray, List.getElem_cons_zero, List.getElem_cons_succ, List.setIfInBounds_toArray, List.set_cons_zero, List.set_cons_succ]
      refine wpAnyH_take (i := 10) (v := .slice rp2 rn rc2) rfl (by kernel_rfl) (by kernel_rfl) (by kernel_rfl) (fun _ _ _ h => h) (Or.inl ⟨by rfl, fun w9 h9 => by have h5 := h9.e0; have h6 := h9.e1; have h7 := h9.e2; go_simp⟩) KE.out ?_
      try simp only [Act.put, List.getElem_toArray, List.getElem_cons_zero, List.getElem_cons_succ, List.setIfInBounds_toArray, List.set_cons_zero, List.set_cons_succ]
      refine wpAnyH_take (i := 12) (v := .slice (some ⟨g, o, none⟩) en ec) rfl (by kernel_rfl) (by kernel_rfl) (by kernel_rfl) (fun _ _ _ h => h) (Yields.yieldsIf (Or.inl ⟨by rfl, fun w => by go_simp⟩)) KE.out ?_
      try simp only [Act.put, List.getElem_toArray, List.getElem_cons_zero, List.getElem_cons_succ, List.setIfInBounds_toArray, List.set_cons_zero, List.set_cons_succ]
      refine wpAnyH_take (i := 13) (v := .int .i64 (j : Int)) rfl (by kernel_rfl) (by kernel_rfl) (by kernel_rfl) (fun _ _ _ h => h) (Yields.yieldsIf (Or.inl ⟨by rfl, fun w => by go_simp⟩)) KE.out ?_
      try simp only [Act.put, List.getElem_toArray, List.getElem_cons_zero, List.getElem_cons_succ, List.setIfInBounds_toArray, List.set_cons_zero, List.set_cons_succ]
      refine wpAnyH_take (i := 14) (v := .pointer (some ⟨g, o + j * 3, none⟩)) rfl (by kernel_rfl) (by kernel_rfl) (by kernel_rfl) (fun _ _ _ h => h) (Yields.yieldsIf (Or.inl ⟨by rfl, fun w => by go_simp⟩)) KE.out ?_
      try simp only [Act.put, List.getElem_toArray, List.getElem_cons_zero, List.getElem_cons_succ, List.setIfInBounds_toArray, List.set_cons_zero, List.set_cons_succ]
      refine wpAnyH_take (i := 15) (v := .pointer (some ⟨g, o + j * 3 + 1, none⟩)) rfl (by kernel_rfl) (by kernel_rfl) (by kernel_rfl) (fun _ _ _ h => h) (Yields.yieldsIf (Or.inl ⟨by rfl, fun w => by go_simp⟩)) KE.out ?_
      try simp only [Act.put, List.getElem_toArray, List.getElem_cons_zero, List.getElem_cons_succ, List.setIfInBounds_toArray, List.set_cons_zero, List.set_cons_succ]
      refine wpAnyH_take (i := 16) (v := .slice rp1 ro rc1) rfl (by kernel_rfl) (by kernel_rfl) (by kernel_rfl) (fun _ _ _ h => h) (Or.inl ⟨by rfl, fun w9 h9 => by have h5 := h9.e0; have h6 := h9.e1; have h7 := h9.e2; go_simp⟩) KE.out ?_
      try simp only [Act.put, List.getElem_toArray, List.getElem_cons_zero, List.getElem_cons_succ, List.setIfInBounds_toArray, List.set_cons_zero, List.set_cons_succ]
      refine wpAnyH_all (rs := [11]) (by kernel_rfl) (by simp) (AllH.cons rfl (fun K hK => ?_) AllH.nil)
      go_simp
      refine (CN.out V3 KD.out.bel).mono ?_
      rintro e w4 ⟨v4, rfl, hO4, hB4⟩
      obtain ⟨p7, c7, rfl⟩ := own_shape hO4
      have O4 := Hid.mk' hO4
      have B4 := Hid.mk' hB4
      have KE4 := Hid.mk' (KE.out.keep hB4)
      clear hO4 hB4
      dsimp only
      refine hK _ _ ⟨KE4.out, ?_⟩
      clear hK K
      try simp only [Act.put, List.getElem_toArray, List.getElem_cons_zero, List.getElem_cons_succ, List.setIfInBounds_toArray, List.set_cons_zero, List.set_cons_succ]
      refine wpAnyH_all (rs := [17]) (by kernel_rfl) (by simp) (AllH.cons rfl (fun K hK => ?_) AllH.nil)
      go_simp
      refine (CO.out w4 (bT KD.out.bel B4.out)).mono ?_
      rintro e w5 ⟨v5, rfl, hO5, hB5⟩
      obtain ⟨p8, c8, rfl⟩ := own_shape hO5
      have O5 : Hid (Oe w5 V3.heap.size ⟨ra, p7, rn, c7, rN, p8, ro, c8, rO⟩) := ⟨own_keep O4.out hB5, own_lower hO5 B4.out.size, far_new O4.out hO5, BO.out.2, BO.out.1⟩
      have B5 := Hid.mk' (bT B4.out hB5)
      have KE5 := Hid.mk' (KE.out.keep B5.out)
      clear hO5 hB5 KE4
      dsimp only
      refine hK _ _ ⟨KE5.out, ?_⟩
      clear hK K
      try simp only [Act.put, List.getElem_toArray, List.getElem_cons_zero, List.getElem_cons_succ, List.setIfInBounds_toArray, List.set_cons_zero, List.set_cons_succ]
      refine wpAnyH_take (i := 18) (v := .agg #[.int .i64 ra, .slice p7 rn c7, .slice p8 ro c8]) rfl (by kernel_rfl) (by kernel_rfl) (by kernel_rfl) (fun _ _ _ h => h) (Yields.yieldsIf (Or.inl ⟨by rfl, fun w => by go_simp⟩)) KE5.out ?_
      try simp only [Act.put, List.getElem_toArray, List.getElem_cons_zero, List.getElem_cons_succ, List.setIfInBounds_toArray, List.set_cons_zero, List.set_cons_succ]
      refine wpAnyH_all (rs := [19]) (by kernel_rfl) (by simp) (AllH.cons rfl (fun K hK => ?_) AllH.nil)
      go_simp
      have B6 : Hid (Below V3.heap.size V3 (w5.alloc (.cells #[.int .i64 ra, .slice p7 rn c7, .slice p8 ro c8] 38))) := bT B5.out (bAlloc (Below.refl _ _) _)
      have O6 : Hid (Oe (w5.alloc (.cells #[.int .i64 ra, .slice p7 rn c7, .slice p8 ro c8] 38)) V3.heap.size ⟨ra, p7, rn, c7, rN, p8, ro, c8, rO⟩) := O5.out.keep (bAlloc (Below.refl _ _) _)
      have C6 : Hid (∀ (j : Nat) (u : Value), (Er.cs ⟨ra, p7, rn, c7, rN, p8, ro, c8, rO⟩).toList[j]? = some u → (w5.alloc (.cells #[.int .i64 ra, .slice p7 rn c7, .slice p8 ro c8] 38)).cell? ((⟨w5.heap.size, 0, none⟩ : Addr).add j) = some u) := fun j u hj => lit_cells w5 _ 38 j u hj
      have KE6 := Hid.mk' (KE.out.keep B6.out)
      obtain ⟨g5, hg5⟩ : ∃ g5, g5 = w5.heap.size := ⟨_, rfl⟩
      rw [← hg5] at C6 ⊢
      clear hg5 O5 B5 KE5
      generalize w5.alloc (.cells #[.int .i64 ra, .slice p7 rn c7, .slice p8 ro c8] 38) = w6 at *
      refine hK _ _ ⟨KE6.out, ?_⟩
      clear hK K
      try simp only [Act.put, List.getElem_toArray, List.getElem_cons_zero, List.getElem_cons_succ, List.setIfInBounds_toArray, List.set_cons_zero, List.set_cons_succ]
      refine wpAnyH_all (rs := [20]) (by kernel_rfl) (by simp) (AllH.cons rfl (fun K hK => ?_) AllH.nil)
      obtain ⟨v', w7, hr7, ho7, hg7, hf7⟩ := app_ed w.heap.size _ _ _ (own_keep KD.out.own B6.out) ⟨g5, 0, none⟩ ⟨ra, p7, rn, c7, rN, p8, ro, c8, rO⟩ C6.out (by have := HL.out; omega) (Nat.le_trans KD.out.bel.size B6.out.size)
      have hL7 := KD.out.snoc B6.out O6.out hg7 ho7 hf7
      have KE7 := Hid.mk' (ed3_row KE6.out hg7 (fun k hk => (KD.out.own.lt k hk).1) HG.out)
      have L7 := Hid.mk' hL7
      refine st_ed rfl _ _ rfl _ _ rfl rfl (fun ty => hr7 ty 1) ?_
      clear hr7 ho7 hg7 hf7 hL7
      refine hK _ _ ⟨KE7.out, ?_⟩
      clear hK K
      try simp only [Act.put, List.getElem_toArray, List.getElem_cons_zero, List.getElem_cons_succ, List.setIfInBounds_toArray, List.set_cons_zero, List.set_cons_succ]
      refine wpAnyH_take (i := 21) (v := v') rfl (by kernel_rfl) (by kernel_rfl) (by kernel_rfl) (fun _ _ _ h => h) (Yields.yieldsIf (Or.inl ⟨by rfl, fun w => by go_simp⟩)) KE7.out ?_
      try simp only [Act.put, List.getElem_toArray, List.getElem_cons_zero, List.getElem_cons_succ, List.setIfInBounds_toArray, List.set_cons_zero, List.set_cons_succ]
      refine wpAnyH_done (by kernel_rfl) ?_ _
      go_wp2
      go_roundg go
      case measure => omega
      case rel => exact ⟨k + 1, _, by have := HJ.out; simp; omega, by omega, by unfold Hid; rw [List.map_append, HF.out, HIT.out]; rfl, by unfold Hid; rw [List.length_append, HL.out]; rfl, L7.out⟩
    · have e1 : (en : Int) - 1 - (k : Int) = -1 := by omega
      have HF2 : Hid (F.map Er.d = inv (E.map Er.d)) := by
        have h1 := HF.out
        rw [List.take_of_length_le (by rw [inv_length, List.length_map]; have := HN.out; omega)] at h1
        exact h1
      rw [e1]
      clear hgo HF e1
      go_wp2
      go_ret
      exact ⟨_, F, rfl, HF2.out, KL.out⟩
end Go.Proofs.Ythklmdnamkjgmaa
