/- The reference: Invert. -/
import Derived.Test.YtaahklapoppgaaaQm11
import Derived.Test.YtaahklapoppgaaaQm17
namespace Go.Proofs.Ytaahklapoppgaaa
open Go.RowKit

set_option maxRecDepth 8000
/-- an edit's cells, below the base -/
theorem ed3_row {W W' : World} {g o o1 c1 n2 c2 base : Nat} {a : Int} {p1 p2 : Option Addr} {r : Option Nat} (h : Ed3 W g o a p1 o1 c1 p2 n2 c2) (hg : W.grownBy W' r) (hb : ∀ k, r = some k → base ≤ k) (hlt : g < base) : Ed3 W' g o a p1 o1 c1 p2 n2 c2 :=
  h.off hg (fun e => by have := hb g e.symm; omega)
theorem inv_take {E : List Er} {k : Nat} {r : Er} (hk : k < E.length) (hr : E[E.length - 1 - k]? = some r) : (inv (E.map Er.d)).take (k + 1) = (inv (E.map Er.d)).take k ++ [swp r.d] := by
  have h : (inv (E.map Er.d))[k]? = some (swp r.d) := by
    unfold inv
    rw [List.getElem?_reverse (by simpa using hk), List.getElem?_map, List.getElem?_map]
    simp only [List.length_map]
    rw [hr]; rfl
  obtain ⟨hi, e⟩ := List.getElem?_eq_some_iff.1 h
  rw [List.take_succ_eq_append_getElem hi, e]
set_option maxHeartbeats 8000000 in
set_option linter.unusedSimpArgs false in
theorem rinvert_any (eo : Option Addr) (en ec : Nat) (E : List Er) (w : World) (HE : Hid (Edz w eo E)) (hn : E.length = en) (heb : en * 56 ≤ 140737488355328) :
    Calls Try.prog 72 #[.slice eo en ec] w fun e w' => LstP (inv (E.map Er.d)) w e w' := by
  have HN := mkH hn
  clear hn
  have hw0 : IntKind.i64.wrap ((en : Int) - 1) = (en : Int) - 1 := by rw [IntKind.wrap_i64]; omega
  go_enter Try.func72, Try.ntmps72
  go_wp2_with fail
  go_loopg [3, 4] en (fun m x3 x4 wx => ∃ (k : Nat) (F : List Er), x4 = .int .i64 ((en : Int) - 1 - (k : Int)) ∧ k + m = en ∧ Hid (F.map Er.d = (inv (E.map Er.d)).take k) ∧ Hid (F.length = k) ∧ Hid (Lst w wx x3 F))
  case atStart => exact ⟨0, [], by simp, by omega, by unfold Hid; simp, rfl, Lst.nil w⟩
  case round =>
    obtain ⟨k, F, rfl, him, HF, HL, KL⟩ := hrel
    obtain ⟨go, hgo⟩ : ∃ g, g = gk - 1 := ⟨_, rfl⟩
    by_cases hi : k < en
    · obtain ⟨j, hj⟩ : ∃ j, j = en - 1 - k := ⟨_, rfl⟩
      have e1 : (en : Int) - 1 - (k : Int) = (j : Int) := by omega
      have hj0 : (0 : Int) ≤ (j : Int) := by omega
      have hj1 : (j : Int) < (en : Int) := by omega
      obtain ⟨r, hr⟩ : ∃ r, E[j]? = some r := ⟨_, List.getElem?_eq_getElem (by have := HN.out; omega)⟩
      have hit := inv_take (E := E) (k := k) (r := r) (by have := HN.out; omega) (by rw [HN.out, ← hj]; exact hr)
      obtain ⟨g, o, rfl, h3⟩ := HE.out.row.ed3 hr
      have hEt0 := HE.out.txs j r hr
      have HG : Hid (g < w.heap.size) := h3.lt
      have h4 := h3.keep (bT KL.out.bel (Below.refl _ _).drew)
      have C0 := fun (n1 c1 : Nat) (a1 : Option Addr) (l1 : List UInt8) W (hW : Below w.heap.size w W) (h : Tx w a1 n1 c1 l1) (hb : n1 ≤ 140737488355328) => rcopied_any a1 n1 c1 l1 W hb (h.keep hW)
      obtain ⟨ra, rp1, ro, rc1, rO, rp2, rn, rc2, rN⟩ := r
      have CO : Hid (∀ W, Below w.heap.size w W → Calls Try.prog 86 #[.slice rp1 ro rc1] W fun e w' => NewP ro rO W e w') := fun W hW => C0 ro rc1 rp1 rO W hW hEt0.t1 hEt0.b1
      have CN : Hid (∀ W, Below w.heap.size w W → Calls Try.prog 86 #[.slice rp2 rn rc2] W fun e w' => NewP rn rN W e w') := fun W hW => C0 rn rc2 rp2 rN W hW hEt0.t2 hEt0.b2
      have BO : Hid (ro ≤ 140737488355328 ∧ rn ≤ 140737488355328) := ⟨hEt0.b1, hEt0.b2⟩
      dsimp only [Er.d, swp] at h4 hit
      have KE : Hid (Ed3 wr.drew g (o + j * 3) ra rp1 ro rc1 rp2 rn rc2) := h4
      have KD : Hid (Lst w wr.drew u3 F) := KL.out.keep (Below.refl _ _).drew
      have HIT := mkH hit
      have hw1 : IntKind.i64.wrap ((j : Int) - 1) = (j : Int) - 1 := by rw [IntKind.wrap_i64]; omega
      have HJ := mkH hj
      rw [e1]
      clear hr h3 h4 hEt0 C0 hit KL e1 hj
      go_upto_region 5 with fail
      refine wp_region_held (S := fun w' => Ed3 w' g (o + j * 3) ra rp1 ro rc1 rp2 rn rc2) (by kernel_rfl) ?_
      change wpAnyH _ _ _ _ _ _ _ _ (World.drew _)
      generalize wr.drew = V3 at *
      refine tk 0 u3 KE.out ?_
      refine tk 1 (.slice (some ⟨g, o, none⟩) en ec) KE.out ?_
      refine tk 2 (.int .i64 (j : Int)) KE.out ?_
      refine tk 3 (.pointer (some ⟨g, o + j * 3, none⟩)) KE.out ?_
      try simp only [Act.put, jj1, jj2, jj3, jj4, jj5, jj6]
      refine tk 4 (.pointer (some ⟨g, o + j * 3, none⟩)) KE.out ?_
      refine ta 5 (.int .i64 ra) rfl (Or.inl ⟨by rfl, fun w9 h9 => by have h5 := h9.e0; have h6 := h9.e1; have h7 := h9.e2; go_simp⟩) KE.out ?_
      refine tk 6 (.slice (some ⟨g, o, none⟩) en ec) KE.out ?_
      refine tk 7 (.int .i64 (j : Int)) KE.out ?_
      try simp only [Act.put, jj1, jj2, jj3, jj4, jj5, jj6]
      refine tk 8 (.pointer (some ⟨g, o + j * 3, none⟩)) KE.out ?_
      refine tk 9 (.pointer (some ⟨g, o + j * 3 + 2, none⟩)) KE.out ?_
      refine ta 10 (.slice rp2 rn rc2) rfl (Or.inl ⟨by rfl, fun w9 h9 => by have h5 := h9.e0; have h6 := h9.e1; have h7 := h9.e2; go_simp⟩) KE.out ?_
      refine tk 12 (.slice (some ⟨g, o, none⟩) en ec) KE.out ?_
      try simp only [Act.put, jj1, jj2, jj3, jj4, jj5, jj6]
      refine tk 13 (.int .i64 (j : Int)) KE.out ?_
      refine tk 14 (.pointer (some ⟨g, o + j * 3, none⟩)) KE.out ?_
      refine tk 15 (.pointer (some ⟨g, o + j * 3 + 1, none⟩)) KE.out ?_
      refine ta 16 (.slice rp1 ro rc1) rfl (Or.inl ⟨by rfl, fun w9 h9 => by have h5 := h9.e0; have h6 := h9.e1; have h7 := h9.e2; go_simp⟩) KE.out ?_
      try simp only [Act.put, jj1, jj2, jj3, jj4, jj5, jj6]
      refine wpAnyH_all (rs := [11]) (by kernel_rfl) (by simp) (AllH.cons rfl (fun K hK => ?_) AllH.nil)
      go_simp
      refine (CN.out V3 KD.out.bel).mono ?_
      rintro e w4 ⟨v4, rfl, hO4, hB4⟩
      obtain ⟨p7, c7, rfl⟩ := own_shape hO4
      have O4 := mkH hO4
      have B4 := mkH hB4
      have KE4 := mkH (KE.out.keep hB4)
      clear hO4 hB4
      dsimp only
      refine hK _ _ ⟨KE4.out, ?_⟩
      clear hK K
      try simp only [Act.put, jj1, jj2, jj3, jj4, jj5, jj6]
      refine wpAnyH_all (rs := [17]) (by kernel_rfl) (by simp) (AllH.cons rfl (fun K hK => ?_) AllH.nil)
      go_simp
      refine (CO.out w4 (bT KD.out.bel B4.out)).mono ?_
      rintro e w5 ⟨v5, rfl, hO5, hB5⟩
      obtain ⟨p8, c8, rfl⟩ := own_shape hO5
      have O5 : Hid (Oe w5 V3.heap.size ⟨ra, p7, rn, c7, rN, p8, ro, c8, rO⟩) := ⟨own_keep O4.out hB5, own_lower hO5 B4.out.size, far_new O4.out hO5, BO.out.2, BO.out.1⟩
      have B5 := mkH (bT B4.out hB5)
      have KE5 := mkH (KE.out.keep B5.out)
      clear hO5 hB5 KE4
      dsimp only
      refine hK _ _ ⟨KE5.out, ?_⟩
      clear hK K
      try simp only [Act.put, jj1, jj2, jj3, jj4, jj5, jj6]
      refine tk 18 (.agg #[.int .i64 ra, .slice p7 rn c7, .slice p8 ro c8]) KE5.out ?_
      try simp only [Act.put, jj1, jj2, jj3, jj4, jj5, jj6]
      refine wpAnyH_all (rs := [19]) (by kernel_rfl) (by simp) (AllH.cons rfl (fun K hK => ?_) AllH.nil)
      go_simp
      have B6 : Hid (Below V3.heap.size V3 (w5.alloc (.cells #[.int .i64 ra, .slice p7 rn c7, .slice p8 ro c8] 77))) := bT B5.out (bAlloc (Below.refl _ _) _)
      have O6 : Hid (Oe (w5.alloc (.cells #[.int .i64 ra, .slice p7 rn c7, .slice p8 ro c8] 77)) V3.heap.size ⟨ra, p7, rn, c7, rN, p8, ro, c8, rO⟩) := O5.out.keep (bAlloc (Below.refl _ _) _)
      have C6 : Hid (∀ (j : Nat) (u : Value), (Er.cs ⟨ra, p7, rn, c7, rN, p8, ro, c8, rO⟩).toList[j]? = some u → (w5.alloc (.cells #[.int .i64 ra, .slice p7 rn c7, .slice p8 ro c8] 77)).cell? ((⟨w5.heap.size, 0, none⟩ : Addr).add j) = some u) := fun j u hj => lit_cells w5 _ 77 j u hj
      have KE6 := mkH (KE.out.keep B6.out)
      obtain ⟨g5, hg5⟩ : ∃ g5, g5 = w5.heap.size := ⟨_, rfl⟩
      rw [← hg5] at C6 ⊢
      clear hg5 O5 B5 KE5
      generalize w5.alloc (.cells #[.int .i64 ra, .slice p7 rn c7, .slice p8 ro c8] 77) = w6 at *
      refine hK _ _ ⟨KE6.out, ?_⟩
      clear hK K
      try simp only [Act.put, jj1, jj2, jj3, jj4, jj5, jj6]
      refine wpAnyH_all (rs := [20]) (by kernel_rfl) (by simp) (AllH.cons rfl (fun K hK => ?_) AllH.nil)
      obtain ⟨v', w7, hr7, ho7, hg7, hf7⟩ := app_ed w.heap.size _ _ _ (own_keep KD.out.own B6.out) ⟨g5, 0, none⟩ ⟨ra, p7, rn, c7, rN, p8, ro, c8, rO⟩ C6.out (by have := HL.out; omega) (Nat.le_trans KD.out.bel.size B6.out.size)
      have hL7 := KD.out.snoc B6.out O6.out hg7 ho7 hf7
      have KE7 := mkH (ed3_row KE6.out hg7 (fun k hk => (KD.out.own.lt k hk).1) HG.out)
      have L7 := mkH hL7
      refine st_ed rfl _ _ rfl _ _ rfl rfl (fun ty => hr7 ty 1) ?_
      clear hr7 ho7 hg7 hf7 hL7
      refine hK _ _ ⟨KE7.out, ?_⟩
      clear hK K
      refine tk 21 (v') KE7.out ?_
      try simp only [Act.put, jj1, jj2, jj3, jj4, jj5, jj6]
      refine wpAnyH_done (by kernel_rfl) ?_ _
      go_wp2
      go_roundg go
      case measure => omega
      case rel => exact ⟨k + 1, _, by have := HJ.out; simp; omega, by omega, by unfold Hid; rw [List.map_append, HF.out, HIT.out]; rfl, by unfold Hid; rw [List.length_append, HL.out]; rfl, L7.out⟩
    · have e1 : (en : Int) - 1 - (k : Int) = -1 := by omega
      have HF2 : Hid (F.map Er.d = inv (E.map Er.d)) := by
        have h1 := HF.out
        rw [List.take_of_length_le (by rw [inv_length, List.length_map]; have := HN.out; omega)] at h1
        exact h1
      rw [e1]
      clear hgo HF e1
      go_wp2
      go_ret
      exact ⟨_, F, rfl, HF2.out, KL.out⟩
end Go.Proofs.Ytaahklapoppgaaa

/- The program's walk: up. -/
namespace Go.Proofs.Ytaahklapoppgaaa
open Go.RowKit

set_option maxRecDepth 8000
theorem Ls.up' {lo hi hi' : Nat} {W : World} {v : Value} {F : List Er} (h : Ls lo hi W v F) (hh : hi ≤ hi') : Ls lo hi' W v F := ⟨⟨h.rs.own, fun i r hi g hg => Nat.lt_of_lt_of_le (h.rs.up i r hi g hg) hh, h.rs.far⟩, h.bnd⟩
theorem wcross_any (lo q0 q p B k i vn vc un uc : Nat) (W : World) (H : List Nr) (X : List Value) (S : List (Nat × Nat)) (va ua : Option Addr) (F F2 : List Er) (now cur cur2 : Int) (m : List Int) (r : Nr)
    (HW : Wm lo q0 W p B k H X S va vn vc F now cur m) (HI : H[i]? = some r) (HL : Ls q W.heap.size W (.slice ua un uc) F2) (HF2 : F2.length = un) (hqq : q0 ≤ q ∧ q ≤ W.heap.size) (hbn : (vn + un) * 56 ≤ 140737488355328) {D : List Ed} (hD : F2.map Er.d = D) :
    Calls Try.prog 75 #[.pointer (some ⟨p, 0, none⟩), .pointer (some ⟨B, i * 58, none⟩), .slice ua un uc, .int .i64 cur2] W fun e W' => WcP lo W p B k (H.set i (r.mk2 m (crs m r.was r.made D))) X S (.slice va vn vc) (vn + un) (F ++ F2) now cur2 (crs m r.was r.made D) e W' := by
  subst hD
  exact wcross_walk zm rfl z24 lo q0 q p B k i vn vc un uc W H X S va ua F F2 now cur cur2 m _ r HW HI HL HF2 hqq hbn (by unfold Hid crs; rw [er_t HL.ez]) (crs_mw HW.mw (HW.hst.gow.nz HI).ww)
/-- the number of the change at which it stands is written -/
theorem put_now {W : World} {p B n k vn vc : Nat} {va : Option Addr} {now cur now2 : Int} {m : List Int} (h : Blk W p 100 (wca (some ⟨B, 0, none⟩) n k now (.slice va vn vc) cur m)) : Blk (W.setCell ⟨p, 1, none⟩ (.int .i64 now2)) p 100 (wca (some ⟨B, 0, none⟩) n k now2 (.slice va vn vc) cur m) := by
  have := h.set (j := 1) (.int .i64 now2)
  have e : (wca (some ⟨B, 0, none⟩) n k now (.slice va vn vc) cur m).setIfInBounds 1 (.int .i64 now2) = wca (some ⟨B, 0, none⟩) n k now2 (.slice va vn vc) cur m := by unfold wca wc; rw [List.setIfInBounds_toArray]; rfl
  rwa [e] at this
theorem Wm.now2 {lo q p B k vn vc : Nat} {W : World} {H : List Nr} {X : List Value} {S : List (Nat × Nat)} {va : Option Addr} {F : List Er} {now cur : Int} {m : List Int} (h : Wm lo q W p B k H X S va vn vc F now cur m) (now2 : Int) : Wm lo q (W.setCell ⟨p, 1, none⟩ (.int .i64 now2)) p B k H X S va vn vc F now2 cur m := by
  have hg : W.grownBy (W.setCell ⟨p, 1, none⟩ (.int .i64 now2)) (some p) := grown_set _ _ _ _
  have hk := Kept.one hg
  exact ⟨put_now h.box, h.hst.kept hk (.inr (Nat.le_refl _)), h.eds.kept hk (.inl (Nat.le_refl _)), h.fl, h.mw, h.pq, Nat.le_trans h.qt hg.size, h.hk⟩
/-- what a crossing gives -/
def UpP (lo : Nat) (W : World) (p B k : Nat) (H : List Nr) (X : List Value) (S : List (Nat × Nat)) (v0 : Value) (vn un : Nat) (F : List Er) (D : List Ed) (now cur : Int) (m : List Int) (e : Ending) (W' : World) : Prop := (∃ u, e = .returned u) ∧ Below lo W W' ∧ Frm p B v0 W W' ∧ ∃ va vc F2, F2.map Er.d = D ∧ F2.length = un ∧ Nxt v0 (.slice va (vn + un) vc) W ∧ Wm lo W'.heap.size W' p B k H X S va (vn + un) vc (F ++ F2) now cur m
set_option maxHeartbeats 16000000 in
set_option linter.unusedSimpArgs false in
theorem up_any (lo q p B k i vn vc : Nat) (W : World) (H : List Nr) (X : List Value) (S : List (Nat × Nat)) (va : Option Addr) (F : List Er) (cur : Int) (m : List Int) (r : Nr)
    (HW : Hid (Wm lo q W p B k H X S va vn vc F (i : Int) cur m)) (HI : Hid (H[i]? = some r)) (hbn : Hid ((vn + r.en) * 56 ≤ 140737488355328)) :
    Calls Try.prog 59 #[.pointer (some ⟨p, 0, none⟩)] W fun e W' => UpP lo W p B k (H.set i (r.mk2 m (crs m r.was r.made (inv (r.E.map Er.d))))) X S (.slice va vn vc) vn r.en F (inv (r.E.map Er.d)) r.par r.cur (crs m r.was r.made (inv (r.E.map Er.d))) e W' := by
  obtain ⟨n, hn⟩ : ∃ n, H.length = n := ⟨_, rfl⟩
  have HN := mkH hn
  have hi' : (i : Int) < (n : Int) := by have := (List.getElem?_eq_some_iff.1 HI.out).1; omega
  have hi0 : (0 : Int) ≤ (i : Int) := by omega
  have HRz := mkH (HW.out.hst.gow.nz HI.out)
  have WD : Hid (Wx W.drew p B n k va vn vc (i : Int) cur m) := by have := (HW.out.keep (Below.refl _ W).drew).wx; rw [hn] at this; exact this
  have HW2 : Hid (Wm lo q W.drew p B k H X S va vn vc F (i : Int) cur m) := HW.out.keep (Below.refl _ _).drew
  have LW2 : Hid (Below lo W W.drew) := (Below.refl _ _).drew
  have LW2b : Hid (Below W.heap.size W W.drew) := (Below.refl _ _).drew
  have HC2 : Hid (Nc W.drew B (i * 58) r) := HW2.out.hst.row.nc HW2.out.hst.gow.ok HI.out HRz.out.ww.len
  clear hn
  go_enter Try.func59, Try.ntmps59
  go_upto_region 0 with fail
  refine wp_region_held (S := fun w' => Wx w' p B n k va vn vc (i : Int) cur m) (by kernel_rfl) ?_
  change wpAnyH _ _ _ _ _ _ _ _ (World.drew _)
  generalize W.drew = W1 at *
  refine tk 0 (.pointer (some ⟨p, 0, none⟩)) WD.out ?_
  refine tk 1 (.pointer (some ⟨p, 0, none⟩)) WD.out ?_
  refine tk 2 (.pointer (some ⟨p, 0, none⟩)) WD.out ?_
  try simp only [Act.put, jj1, jj2, jj3, jj4, jj5, jj6]
  refine tk 3 (.pointer (some ⟨p, 0, none⟩)) WD.out ?_
  refine ta 4 (.slice (some ⟨B, 0, none⟩) n k) rfl (Or.inl ⟨by rfl, fun w9 h9 => by obtain ⟨h1, h2, h3, h4, h5, h6⟩ := h9; go_simp⟩) WD.out ?_
  refine tk 5 (.pointer (some ⟨p, 0, none⟩)) WD.out ?_
  refine tk 6 (.pointer (some ⟨p, 0, none⟩)) WD.out ?_
  try simp only [Act.put, jj1, jj2, jj3, jj4, jj5, jj6]
  refine tk 7 (.pointer (some ⟨p, 0, none⟩)) WD.out ?_
  refine tk 8 (.pointer (some ⟨p, 1, none⟩)) WD.out ?_
  refine ta 9 (.int .i64 (i : Int)) rfl (Or.inl ⟨by rfl, fun w9 h9 => by obtain ⟨h1, h2, h3, h4, h5, h6⟩ := h9; go_simp⟩) WD.out ?_
  refine tk 10 (.pointer (some ⟨B, i * 58, none⟩)) WD.out ?_
  try simp only [Act.put, jj1, jj2, jj3, jj4, jj5, jj6]
  refine tk 11 (.pointer (some ⟨B, i * 58, none⟩)) WD.out ?_
  try simp only [Act.put, jj1, jj2, jj3, jj4, jj5, jj6]
  refine wpAnyH_done (by kernel_rfl) ?_ _
  have LOW : Hid (lo ≤ W.heap.size) := Nat.le_trans (Nat.le_trans HW.out.hst.l0 (Nat.le_of_lt HW.out.hst.h0)) HW.out.hst.top
  have HRz1 : Hid (Nz W1 r) := HW2.out.hst.gow.nz HI.out
  have CI := mkH (fun V (hV : Below W1.heap.size W1 V) => invert_any r.ea r.en r.ec r.E V (HRz1.out.ez.keep hV) HRz1.out.len HRz1.out.big)
  have HW3 : Hid (Wm lo q W1.drew p B k H X S va vn vc F (i : Int) cur m) := HW2.out.keep (Below.refl _ _).drew
  have LW3 : Hid (Below lo W W1.drew) := LW2.out.drew
  have LWV : Hid (Below W.heap.size W W1.drew) := LW2b.out.drew
  have LV : Hid (Below W1.heap.size W1 W1.drew) := (Below.refl _ _).drew
  have HC3 : Hid (Nc W1.drew B (i * 58) r) := HC2.out.keep (Below.refl _ _).drew
  obtain ⟨ea, en, ec, par, rcur, he1, he2, he3, he4, he5⟩ : ∃ ea en ec par rcur, r.ea = ea ∧ r.en = en ∧ r.ec = ec ∧ r.par = par ∧ r.cur = rcur := ⟨_, _, _, _, _, rfl, rfl, rfl, rfl, rfl⟩
  have X3 : Hid (W1.drew.cell? ⟨B, i * 58 + 2, none⟩ = some (.slice ea en ec) ∧ W1.drew.cell? ⟨B, i * 58 + 3, none⟩ = some (.int .i64 rcur)) := by have h1 := HC3.out.c2; have h2 := HC3.out.c3; rw [he1, he2, he3] at h1; rw [he5] at h2; exact ⟨h1, h2⟩
  rw [he1, he2, he3] at CI
  have HE1 := mkH he1
  have HE2 := mkH he2
  have HE3 := mkH he3
  have HE4 := mkH he4
  have HE5 := mkH he5
  clear he1 he2 he3 he4 he5 HC3 WD
  go_upto_region 1 with fail
  refine wp_region_held (S := fun w' => w'.cell? ⟨B, i * 58 + 2, none⟩ = some (.slice ea en ec) ∧ w'.cell? ⟨B, i * 58 + 3, none⟩ = some (.int .i64 rcur)) (by kernel_rfl) ?_
  change wpAnyH _ _ _ _ _ _ _ _ (World.drew _)
  generalize W1.drew = V3 at *
  refine tk 0 (.pointer (some ⟨p, 0, none⟩)) X3.out ?_
  refine tk 1 (.pointer (some ⟨B, i * 58, none⟩)) X3.out ?_
  refine tk 2 (.pointer (some ⟨B, i * 58, none⟩)) X3.out ?_
  refine tk 3 (.pointer (some ⟨B, i * 58, none⟩)) X3.out ?_
  try simp only [Act.put, jj1, jj2, jj3, jj4, jj5, jj6]
  refine tk 4 (.pointer (some ⟨B, i * 58 + 2, none⟩)) X3.out ?_
  refine ta 5 (.slice ea en ec) rfl (Or.inl ⟨by rfl, fun w9 h9 => by obtain ⟨h1, h2⟩ := h9; go_simp⟩) X3.out ?_
  refine tk 7 (.pointer (some ⟨B, i * 58, none⟩)) X3.out ?_
  refine tk 8 (.pointer (some ⟨B, i * 58, none⟩)) X3.out ?_
  try simp only [Act.put, jj1, jj2, jj3, jj4, jj5, jj6]
  refine tk 9 (.pointer (some ⟨B, i * 58 + 3, none⟩)) X3.out ?_
  refine ta 10 (.int .i64 rcur) rfl (Or.inl ⟨by rfl, fun w9 h9 => by obtain ⟨h1, h2⟩ := h9; go_simp⟩) X3.out ?_
  try simp only [Act.put, jj1, jj2, jj3, jj4, jj5, jj6]
  refine wpAnyH_all (rs := [6]) (by kernel_rfl) (by simp) (AllH.cons rfl (fun K hK => ?_) AllH.nil)
  go_simp
  refine (CI.out V3 LV.out).mono ?_
  rintro e w5 ⟨v5, F5, rfl, hF5, hL5⟩
  obtain ⟨a5, c5, rfl, -, -⟩ := hL5.edz
  have hB5 := hL5.bel
  have X5 : Hid (w5.cell? ⟨B, i * 58 + 2, none⟩ = some (.slice ea en ec) ∧ w5.cell? ⟨B, i * 58 + 3, none⟩ = some (.int .i64 rcur)) := ⟨cell_keep X3.out.1 hB5, cell_keep X3.out.2 hB5⟩
  have HW5 := mkH (HW3.out.keep hB5)
  have LB5 : Hid (Below W.heap.size W w5) := LWV.out.trans (hB5.mono LWV.out.size)
  have LW5 : Hid (Below lo W w5) := LW3.out.trans (hB5.mono (Nat.le_trans LOW.out LW3.out.size))
  have LL5 := mkH (Ls.of hL5)
  have HS5 := mkH hB5.size
  have HQ5 : Hid (q ≤ V3.heap.size) := HW3.out.qt
  have HF5 := mkH hF5
  have HFl : Hid (F5.length = en) := by have := congrArg List.length hF5; rw [inv_length, List.length_map, List.length_map, HRz.out.len, HE2.out] at this; exact this
  obtain ⟨fl, hfl⟩ : ∃ fl, F5.length = fl := ⟨_, rfl⟩
  rw [hfl] at LL5 HFl
  have HFL := mkH hfl
  rw [hfl]
  clear hL5 hB5 hF5 hfl CI
  dsimp only
  refine hK _ _ ⟨X5.out, ?_⟩
  clear hK K
  try simp only [Act.put, jj1, jj2, jj3, jj4, jj5, jj6]
  refine wpAnyH_all (rs := [11]) (by kernel_rfl) (by simp) (AllH.cons rfl (fun K hK => ?_) AllH.nil)
  have CX := mkH (wcross_any lo q V3.heap.size p B k i vn vc fl c5 w5 H X S va a5 F F5 (i : Int) cur rcur m r HW5.out HI.out LL5.out HFL.out ⟨HQ5.out, HS5.out⟩ (by rw [HFl.out, ← HE2.out]; exact hbn.out) HF5.out)
  go_simp
  refine CX.out.mono ?_
  rintro e w6 ⟨⟨u6, rfl⟩, hb6, hf6, a6, c6, hx6, hW6⟩
  have HW6 := mkH hW6
  have LW6 := mkH (LW5.out.trans hb6)
  have FR6 := mkH hf6
  have NX6 := mkH hx6
  clear hb6 hW6 hf6 hx6 CX
  have HI6 : Hid ((H.set i (r.mk2 m (crs m r.was r.made (inv (r.E.map Er.d)))))[i]? = some (r.mk2 m (crs m r.was r.made (inv (r.E.map Er.d))))) := by unfold Hid; rw [List.getElem?_set_self (List.getElem?_eq_some_iff.1 HI.out).1]
  have X6 : Hid (w6.cell? ⟨B, i * 58 + 2, none⟩ = some (.slice ea en ec) ∧ w6.cell? ⟨B, i * 58 + 3, none⟩ = some (.int .i64 rcur)) := by unfold Hid; have h0 := HW6.out.hst.row.nc HW6.out.hst.gow.ok HI6.out (HW6.out.hst.gow.nz HI6.out).ww.len; have h1 := h0.c2; have h2 := h0.c3; rw [← HE1.out, ← HE2.out, ← HE3.out, ← HE5.out]; exact ⟨h1, h2⟩
  dsimp only
  refine hK _ _ ⟨X6.out, ?_⟩
  clear hK K
  try simp only [Act.put, jj1, jj2, jj3, jj4, jj5, jj6]
  refine wpAnyH_done (by kernel_rfl) ?_ _
  have t0 : w6.cell? ⟨B, i * 58, none⟩ = some (.int .i64 par) := by
    have := (HW6.out.hst.row.nc HW6.out.hst.gow.ok HI6.out (HW6.out.hst.gow.nz HI6.out).ww.len).c0
    rw [← HE4.out]; exact this
  have x1 : w6.cell? ⟨p, 1, none⟩ = some (.int .i64 (i : Int)) := HW6.out.wx.c1
  have f1 : w6.frozen? ⟨p, 1, none⟩ = false := HW6.out.box.frozen 1
  have HW7 := mkH (HW6.out.now2 par)
  have LW7 : Hid (Below lo W (w6.setCell ⟨p, 1, none⟩ (.int .i64 par))) := LW6.out.setCell (Nat.le_trans HW.out.hst.l0 (Nat.le_of_lt HW.out.hst.h0)) _
  clear HW6 LW6
  go_wp2
  go_end0
  have hFr : Frm p B (.slice va vn vc) W (w6.setCell ⟨p, 1, none⟩ (.int .i64 par)) := fun g h1 h2 h3 h4 => by
    rw [heap_setCell_other _ _ _ _ h2, FR6.out g (Nat.lt_of_lt_of_le h1 LB5.out.size) h2 h3 h4]
    exact LB5.out.block g h1
  have hNx : Nxt (.slice va vn vc) (.slice a6 (vn + r.en) c6) W := by
    have h9 := NX6.out
    rw [HFl.out, ← HE2.out] at h9
    rcases h9 with e | ⟨q9, e, hq9⟩
    · exact .inl e
    · exact .inr ⟨q9, e, Nat.le_trans LB5.out.size hq9⟩
  refine ⟨⟨_, rfl⟩, LW7.out, hFr, a6, c6, F5, HF5.out, by rw [HFL.out, HFl.out, HE2.out], hNx, ?_⟩
  rw [HE4.out, HE5.out, HE2.out, ← HFl.out]
  have := HW7.out
  rw [show w6.heap.size = (w6.setCell ⟨p, 1, none⟩ (.int .i64 par)).heap.size by simp] at this
  exact this
end Go.Proofs.Ytaahklapoppgaaa

/- The program's walk: down. -/
namespace Go.Proofs.Ytaahklapoppgaaa
open Go.RowKit

set_option maxRecDepth 8000
/-- a change with another way down -/
def Nr.to (r : Nr) (i : Int) : Nr := { r with nxt := i }
/-- a change's way down is written -/
theorem Wm.nx {lo q p B k vn vc j : Nat} {W : World} {H : List Nr} {X : List Value} {S : List (Nat × Nat)} {va : Option Addr} {F : List Er} {now cur : Int} {m : List Int} {s : Nr} (h : Wm lo q W p B k H X S va vn vc F now cur m) (hs : H[j]? = some s) (i : Int) : Wm lo q (W.setCell ⟨B, j * 58 + 1, none⟩ (.int .i64 i)) p B k (H.set j (s.to i)) X S va vn vc F now cur m := by
  have hg : W.grownBy (W.setCell ⟨B, j * 58 + 1, none⟩ (.int .i64 i)) (some B) := grown_set _ _ _ _
  have hk := Kept.one hg
  have hB := h.hst.h0
  have hz := h.hst.gow.nz hs
  have hrow : Nrow (W.setCell ⟨B, j * 58 + 1, none⟩ (.int .i64 i)) B (H.set j (s.to i)) X := h.hst.row.put (a := [.int .i64 s.par]) (old := [.int .i64 s.nxt]) (vs := [.int .i64 i]) (b := .slice s.ea s.en s.ec :: .int .i64 s.cur :: (ml s.was ++ ml s.made)) h.hst.gow.ok hs rfl rfl rfl
  refine ⟨by rw [List.length_set]; exact h.box.grown hg (fun e => by injection e with e; omega), ⟨hrow, (h.hst.gow.at hg).set hs ⟨rfl, rfl, rfl, rfl⟩ hz.ww hz.wm, h.hst.l0, h.hst.h0, Nat.le_trans h.hst.top hg.size⟩, h.eds.kept hk (.inl (by omega)), h.fl, h.mw, h.pq, Nat.le_trans h.qt hg.size, by rw [List.length_set]; exact h.hk⟩
set_option maxHeartbeats 16000000 in
set_option linter.unusedSimpArgs false in
theorem down_walk (lo q p B k i k0 vn vc : Nat) (W : World) (H : List Nr) (X : List Value) (S : List (Nat × Nat)) (va : Option Addr) (F : List Er) (now cur fi : Int) (m kn : List Int) (D : List Ed) (r s : Nr)
    (HW : Hid (Wm lo q W p B k H X S va vn vc F now cur m)) (HI : Hid (H[i]? = some r)) (HK : Hid (H[k0]? = some s)) (hik : k0 < i) (HP : Hid (r.par = (k0 : Int))) (hbn : Hid ((vn + r.en) * 56 ≤ 140737488355328)) (HD : Hid (r.E.map Er.d = D)) (HFi : Hid (fst D = fi)) (HKN : Hid (crs m r.was r.made D = kn)) :
    Calls Try.prog 60 #[.pointer (some ⟨p, 0, none⟩), .int .i64 (i : Int)] W fun e W' => UpP lo W p B k ((H.set i (r.mk2 m kn)).set k0 (s.to (i : Int))) X S (.slice va vn vc) vn r.en F D (i : Int) fi kn e W' := by
  obtain ⟨n, hn⟩ : ∃ n, H.length = n := ⟨_, rfl⟩
  have HN := mkH hn
  have hi' : (i : Int) < (n : Int) := by have := (List.getElem?_eq_some_iff.1 HI.out).1; omega
  have hi0 : (0 : Int) ≤ (i : Int) := by omega
  have hk' : (k0 : Int) < (n : Int) := by omega
  have hk0 : (0 : Int) ≤ (k0 : Int) := by omega
  have HRz := mkH (HW.out.hst.gow.nz HI.out)
  have x0 : W.cell? ⟨p, 0, none⟩ = some (.slice (some ⟨B, 0, none⟩) n k) := by have := HW.out.wx.c0; rwa [hn] at this
  have HC0 := mkH (HW.out.hst.row.nc HW.out.hst.gow.ok HI.out HRz.out.ww.len)
  have LOW : Hid (lo ≤ W.heap.size) := Nat.le_trans (Nat.le_trans HW.out.hst.l0 (Nat.le_of_lt HW.out.hst.h0)) HW.out.hst.top
  have CE := mkH (fun V (hV : Below W.heap.size W V) => copyEdits_any r.ea r.en r.ec r.E V (HRz.out.ez.keep hV) HRz.out.len HRz.out.nil HRz.out.big)
  have CF := mkH (fun V (hV : Below W.heap.size W V) => first_any r.ea r.en r.ec r.E V (HRz.out.ez.keep hV) HRz.out.len (by have := HRz.out.big; omega) HRz.out.cap)
  rw [HD.out] at CE CF
  rw [HFi.out] at CF
  obtain ⟨ea, en, ec, he1, he2, he3⟩ : ∃ ea en ec, r.ea = ea ∧ r.en = en ∧ r.ec = ec := ⟨_, _, _, rfl, rfl, rfl⟩
  rw [he1, he2, he3] at CE CF
  have X3 : Hid (W.drew.cell? ⟨B, i * 58 + 2, none⟩ = some (.slice ea en ec)) := by have h1 := HC0.out.c2; rw [he1, he2, he3] at h1; exact h1
  have HE1 := mkH he1
  have HE2 := mkH he2
  have HE3 := mkH he3
  have HW3 : Hid (Wm lo q W.drew p B k H X S va vn vc F now cur m) := HW.out.keep (Below.refl _ _).drew
  have LV : Hid (Below W.heap.size W W.drew) := (Below.refl _ _).drew
  have HI6 : Hid ((H.set i (r.mk2 m kn))[i]? = some (r.mk2 m kn)) := by unfold Hid; rw [List.getElem?_set_self (List.getElem?_eq_some_iff.1 HI.out).1]
  have HK6 : Hid ((H.set i (r.mk2 m kn))[k0]? = some s) := by unfold Hid; rw [List.getElem?_set_ne (by omega)]; exact HK.out
  clear hn he1 he2 he3
  go_enter Try.func60, Try.ntmps60
  go_upto_region 1 with fail
  clear x0
  refine wp_region_held (S := fun w' => w'.cell? ⟨B, i * 58 + 2, none⟩ = some (.slice ea en ec)) (by kernel_rfl) ?_
  change wpAnyH _ _ _ _ _ _ _ _ (World.drew _)
  generalize W.drew = V3 at *
  refine tk 0 (.pointer (some ⟨p, 0, none⟩)) X3.out ?_
  refine tk 1 (.pointer (some ⟨B, i * 58, none⟩)) X3.out ?_
  refine tk 2 (.pointer (some ⟨B, i * 58, none⟩)) X3.out ?_
  try simp only [Act.put, jj1, jj2, jj3, jj4, jj5, jj6]
  refine tk 3 (.pointer (some ⟨B, i * 58, none⟩)) X3.out ?_
  refine tk 4 (.pointer (some ⟨B, i * 58 + 2, none⟩)) X3.out ?_
  refine ta 5 (.slice ea en ec) rfl (Or.inl ⟨by rfl, fun w9 h9 => by go_simp⟩) X3.out ?_
  refine tk 7 (.pointer (some ⟨B, i * 58, none⟩)) X3.out ?_
  try simp only [Act.put, jj1, jj2, jj3, jj4, jj5, jj6]
  refine tk 8 (.pointer (some ⟨B, i * 58, none⟩)) X3.out ?_
  refine tk 9 (.pointer (some ⟨B, i * 58 + 2, none⟩)) X3.out ?_
  refine ta 10 (.slice ea en ec) rfl (Or.inl ⟨by rfl, fun w9 h9 => by go_simp⟩) X3.out ?_
  try simp only [Act.put, jj1, jj2, jj3, jj4, jj5, jj6]
  refine wpAnyH_all (rs := [6]) (by kernel_rfl) (by simp) (AllH.cons rfl (fun K hK => ?_) AllH.nil)
  go_simp
  refine (CE.out V3 LV.out).mono ?_
  rintro e w5 ⟨v5, F5, rfl, hF5, hL5⟩
  obtain ⟨a5, c5, rfl, -, -⟩ := hL5.edz
  have hB5 := hL5.bel
  have X5 := mkH (cell_keep X3.out hB5)
  have HW5 := mkH (HW3.out.keep hB5)
  have LW5 := mkH (LV.out.trans (hB5.mono LV.out.size))
  have LL5 := mkH (Ls.of hL5)
  have HS5 := mkH hB5.size
  have HQ5 : Hid (q ≤ V3.heap.size) := HW3.out.qt
  have HF5 := mkH hF5
  have HFl : Hid (F5.length = en) := by have := congrArg List.length hF5; rw [← HD.out, List.length_map, List.length_map, HRz.out.len, HE2.out] at this; exact this
  obtain ⟨fl, hfl⟩ : ∃ fl, F5.length = fl := ⟨_, rfl⟩
  rw [hfl] at LL5 HFl
  have HFL := mkH hfl
  rw [hfl]
  clear hL5 hB5 hF5 hfl CE
  dsimp only
  refine hK _ _ ⟨X5.out, ?_⟩
  clear hK K
  try simp only [Act.put, jj1, jj2, jj3, jj4, jj5, jj6]
  refine wpAnyH_all (rs := [11]) (by kernel_rfl) (by simp) (AllH.cons rfl (fun K hK => ?_) AllH.nil)
  go_simp
  refine (CF.out w5 LW5.out).mono ?_
  rintro e w6 ⟨rfl, hB6⟩
  have X6 := mkH (cell_keep X5.out hB6)
  have HW6 := mkH (HW5.out.keep hB6)
  have LW6 := mkH (LW5.out.trans (hB6.mono LW5.out.size))
  have LL6 := mkH ((LL5.out.keep hB6).up' hB6.size)
  have HS6 := mkH (Nat.le_trans HS5.out hB6.size)
  clear hB6 CF HW5 LW5 LL5
  dsimp only
  refine hK _ _ ⟨X6.out, ?_⟩
  clear hK K
  try simp only [Act.put, jj1, jj2, jj3, jj4, jj5, jj6]
  refine wpAnyH_all (rs := [12]) (by kernel_rfl) (by simp) (AllH.cons rfl (fun K hK => ?_) AllH.nil)
  have CX0 := wcross_any lo q V3.heap.size p B k i vn vc fl c5 w6 H X S va a5 F F5 now cur fi m r HW6.out HI.out LL6.out HFL.out ⟨HQ5.out, HS6.out⟩ (by rw [HFl.out, ← HE2.out]; exact hbn.out) HF5.out
  rw [HKN.out] at CX0
  have CX := mkH CX0
  clear CX0
  go_simp
  refine CX.out.mono ?_
  rintro e w7 ⟨⟨u7, rfl⟩, hb7, hf7, a7, c7, hx7, hW7⟩
  have HW7 := mkH hW7
  have LW7 := mkH ((LW6.out.mono LOW.out).trans hb7)
  have FR7 : Hid (Frm p B (.slice va vn vc) W w7) := fun g h1 h2 h3 h4 => (hf7 g (Nat.lt_of_lt_of_le h1 LW6.out.size) h2 h3 h4).trans (LW6.out.block g h1)
  have NX7 : Hid (Nxt (.slice va vn vc) (.slice a7 (vn + fl) c7) W) := hx7.elim .inl (fun ⟨q9, e, h⟩ => .inr ⟨q9, e, Nat.le_trans LW6.out.size h⟩)
  have X7 : Hid (w7.cell? ⟨B, i * 58 + 2, none⟩ = some (.slice ea en ec)) := by unfold Hid; have h0 := HW7.out.hst.row.nc HW7.out.hst.gow.ok HI6.out (HW7.out.hst.gow.nz HI6.out).ww.len; rw [← HE1.out, ← HE2.out, ← HE3.out]; exact h0.c2
  clear hb7 hW7 hf7 hx7 CX HW6 LW6
  dsimp only
  refine hK _ _ ⟨X7.out, ?_⟩
  clear hK K
  try simp only [Act.put, jj1, jj2, jj3, jj4, jj5, jj6]
  refine wpAnyH_done (by kernel_rfl) ?_ _
  have HW8 : Hid (Wm lo w7.heap.size w7.drew p B k (H.set i (r.mk2 m kn)) X S a7 (vn + fl) c7 (F ++ F5) now fi kn) := HW7.out.keep (Below.refl _ _).drew
  have LW8 : Hid (Below lo W w7.drew) := LW7.out.drew
  have FR8 : Hid (Frm p B (.slice va vn vc) W w7.drew) := FR7.out
  have XA : Hid (w7.drew.cell? ⟨p, 0, none⟩ = some (.slice (some ⟨B, 0, none⟩) n k) ∧ w7.drew.cell? ⟨B, i * 58, none⟩ = some (.int .i64 (k0 : Int))) := by
    have h1 := HW8.out.wx.c0
    rw [List.length_set, HN.out] at h1
    have h2 := (HW8.out.hst.row.nc HW8.out.hst.gow.ok HI6.out (HW8.out.hst.gow.nz HI6.out).ww.len).c0
    have h3 : (r.mk2 m kn).par = (k0 : Int) := HP.out
    rw [h3] at h2
    exact ⟨h1, h2⟩
  obtain ⟨wz, hwz⟩ : ∃ z, w7.heap.size = z := ⟨_, rfl⟩
  rw [hwz] at HW8
  clear hwz HW7 LW7 X7
  go_upto_region 2 with fail
  refine wp_region_held (S := fun w' => w'.cell? ⟨p, 0, none⟩ = some (.slice (some ⟨B, 0, none⟩) n k) ∧ w'.cell? ⟨B, i * 58, none⟩ = some (.int .i64 (k0 : Int))) (by kernel_rfl) ?_
  change wpAnyH _ _ _ _ _ _ _ _ (World.drew _)
  generalize w7.drew = V8 at *
  refine tk 0 (.pointer (some ⟨p, 0, none⟩)) XA.out ?_
  refine tk 1 (.pointer (some ⟨p, 0, none⟩)) XA.out ?_
  try simp only [Act.put, jj1, jj2, jj3, jj4, jj5, jj6]
  refine tk 2 (.pointer (some ⟨p, 0, none⟩)) XA.out ?_
  refine tk 3 (.pointer (some ⟨p, 0, none⟩)) XA.out ?_
  refine ta 4 (.slice (some ⟨B, 0, none⟩) n k) rfl (Or.inl ⟨by rfl, fun w9 h9 => by obtain ⟨h1, h2⟩ := h9; go_simp⟩) XA.out ?_
  refine tk 5 (.pointer (some ⟨B, i * 58, none⟩)) XA.out ?_
  try simp only [Act.put, jj1, jj2, jj3, jj4, jj5, jj6]
  refine tk 6 (.pointer (some ⟨B, i * 58, none⟩)) XA.out ?_
  refine tk 7 (.pointer (some ⟨B, i * 58, none⟩)) XA.out ?_
  refine ta 8 (.int .i64 (k0 : Int)) rfl (Or.inl ⟨by rfl, fun w9 h9 => by obtain ⟨h1, h2⟩ := h9; go_simp⟩) XA.out ?_
  refine tk 9 (.int .i64 (i : Int)) XA.out ?_
  try simp only [Act.put, jj1, jj2, jj3, jj4, jj5, jj6]
  refine tk 10 (.pointer (some ⟨B, k0 * 58, none⟩)) XA.out ?_
  refine tk 11 (.pointer (some ⟨B, k0 * 58 + 1, none⟩)) XA.out ?_
  try simp only [Act.put, jj1, jj2, jj3, jj4, jj5, jj6]
  refine wpAnyH_all (rs := [12]) (by kernel_rfl) (by simp) (AllH.cons rfl (fun K hK => ?_) AllH.nil)
  have NC9 := HW8.out.hst.row.nc HW8.out.hst.gow.ok HK6.out (HW8.out.hst.gow.nz HK6.out).ww.len
  have c9 := NC9.c1
  have f9 : V8.frozen? ⟨B, k0 * 58 + 1, none⟩ = false := Blk.frozen HW8.out.hst.row _
  have HW9 := mkH (HW8.out.nx HK6.out (i : Int))
  have FR9 : Hid (Frm p B (.slice va vn vc) W (V8.setCell ⟨B, k0 * 58 + 1, none⟩ (.int .i64 (i : Int)))) := fun g h1 h2 h3 h4 => (heap_setCell_other _ _ _ _ h3).trans (FR8.out g h1 h2 h3 h4)
  have LW9 : Hid (Below lo W (V8.setCell ⟨B, k0 * 58 + 1, none⟩ (.int .i64 (i : Int)))) := LW8.out.setCell HW.out.hst.l0 _
  have XB : Hid ((V8.setCell ⟨B, k0 * 58 + 1, none⟩ (.int .i64 (i : Int))).cell? ⟨p, 0, none⟩ = some (.slice (some ⟨B, 0, none⟩) n k) ∧ (V8.setCell ⟨B, k0 * 58 + 1, none⟩ (.int .i64 (i : Int))).cell? ⟨B, i * 58, none⟩ = some (.int .i64 (k0 : Int))) := by unfold Hid; rw [World.cell?_setCell_other _ _ _ _ (by intro e; injection e with e1 _; have := HW.out.hst.h0; omega), World.cell?_setCell_other _ _ _ _ (by intro e; injection e with _ e2; omega)]; exact XA.out
  go_simp
  clear NC9 c9 f9
  generalize V8.setCell ⟨B, k0 * 58 + 1, none⟩ (.int .i64 (i : Int)) = w9 at *
  refine hK _ _ ⟨XB.out, ?_⟩
  clear hK K
  try simp only [Act.put, jj1, jj2, jj3, jj4, jj5, jj6]
  refine wpAnyH_done (by kernel_rfl) ?_ _
  have x1 : w9.cell? ⟨p, 1, none⟩ = some (.int .i64 now) := HW9.out.wx.c1
  have f1 : w9.frozen? ⟨p, 1, none⟩ = false := HW9.out.box.frozen 1
  have HWa := mkH (HW9.out.now2 (i : Int))
  have LWa : Hid (Below lo W (w9.setCell ⟨p, 1, none⟩ (.int .i64 (i : Int)))) := LW9.out.setCell (Nat.le_trans HW.out.hst.l0 (Nat.le_of_lt HW.out.hst.h0)) _
  have HEa : Hid (Ls (p + 1) (w9.setCell ⟨p, 1, none⟩ (.int .i64 (i : Int))).heap.size (w9.setCell ⟨p, 1, none⟩ (.int .i64 (i : Int))) (.slice a7 (vn + fl) c7) (F ++ F5)) := HWa.out.eds.up' HWa.out.qt
  have FRa : Hid (Frm p B (.slice va vn vc) W (w9.setCell ⟨p, 1, none⟩ (.int .i64 (i : Int)))) := fun g h1 h2 h3 h4 => (heap_setCell_other _ _ _ _ h2).trans (FR9.out g h1 h2 h3 h4)
  clear HW9 LW9
  go_wp2
  go_end0
  refine ⟨⟨_, rfl⟩, LWa.out, FRa.out, a7, c7, F5, HF5.out, by rw [HFL.out, HFl.out, HE2.out], by rw [HE2.out, ← HFl.out]; exact NX7.out, ?_⟩
  have h9 := HWa.out
  rw [HE2.out, ← HFl.out]
  exact ⟨h9.box, h9.hst, HEa.out, h9.fl, h9.mw, Nat.lt_of_lt_of_le h9.pq h9.qt, Nat.le_refl _, h9.hk⟩
end Go.Proofs.Ytaahklapoppgaaa

/- The program's newWalk. -/
namespace Go.Proofs.Ytaahklapoppgaaa
open Go.RowKit

set_option maxRecDepth 8000
/-- a new walk -/
def NwP (D : List Nd) (now : Int) (m : List Int) (w : World) (e : Ending) (w' : World) : Prop := ∃ lo p B k H X S, e = .returned (.pointer (some ⟨p, 0, none⟩)) ∧ H.map Nr.d = D ∧ w.heap.size ≤ lo ∧ Wm lo w'.heap.size w' p B k H X S none 0 0 [] now 0 m ∧ Below w.heap.size w w'
theorem ls_nil (lo hi : Nat) (W : World) : Ls lo hi W (.slice none 0 0) [] := by
  refine ⟨⟨fun i r hi => ?_, fun i r hi g hg => ?_, fun i j p q hij hi hj => ?_⟩, fun r hr => by cases hr⟩
  · match i, hi with
    | 0, hi => simp [rowF] at hi; subst hi; exact ⟨rfl, .inl ⟨rfl, rfl⟩⟩
    | k + 1, hi => simp [rowF, rowsE] at hi
  · match i, hi with
    | 0, hi => simp [rowF] at hi; subst hi; simp [Value.ownBlock] at hg
    | k + 1, hi => simp [rowF, rowsE] at hi
  · match i, j, hi, hj with
    | 0, 0, _, _ => exact absurd rfl hij
    | k + 1, _, hi, _ => simp [rowF, rowsE] at hi
    | 0, k + 1, _, hj => simp [rowF, rowsE] at hj
theorem blk_two {W : World} {B t : Nat} {v u : Value} (h : Blk W B t #[v, u]) : W.cell? ⟨B, 0, none⟩ = some v ∧ W.cell? ⟨B, 1, none⟩ = some u := ⟨h.cell rfl, h.cell rfl⟩
set_option maxHeartbeats 8000000 in
set_option linter.unusedSimpArgs false in
theorem newWalk_any (g o n c : Nat) (now : Int) (G : List Nr) (m : List Int) (w : World) (HG : Hid (Grz w (some ⟨g, o, none⟩) G)) (hn : G.length = n) (hb : n ≤ 4097) (hm : Mw m) :
    Calls Try.prog 58 #[.agg #[.slice (some ⟨g, o, none⟩) n c, .int .i64 now], .agg (mk m)] w fun e w' => NwP (G.map Nr.d) now m w e w' := by
  have hml := hm.len
  have HM := mkH hm
  generalize hW1 : (w.alloc (.cells #[.slice (some ⟨g, o, none⟩) n c, .int .i64 now] 24)).alloc (.cells (mk m) 41) = W1
  obtain ⟨b2, hb2⟩ : ∃ b, w.heap.size = b := ⟨_, rfl⟩
  have L1 : Hid (Below w.heap.size w W1) := by subst hW1; exact bAlloc (bAlloc (Below.refl _ _) _) _
  have K1 : Hid (Blk W1 b2 24 #[.slice (some ⟨g, o, none⟩) n c, .int .i64 now]) := by subst hW1; rw [← hb2]; exact (Blk.new w 24 _).keep (bAlloc (Below.refl _ _) _)
  have K2 : Hid (Blk W1 (b2 + 1) 41 (mk m)) := by
    subst hW1
    have := Blk.new (w.alloc (.cells #[.slice (some ⟨g, o, none⟩) n c, .int .i64 now] 24)) 41 (mk m)
    rwa [World.size_alloc, hb2] at this
  have CG0 := fun V (hV : Below w.heap.size w V) => copyGrove_any g o n c 0 now G V (HG.out.keep hV) hn hb (by omega)
  have CG : Hid (∀ V, Below w.heap.size w V → Calls Try.prog 54 #[.agg #[.slice (some ⟨g, o, none⟩) n c, .int .i64 now], .int .i64 0] V fun e w' => CgP (G.map Nr.d) now 0 V e w') := CG0
  have hlen : (G.map Nr.d).length = n := by rw [List.length_map, hn]
  have HLE := mkH hlen
  have hb50 : ∀ w, (Instr.build 50 #[(2, .agg (mk m))]).run Try.prog w = .ok (.agg (cxa (.slice none 0 0) 0 m)) w := fun w => b50a w hml
  have HB50 := mkH hb50
  clear CG0 hlen hn hb50
  go_enter Try.func58, Try.ntmps58
  go_upto_region 1 with fail
  have K1d : Hid (Blk W1.drew b2 24 #[.slice (some ⟨g, o, none⟩) n c, .int .i64 now]) := K1.out
  have K2d : Hid (Blk W1.drew (b2 + 1) 41 (mk m)) := K2.out
  have L1d : Hid (Below w.heap.size w W1.drew) := L1.out.drew
  have HB2 := mkH hb2
  clear hW1 K1 K2 L1 hb2
  refine wp_region_held (S := fun w' => Blk w' b2 24 #[.slice (some ⟨g, o, none⟩) n c, .int .i64 now] ∧ Blk w' (b2 + 1) 41 (mk m)) (by kernel_rfl) ?_
  change wpAnyH _ _ _ _ _ _ _ _ (World.drew _)
  generalize W1.drew = V3 at *
  refine ta 0 (.agg #[.slice (some ⟨g, o, none⟩) n c, .int .i64 now]) rfl (Or.inl ⟨by rfl, fun w9 h9 => by obtain ⟨h1, h2⟩ := blk_two h9.1; go_simp⟩) ⟨K1d.out, K2d.out⟩ ?_
  refine ta 2 (.agg (mk m)) rfl (yi41 rfl (.tmp 3) rfl rfl hml (fun _ h => range_blk h.2)) ⟨K1d.out, K2d.out⟩ ?_
  refine ta 3 (.agg (cxa (.slice none 0 0) 0 m)) rfl (yi_bld rfl 50 _ rfl #[(2, .agg (mk m))] (by kernel_rfl) HB50.out) ⟨K1d.out, K2d.out⟩ ?_
  try simp only [Act.put, jj1, jj2, jj3, jj4, jj5, jj6]
  refine wpAnyH_all (rs := [1]) (by kernel_rfl) (by simp) (AllH.cons rfl (fun K hK => ?_) AllH.nil)
  go_simp
  refine (CG.out V3 L1d.out).mono ?_
  rintro e w5 ⟨B, H, X, S, rfl, hH, -, hst, hB⟩
  rw [HLE.out, Nat.add_zero]
  have K15 := mkH (K1d.out.keep hB)
  have K25 := mkH (K2d.out.keep hB)
  have L5 := mkH (L1d.out.trans (hB.mono L1d.out.size))
  have HH := mkH hH
  have HST := mkH hst
  have HHl : Hid (H.length = n) := by have := congrArg List.length hH; rw [List.length_map, HLE.out] at this; exact this
  have LOW : Hid (w.heap.size ≤ V3.heap.size) := L1d.out.size
  clear hH hst hB CG
  dsimp only
  refine hK _ _ ⟨⟨K15.out, K25.out⟩, ?_⟩
  clear hK K
  try simp only [Act.put, jj1, jj2, jj3, jj4, jj5, jj6]
  refine ta 4 (.agg (wca (some ⟨B, 0, none⟩) n n now (.slice none 0 0) 0 m)) rfl (yi_bld rfl 100 _ rfl #[(0, .agg #[.slice (some ⟨B, 0, none⟩) n n, .int .i64 now]), (1, .agg (cxa (.slice none 0 0) 0 m))] (by kernel_rfl) (fun w => b100 w (some ⟨B, 0, none⟩) none n n 0 0 now 0 hml)) ⟨K15.out, K25.out⟩ ?_
  try simp only [Act.put, jj1, jj2, jj3, jj4, jj5, jj6]
  refine wpAnyH_all (rs := [5]) (by kernel_rfl) (by simp) (AllH.cons rfl (fun K hK => ?_) AllH.nil)
  obtain ⟨p, hp⟩ : ∃ p, w5.heap.size = p := ⟨_, rfl⟩
  obtain ⟨w6, hw6⟩ : ∃ x, x = w5.alloc (.cells (wca (some ⟨B, 0, none⟩) n n now (.slice none 0 0) 0 m) 100) := ⟨_, rfl⟩
  have L6 : Hid (Below w5.heap.size w5 w6) := by unfold Hid; rw [hw6]; exact bAlloc (Below.refl _ _) _
  have K16 := mkH (K15.out.keep L6.out)
  have K26 := mkH (K25.out.keep L6.out)
  have BX : Hid (Blk w6 p 100 (wca (some ⟨B, 0, none⟩) n n now (.slice none 0 0) 0 m)) := by unfold Hid; rw [hw6, ← hp]; exact Blk.new _ 100 _
  have HP : Hid (w6.heap.size = p + 1) := by unfold Hid; rw [hw6, ← hp]; simp
  have HP5 := mkH hp
  go_simp
  try rw [hp]
  try rw [← hw6]
  clear hw6 hp
  refine hK _ _ ⟨⟨K16.out, K26.out⟩, ?_⟩
  clear hK K
  refine tk 6 (.pointer (some ⟨p, 0, none⟩)) ⟨K16.out, K26.out⟩ ?_
  try simp only [Act.put, jj1, jj2, jj3, jj4, jj5, jj6]
  refine wpAnyH_done (by kernel_rfl) ?_ _
  go_wp2
  go_ret
  have hst6 := HST.out.keep L6.out
  rw [HP5.out] at hst6
  exact ⟨_, p, B, n, H, X, S, rfl, HH.out, LOW.out, ⟨by rw [HHl.out]; exact BX.out, hst6, ls_nil _ _ _, rfl, HM.out, by rw [HP.out]; omega, Nat.le_refl _, by rw [HHl.out]; exact Nat.le_refl _⟩, L5.out.trans (L6.out.mono L5.out.size)⟩
end Go.Proofs.Ytaahklapoppgaaa

