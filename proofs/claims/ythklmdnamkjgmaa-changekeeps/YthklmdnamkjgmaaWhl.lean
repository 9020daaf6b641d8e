/- The law's whole: copied edits hold what they held, and their marks. -/
import Derived.Test.YthklmdnamkjgmaaCpd
namespace Go.Proofs.Ythklmdnamkjgmaa
open Go.RowKit

set_option maxRecDepth 8000
/-- the cells of copied edits -/
theorem Mst.cell {w W : World} {g c k : Nat} {T F : List Er} {r : Er} (h : Mst w W (.slice (some ⟨g, 0, none⟩) (F.length + T.length) c) T F) (hk : F[k]? = some r) : Ed3 W g (k * 3) r.a r.p1 r.o r.c1 r.p2 r.n r.c2 := by
  have ho := h.own
  have hl := (List.getElem?_eq_some_iff.1 hk).1
  obtain ⟨h1, h2, h3⟩ := ecs_at hk
  have e : ∀ j, j < F.length * 3 → (ecs F ++ ecs T)[j]? = (ecs F)[j]? := fun j hj => by rw [List.getElem?_append_left (by rw [ecs_len]; exact hj)]
  exact ⟨by rw [ho.cellAt _ (by omega), e _ (by omega)]; exact h1, by rw [ho.cellAt _ (by omega), e _ (by omega)]; exact h2, by rw [ho.cellAt _ (by omega), e _ (by omega)]; exact h3⟩
theorem Mst.mark {w W : World} {g c : Nat} {F : List Er} (h : Mst w W (.slice (some ⟨g, 0, none⟩) (F.length + 2) c) mkE F) : W.cell? ⟨g, F.length * 3, none⟩ = some (.int .i64 (-77)) ∧ W.cell? ⟨g, (F.length + 1) * 3, none⟩ = some (.int .i64 (-78)) := by
  have ho : W.ownsRow w.heap.size 38 3 (.slice (some ⟨g, 0, none⟩) (F.length + 2) c) (F.length + 2) (ecs F ++ ecs mkE) := h.own
  have e : ∀ j, (ecs F ++ ecs mkE)[F.length * 3 + j]? = (ecs mkE)[j]? := fun j => by rw [List.getElem?_append_right (by rw [ecs_len]; omega), ecs_len]; congr 1; omega
  exact ⟨by rw [ho.cellAt _ (by omega)]; exact e 0, by rw [ho.cellAt _ (by omega), show (F.length + 1) * 3 = F.length * 3 + 3 from by omega]; exact e 3⟩
theorem mark_at {W : World} {base g n c : Nat} {l : List UInt8} {x y : UInt8} (h : W.ownsRow base 5 1 (.slice (some ⟨g, 0, none⟩) (n + 2) c) (n + 2) (bv (l ++ [x, y]))) : W.cell? ⟨g, n, none⟩ = some (.int .u8 (x.toNat : Int)) ∧ W.cell? ⟨g, n + 1, none⟩ = some (.int .u8 (y.toNat : Int)) := by
  have h1 := h.1
  rw [bv_length, List.length_append] at h1
  have hl : l.length = n := by simp at h1; omega
  have e : ∀ j, j < 2 → (bv (l ++ [x, y]))[n + j]? = (bv [x, y])[j]? := fun j hj => by rw [bv_append, List.getElem?_append_right (by rw [bv_length]; omega), bv_length]; congr 1; omega
  exact ⟨by rw [h.cellAt _ (by omega)]; exact e 0 (by omega), by rw [h.cellAt _ (by omega)]; exact e 1 (by omega)⟩
set_option maxHeartbeats 8000000 in
set_option linter.unusedSimpArgs false in
theorem whole_any (g en c : Nat) (F : List Er) (eo : Option Addr) (ec : Nat) (E : List Er) (w0 w : World) (HM : Hid (Mst w0 w (.slice (some ⟨g, 0, none⟩) (F.length + 2) c) mkE F)) (HE : Hid (Edz w eo E)) (hF : F.length = en) (hE : E.length = en) (hD : F.map Er.d = E.map Er.d) (hc : en + 2 ≤ c) (heb : en ≤ 2000) :
    Calls Try.prog 28 #[.slice (some ⟨g, 0, none⟩) en c, .slice eo en ec] w fun e w' => e = .returned (.bool true) ∧ Below w.heap.size w w' := by
  obtain ⟨nn, hnn⟩ : ∃ nn, nn = en + 2 := ⟨_, rfl⟩
  obtain ⟨n1, hn1⟩ : ∃ n1, n1 = en + 1 := ⟨_, rfl⟩
  have HFN := Hid.mk' hF
  have HEN := Hid.mk' hE
  have HD := Hid.mk' hD
  have hw0 : IntKind.i64.wrap ((en : Int) + 2) = (nn : Int) := by rw [IntKind.wrap_i64]; omega
  have hw1 : IntKind.i64.wrap ((en : Int) + 1) = (n1 : Int) := by rw [IntKind.wrap_i64]; omega
  have sl0 := so_e g en c nn (z := (nn : Int)) (by omega) rfl
  have hi0 : (0 : Int) ≤ (en : Int) := by omega
  have hi1 : (en : Int) < (nn : Int) := by omega
  have hi2 : (0 : Int) ≤ (n1 : Int) := by omega
  have hi3 : (n1 : Int) < (nn : Int) := by omega
  have HM1 : Hid (∀ W, Below w.heap.size w W → W.cell? ⟨g, en * 3, none⟩ = some (.int .i64 (-77)) ∧ W.cell? ⟨g, n1 * 3, none⟩ = some (.int .i64 (-78))) := fun W hb => by
    have := (HM.out.keep hb).mark
    rw [hF] at this
    rw [hn1]; exact this
  have CS := Hid.mk' (fun c1 c2 => same_yes (some ⟨g, 0, none⟩) en c1 F eo en c2 E w (by
    obtain ⟨a', c', e, h1, -⟩ := (Mst.lst (T := mkE) HM.out).edz
    simp only [Value.slice.injEq] at e
    obtain ⟨rfl, -, -⟩ := e
    exact h1) HE.out hF hE hD (by omega))
  clear hF hE hD hnn hn1
  go_enter Try.func28, Try.ntmps28
  go_wp2_with fail
  refine (CS.out _ _).mono ?_
  rintro e w1 ⟨rfl, hb⟩
  have L1 := Hid.mk' hb
  obtain ⟨m1, m2⟩ := HM1.out w1 hb
  clear hb CS sl0
  dsimp only
  go_upto_if 36 with fail
  go_wp2_with fail
  clear m1 m2 hi0 hi1 hi2 hi3 hw0 hw1 HM1
  go_loopg [7, 8, 9] en (fun m x7 x8 x9 wx => ∃ i : Nat, x7 = .int .i64 (i : Int) ∧ i + m = en ∧ Hid (Below w.heap.size w wx))
  case atStart => exact ⟨0, rfl, by omega, L1.out⟩
  case round =>
    obtain ⟨i, rfl, him, KB⟩ := hrel
    obtain ⟨go, hgo⟩ : ∃ g, g = gk - 1 := ⟨_, rfl⟩
    by_cases hi : i < en
    · have hi' : (i : Int) < (en : Int) := by omega
      have hi0 : (0 : Int) ≤ (i : Int) := by omega
      have hw8 : IntKind.i64.wrap ((i : Int) + 1) = ((i + 1 : Nat) : Int) := by rw [IntKind.wrap_i64]; omega
      obtain ⟨r, hr⟩ : ∃ r, F[i]? = some r := ⟨_, List.getElem?_eq_getElem (by have := HFN.out; omega)⟩
      obtain ⟨q, hq⟩ : ∃ q, E[i]? = some q := ⟨_, List.getElem?_eq_getElem (by have := HEN.out; omega)⟩
      have hrq : r.d = q.d := by
        have h1 : (F.map Er.d)[i]? = some r.d := by rw [List.getElem?_map, hr]; rfl
        have h2 : (E.map Er.d)[i]? = some q.d := by rw [List.getElem?_map, hq]; rfl
        rw [HD.out, h2] at h1
        exact (Option.some.inj h1).symm
      obtain ⟨g2, o2, rfl, h32⟩ := HE.out.row.ed3 hq
      have LD : Hid (Below w.heap.size w wr.drew) := KB.out.drew
      have hM := HM.out.keep LD.out
      have h4 := Mst.cell (T := mkE) hM hr
      obtain ⟨hm1, hm2⟩ := rowsM_at hr
      have k1 := hM.rws.own (i * 2 + 1) _ hm1
      have k2 := hM.rws.own (i * 2 + 1 + 1) _ hm2
      have hbn := hM.bnd r (List.mem_of_getElem? hr)
      have hE2 := (HE.out.txs i q hq).keep LD.out
      have h42 := h32.keep LD.out
      obtain ⟨ra, rp1, ro, rc1, rO, rp2, rn, rc2, rN⟩ := r
      obtain ⟨qa, qp1, qo, qc1, qO, qp2, qn, qc2, qN⟩ := q
      dsimp only [Er.d, Ed.mk.injEq] at hrq h4 h42 hE2 hbn
      have hrq' := Ed.mk.inj hrq
      obtain ⟨rfl, rfl, rfl⟩ := hrq'
      have k1' : wr.drew.ownsRow w0.heap.size 5 1 (.slice rp1 (ro + 2) rc1) (ro + 2) (bv (rO ++ [161, 162])) := k1
      have k2' : wr.drew.ownsRow w0.heap.size 5 1 (.slice rp2 (rn + 2) rc2) (rn + 2) (bv (rN ++ [163, 164])) := k2
      obtain ⟨g3, e3, hc3⟩ := some_of k1'
      obtain ⟨g4, e4, hc4⟩ := some_of k2'
      subst e3 e4
      have l1 : qo = ro := by
        have h1 := k1'.1
        rw [bv_length, List.length_append] at h1
        have h2 : rO.length = qo := hE2.t1.len
        simp at h1; omega
      have l2 : qn = rn := by
        have h1 := k2'.1
        rw [bv_length, List.length_append] at h1
        have h2 : rN.length = qn := hE2.t2.len
        simp at h1; omega
      subst l1 l2
      obtain ⟨u1, hu1⟩ : ∃ u1, u1 = qo + 2 := ⟨_, rfl⟩
      obtain ⟨u2, hu2⟩ : ∃ u2, u2 = qn + 2 := ⟨_, rfl⟩
      obtain ⟨u3, hu3⟩ : ∃ u3, u3 = qo + 1 := ⟨_, rfl⟩
      obtain ⟨u4, hu4⟩ : ∃ u4, u4 = qn + 1 := ⟨_, rfl⟩
      have z1 : IntKind.i64.wrap ((qo : Int) + 2) = (u1 : Int) := by rw [IntKind.wrap_i64]; omega
      have z2 : IntKind.i64.wrap ((qn : Int) + 2) = (u2 : Int) := by rw [IntKind.wrap_i64]; omega
      have y1 : IntKind.i64.wrap ((u1 : Int) - 2) = (qo : Int) := by rw [IntKind.wrap_i64]; omega
      have y2 : IntKind.i64.wrap ((u2 : Int) - 2) = (qn : Int) := by rw [IntKind.wrap_i64]; omega
      have y3 : IntKind.i64.wrap ((u1 : Int) - 1) = (u3 : Int) := by rw [IntKind.wrap_i64]; omega
      have y4 : IntKind.i64.wrap ((u2 : Int) - 1) = (u4 : Int) := by rw [IntKind.wrap_i64]; omega
      have b1 : (qo : Int) < (u1 : Int) := by omega
      have b2 : (qn : Int) < (u2 : Int) := by omega
      have b3 : (u3 : Int) < (u1 : Int) := by omega
      have b4 : (u4 : Int) < (u2 : Int) := by omega
      have b5 : (0 : Int) ≤ (qo : Int) := by omega
      have b6 : (0 : Int) ≤ (qn : Int) := by omega
      have b7 : (0 : Int) ≤ (u3 : Int) := by omega
      have b8 : (0 : Int) ≤ (u4 : Int) := by omega
      have sa := so_h g3 qo rc1 u1 (z := (u1 : Int)) (by omega) rfl
      have sb := so_h g4 qn rc2 u2 (z := (u2 : Int)) (by omega) rfl
      obtain ⟨p1, p2⟩ := mark_at k1'
      obtain ⟨p3, p4⟩ := mark_at k2'
      rw [← hu3] at p2
      rw [← hu4] at p4
      have p1' : wr.drew.cell? ⟨g3, qo, none⟩ = some (.int .u8 161) := p1
      have p2' : wr.drew.cell? ⟨g3, u3, none⟩ = some (.int .u8 162) := p2
      have p3' : wr.drew.cell? ⟨g4, qn, none⟩ = some (.int .u8 163) := p3
      have p4' : wr.drew.cell? ⟨g4, u4, none⟩ = some (.int .u8 164) := p4
      have t1 := h4.e1
      have t2 := h4.e2
      have s1 := h42.e1
      have s2 := h42.e2
      clear hr hq hrq h32 h4 h42 hE2 KB hM hm1 hm2 k1 k2 k1' k2' hbn hc3 hc4 hu1 hu2 hu3 hu4 p1 p2 p3 p4
      go_upto_region 8 with fail
      refine wp_region_held (S := fun w' => w' = wr.drew) (by kernel_rfl) ?_
      change wpAnyH _ _ _ _ _ _ _ _ (World.drew _)
      generalize wr.drew = V3 at *
      refine wpAnyH_take (i := 0) (v := .slice (some ⟨g, 0, none⟩) en c) rfl (by kernel_rfl) (by kernel_rfl) (by kernel_rfl) (fun _ _ _ h => h) (Yields.yieldsIf (Or.inl ⟨by rfl, fun w => by go_simp⟩)) rfl ?_
      try simp only [Act.put, List.getElem_toArray, List.getElem_cons_zero, List.getElem_cons_succ, List.setIfInBounds_toArray, List.set_cons_zero, List.set_cons_succ]
      refine wpAnyH_take (i := 1) (v := .int .i64 (i : Int)) rfl (by kernel_rfl) (by kernel_rfl) (by kernel_rfl) (fun _ _ _ h => h) (Yields.yieldsIf (Or.inl ⟨by rfl, fun w => by go_simp⟩)) rfl ?_
      try simp only [Act.put, List.getElem_toArray, List.getElem_cons_zero, List.getElem_cons_succ, List.setIfInBounds_toArray, List.set_cons_zero, List.set_cons_succ]
      refine wpAnyH_take (i := 2) (v := .pointer (some ⟨g, i * 3, none⟩)) rfl (by kernel_rfl) (by kernel_rfl) (by kernel_rfl) (fun _ _ _ h => h) (Yields.yieldsIf (Or.inl ⟨by rfl, fun w => by go_simp⟩)) rfl ?_
      try simp only [Act.put, List.getElem_toArray, List.getElem_cons_zero, List.getElem_cons_succ, List.setIfInBounds_toArray, List.set_cons_zero, List.set_cons_succ]
      refine wpAnyH_take (i := 3) (v := .pointer (some ⟨g, i * 3 + 1, none⟩)) rfl (by kernel_rfl) (by kernel_rfl) (by kernel_rfl) (fun _ _ _ h => h) (Yields.yieldsIf (Or.inl ⟨by rfl, fun w => by go_simp⟩)) rfl ?_
      try simp only [Act.put, List.getElem_toArray, List.getElem_cons_zero, List.getElem_cons_succ, List.setIfInBounds_toArray, List.set_cons_zero, List.set_cons_succ]
      refine wpAnyH_take (i := 4) (v := .slice (some ⟨g3, 0, none⟩) qo rc1) rfl (by kernel_rfl) (by kernel_rfl) (by kernel_rfl) (fun _ _ _ h => h) (Or.inl ⟨by rfl, fun w9 h9 => by subst h9; go_simp⟩) rfl ?_
      try simp only [Act.put, List.getElem_toArray, List.getElem_cons_zero, List.getElem_cons_succ, List.setIfInBounds_toArray, List.set_cons_zero, List.set_cons_succ]
      refine wpAnyH_take (i := 5) (v := .slice (some ⟨g2, o2, none⟩) en ec) rfl (by kernel_rfl) (by kernel_rfl) (by kernel_rfl) (fun _ _ _ h => h) (Yields.yieldsIf (Or.inl ⟨by rfl, fun w => by go_simp⟩)) rfl ?_
      try simp only [Act.put, List.getElem_toArray, List.getElem_cons_zero, List.getElem_cons_succ, List.setIfInBounds_toArray, List.set_cons_zero, List.set_cons_succ]
      refine wpAnyH_take (i := 6) (v := .int .i64 (i : Int)) rfl (by kernel_rfl) (by kernel_rfl) (by kernel_rfl) (fun _ _ _ h => h) (Yields.yieldsIf (Or.inl ⟨by rfl, fun w => by go_simp⟩)) rfl ?_
      try simp only [Act.put, List.getElem_toArray, List.getElem_cons_zero, List.getElem_cons_succ, List.setIfInBounds_toArray, List.set_cons_zero, List.set_cons_succ]
      refine wpAnyH_take (i := 7) (v := .pointer (some ⟨g2, o2 + i * 3, none⟩)) rfl (by kernel_rfl) (by kernel_rfl) (by kernel_rfl) (fun _ _ _ h => h) (Yields.yieldsIf (Or.inl ⟨by rfl, fun w => by go_simp⟩)) rfl ?_
      try simp only [Act.put, List.getElem_toArray, List.getElem_cons_zero, List.getElem_cons_succ, List.setIfInBounds_toArray, List.set_cons_zero, List.set_cons_succ]
      refine wpAnyH_take (i := 8) (v := .pointer (some ⟨g2, o2 + i * 3 + 1, none⟩)) rfl (by kernel_rfl) (by kernel_rfl) (by kernel_rfl) (fun _ _ _ h => h) (Yields.yieldsIf (Or.inl ⟨by rfl, fun w => by go_simp⟩)) rfl ?_
      try simp only [Act.put, List.getElem_toArray, List.getElem_cons_zero, List.getElem_cons_succ, List.setIfInBounds_toArray, List.set_cons_zero, List.set_cons_succ]
      refine wpAnyH_take (i := 9) (v := .slice qp1 qo qc1) rfl (by kernel_rfl) (by kernel_rfl) (by kernel_rfl) (fun _ _ _ h => h) (Or.inl ⟨by rfl, fun w9 h9 => by subst h9; go_simp⟩) rfl ?_
      try simp only [Act.put, List.getElem_toArray, List.getElem_cons_zero, List.getElem_cons_succ, List.setIfInBounds_toArray, List.set_cons_zero, List.set_cons_succ]
      refine wpAnyH_take (i := 10) (v := .int .i64 ((qo : Nat) : Int)) rfl (by kernel_rfl) (by kernel_rfl) (by kernel_rfl) (fun _ _ _ h => h) (Yields.yieldsIf (Or.inl ⟨by rfl, fun w => by go_simp⟩)) rfl ?_
      try simp only [Act.put, List.getElem_toArray, List.getElem_cons_zero, List.getElem_cons_succ, List.setIfInBounds_toArray, List.set_cons_zero, List.set_cons_succ]
      refine wpAnyH_take (i := 11) (v := .int .i64 (u1 : Int)) rfl (by kernel_rfl) (by kernel_rfl) (by kernel_rfl) (fun _ _ _ h => h) (Yields.yieldsIf (Or.inl ⟨by rfl, fun w => by go_simp⟩)) rfl ?_
      try simp only [Act.put, List.getElem_toArray, List.getElem_cons_zero, List.getElem_cons_succ, List.setIfInBounds_toArray, List.set_cons_zero, List.set_cons_succ]
      refine wpAnyH_take (i := 12) (v := .slice (some ⟨g3, 0, none⟩) u1 rc1) rfl (by kernel_rfl) (by kernel_rfl) (by kernel_rfl) (fun _ _ _ h => h) (Yields.yieldsIf (Or.inl ⟨by rfl, fun w => by go_simp⟩)) rfl ?_
      try simp only [Act.put, List.getElem_toArray, List.getElem_cons_zero, List.getElem_cons_succ, List.setIfInBounds_toArray, List.set_cons_zero, List.set_cons_succ]
      refine wpAnyH_take (i := 13) (v := .slice (some ⟨g, 0, none⟩) en c) rfl (by kernel_rfl) (by kernel_rfl) (by kernel_rfl) (fun _ _ _ h => h) (Yields.yieldsIf (Or.inl ⟨by rfl, fun w => by go_simp⟩)) rfl ?_
      try simp only [Act.put, List.getElem_toArray, List.getElem_cons_zero, List.getElem_cons_succ, List.setIfInBounds_toArray, List.set_cons_zero, List.set_cons_succ]
      refine wpAnyH_take (i := 14) (v := .int .i64 (i : Int)) rfl (by kernel_rfl) (by kernel_rfl) (by kernel_rfl) (fun _ _ _ h => h) (Yields.yieldsIf (Or.inl ⟨by rfl, fun w => by go_simp⟩)) rfl ?_
      try simp only [Act.put, List.getElem_toArray, List.getElem_cons_zero, List.getElem_cons_succ, List.setIfInBounds_toArray, List.set_cons_zero, List.set_cons_succ]
      refine wpAnyH_take (i := 15) (v := .pointer (some ⟨g, i * 3, none⟩)) rfl (by kernel_rfl) (by kernel_rfl) (by kernel_rfl) (fun _ _ _ h => h) (Yields.yieldsIf (Or.inl ⟨by rfl, fun w => by go_simp⟩)) rfl ?_
      try simp only [Act.put, List.getElem_toArray, List.getElem_cons_zero, List.getElem_cons_succ, List.setIfInBounds_toArray, List.set_cons_zero, List.set_cons_succ]
      refine wpAnyH_take (i := 16) (v := .pointer (some ⟨g, i * 3 + 2, none⟩)) rfl (by kernel_rfl) (by kernel_rfl) (by kernel_rfl) (fun _ _ _ h => h) (Yields.yieldsIf (Or.inl ⟨by rfl, fun w => by go_simp⟩)) rfl ?_
      try simp only [Act.put, List.getElem_toArray, List.getElem_cons_zero, List.getElem_cons_succ, List.setIfInBounds_toArray, List.set_cons_zero, List.set_cons_succ]
      refine wpAnyH_take (i := 17) (v := .slice (some ⟨g4, 0, none⟩) qn rc2) rfl (by kernel_rfl) (by kernel_rfl) (by kernel_rfl) (fun _ _ _ h => h) (Or.inl ⟨by rfl, fun w9 h9 => by subst h9; go_simp⟩) rfl ?_
      try simp only [Act.put, List.getElem_toArray, List.getElem_cons_zero, List.getElem_cons_succ, List.setIfInBounds_toArray, List.set_cons_zero, List.set_cons_succ]
      refine wpAnyH_take (i := 18) (v := .slice (some ⟨g2, o2, none⟩) en ec) rfl (by kernel_rfl) (by kernel_rfl) (by kernel_rfl) (fun _ _ _ h => h) (Yields.yieldsIf (Or.inl ⟨by rfl, fun w => by go_simp⟩)) rfl ?_
      try simp only [Act.put, List.getElem_toArray, List.getElem_cons_zero, List.getElem_cons_succ, List.setIfInBounds_toArray, List.set_cons_zero, List.set_cons_succ]
      refine wpAnyH_take (i := 19) (v := .int .i64 (i : Int)) rfl (by kernel_rfl) (by kernel_rfl) (by kernel_rfl) (fun _ _ _ h => h) (Yields.yieldsIf (Or.inl ⟨by rfl, fun w => by go_simp⟩)) rfl ?_
      try simp only [Act.put, List.getElem_toArray, List.getElem_cons_zero, List.getElem_cons_succ, List.setIfInBounds_toArray, List.set_cons_zero, List.set_cons_succ]
      refine wpAnyH_take (i := 20) (v := .pointer (some ⟨g2, o2 + i * 3, none⟩)) rfl (by kernel_rfl) (by kernel_rfl) (by kernel_rfl) (fun _ _ _ h => h) (Yields.yieldsIf (Or.inl ⟨by rfl, fun w => by go_simp⟩)) rfl ?_
      try simp only [Act.put, List.getElem_toArray, List.getElem_cons_zero, List.getElem_cons_succ, List.setIfInBounds_toArray, List.set_cons_zero, List.set_cons_succ]
      refine wpAnyH_take (i := 21) (v := .pointer (some ⟨g2, o2 + i * 3 + 2, none⟩)) rfl (by kernel_rfl) (by kernel_rfl) (by kernel_rfl) (fun _ _ _ h => h) (Yields.yieldsIf (Or.inl ⟨by rfl, fun w => by go_simp⟩)) rfl ?_
      try simp only [Act.put, List.getElem_toArray, List.getElem_cons_zero, List.getElem_cons_succ, List.setIfInBounds_toArray, List.set_cons_zero, List.set_cons_succ]
      refine wpAnyH_take (i := 22) (v := .slice qp2 qn qc2) rfl (by kernel_rfl) (by kernel_rfl) (by kernel_rfl) (fun _ _ _ h => h) (Or.inl ⟨by rfl, fun w9 h9 => by subst h9; go_simp⟩) rfl ?_
      try simp only [Act.put, List.getElem_toArray, List.getElem_cons_zero, List.getElem_cons_succ, List.setIfInBounds_toArray, List.set_cons_zero, List.set_cons_succ]
      refine wpAnyH_take (i := 23) (v := .int .i64 ((qn : Nat) : Int)) rfl (by kernel_rfl) (by kernel_rfl) (by kernel_rfl) (fun _ _ _ h => h) (Yields.yieldsIf (Or.inl ⟨by rfl, fun w => by go_simp⟩)) rfl ?_
      try simp only [Act.put, List.getElem_toArray, List.getElem_cons_zero, List.getElem_cons_succ, List.setIfInBounds_toArray, List.set_cons_zero, List.set_cons_succ]
      refine wpAnyH_take (i := 24) (v := .int .i64 (u2 : Int)) rfl (by kernel_rfl) (by kernel_rfl) (by kernel_rfl) (fun _ _ _ h => h) (Yields.yieldsIf (Or.inl ⟨by rfl, fun w => by go_simp⟩)) rfl ?_
      try simp only [Act.put, List.getElem_toArray, List.getElem_cons_zero, List.getElem_cons_succ, List.setIfInBounds_toArray, List.set_cons_zero, List.set_cons_succ]
      refine wpAnyH_take (i := 25) (v := .slice (some ⟨g4, 0, none⟩) u2 rc2) rfl (by kernel_rfl) (by kernel_rfl) (by kernel_rfl) (fun _ _ _ h => h) (Yields.yieldsIf (Or.inl ⟨by rfl, fun w => by go_simp⟩)) rfl ?_
      try simp only [Act.put, List.getElem_toArray, List.getElem_cons_zero, List.getElem_cons_succ, List.setIfInBounds_toArray, List.set_cons_zero, List.set_cons_succ]
      refine wpAnyH_take (i := 26) (v := .slice (some ⟨g3, 0, none⟩) u1 rc1) rfl (by kernel_rfl) (by kernel_rfl) (by kernel_rfl) (fun _ _ _ h => h) (Yields.yieldsIf (Or.inl ⟨by rfl, fun w => by go_simp⟩)) rfl ?_
      try simp only [Act.put, List.getElem_toArray, List.getElem_cons_zero, List.getElem_cons_succ, List.setIfInBounds_toArray, List.set_cons_zero, List.set_cons_succ]
      refine wpAnyH_take (i := 27) (v := .slice (some ⟨g4, 0, none⟩) u2 rc2) rfl (by kernel_rfl) (by kernel_rfl) (by kernel_rfl) (fun _ _ _ h => h) (Yields.yieldsIf (Or.inl ⟨by rfl, fun w => by go_simp⟩)) rfl ?_
      try simp only [Act.put, List.getElem_toArray, List.getElem_cons_zero, List.getElem_cons_succ, List.setIfInBounds_toArray, List.set_cons_zero, List.set_cons_succ]
      refine wpAnyH_done (by kernel_rfl) ?_ _
      clear t1 t2 s1 s2 sa sb z1 z2
      go_upto_if 101 with fail
      clear p1' p2' p3' p4' y1 y2 y3 y4 b1 b2 b3 b4 b5 b6 b7 b8
      go_wp2
      go_roundg go
      case measure => omega
      case rel => exact ⟨i + 1, by go_num, by omega, LD.out⟩
    · have hi' : ¬ (i : Int) < (en : Int) := by omega
      clear hgo
      go_wp2
      go_ret
      exact ⟨rfl, KB.out⟩
end Go.Proofs.Ythklmdnamkjgmaa
