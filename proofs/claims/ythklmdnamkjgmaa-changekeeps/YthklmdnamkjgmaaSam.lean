/- The reference: Between; the laws same and great. -/
import Derived.Test.YthklmdnamkjgmaaRtr
namespace Go.Proofs.Ythklmdnamkjgmaa
open Go.RowKit

set_option maxRecDepth 8000
set_option maxHeartbeats 4000000 in
theorem rbetween_any (a1 : Option Addr) (n1 c1 : Nat) (l1 : List UInt8) (a2 : Option Addr) (n2 c2 : Nat) (l2 : List UInt8) (w : World) (h1 : Hid (Tx w a1 n1 c1 l1)) (h2 : Hid (Tx w a2 n2 c2 l2)) (b1 : n1 ≤ 140737488355328) (b2 : n2 ≤ 140737488355328) :
    Calls Try.prog 21 #[.slice a1 n1 c1, .slice a2 n2 c2] w fun e w' => LstP (trim [⟨0, l1, l2⟩]) w e w' := by
  obtain ⟨w1, hw1⟩ : ∃ w1, w1 = w.alloc (.cells #[.int .i64 0, .slice a1 n1 c1, .slice a2 n2 c2] 38) := ⟨_, rfl⟩
  have B1 : Hid (Below w.heap.size w w1) := by unfold Hid; rw [hw1]; exact bAlloc (Below.refl _ _) _
  have Y0 : Blk w1 w.heap.size 38 #[.int .i64 0, .slice a1 n1 c1, .slice a2 n2 c2] := by rw [hw1]; exact Blk.new _ _ _
  have hE : Edz w1 (some ⟨w.heap.size, 0, none⟩) [⟨0, a1, n1, c1, l1, a2, n2, c2, l2⟩] := ⟨fun k r hk => by
      match k, hk with
      | 0, hk => simp at hk; subst hk; exact ⟨_, 0, rfl, Y0.cell rfl, Y0.cell rfl, Y0.cell rfl⟩
      | k + 1, hk => simp at hk, fun k r hk => by
      match k, hk with
      | 0, hk => simp at hk; subst hk; exact ⟨h1.out.keep B1.out, h2.out.keep B1.out, b1, b2⟩
      | k + 1, hk => simp at hk⟩
  have C := Hid.mk' (fun c => rtrim_any (some ⟨w.heap.size, 0, none⟩) 1 c [⟨0, a1, n1, c1, l1, a2, n2, c2, l2⟩] w1 hE rfl (by omega))
  clear hE Y0
  go_enter Try.func21, Try.ntmps21
  go_wp2_with fail
  rw [← hw1]
  refine (C.out _).mono ?_
  rintro e w2 ⟨v, F, rfl, hF, hL⟩
  have HF := Hid.mk' hF
  have HL := Hid.mk' hL
  clear hF hL C hw1
  dsimp only
  go_wp2
  go_ret
  exact ⟨v, F, rfl, HF.out, HL.out.low B1.out⟩
set_option maxHeartbeats 8000000 in
set_option linter.unusedSimpArgs false in
theorem same_yes (eo : Option Addr) (en ec : Nat) (E : List Er) (fo : Option Addr) (fn fc : Nat) (F : List Er) (w : World) (HE : Hid (Edz w eo E)) (HF : Hid (Edz w fo F)) (hn : E.length = en) (hfn : F.length = fn) (hD : E.map Er.d = F.map Er.d) (heb : en ≤ 140737488355328) :
    Calls Try.prog 15 #[.slice eo en ec, .slice fo fn fc] w fun e w' => e = .returned (.bool true) ∧ Below w.heap.size w w' := by
  obtain rfl : en = fn := by
    have := congrArg List.length hD
    simp at this; omega
  have HN := Hid.mk' hn
  have HFN := Hid.mk' hfn
  have HD := Hid.mk' hD
  clear hn hfn hD
  go_enter Try.func15, Try.ntmps15
  go_wp2_with fail
  go_loopg [5] en (fun m x5 wx => ∃ i : Nat, x5 = .int .i64 (i : Int) ∧ i + m = en ∧ Hid (Below w.heap.size w wx))
  case atStart => exact ⟨0, rfl, by omega, Below.refl _ _⟩
  case round =>
    obtain ⟨i, rfl, him, KB⟩ := hrel
    obtain ⟨go, hgo⟩ : ∃ g, g = gk - 1 := ⟨_, rfl⟩
    by_cases hi : i < en
    · have hi' : (i : Int) < (en : Int) := by omega
      have hi0 : (0 : Int) ≤ (i : Int) := by omega
      have hw8 : IntKind.i64.wrap ((i : Int) + 1) = ((i + 1 : Nat) : Int) := by rw [IntKind.wrap_i64]; omega
      obtain ⟨r, hr⟩ : ∃ r, E[i]? = some r := ⟨_, List.getElem?_eq_getElem (by have := HN.out; omega)⟩
      obtain ⟨q, hq⟩ : ∃ q, F[i]? = some q := ⟨_, List.getElem?_eq_getElem (by have := HFN.out; omega)⟩
      have hrq : r.d = q.d := by
        have h1 : (E.map Er.d)[i]? = some r.d := by rw [List.getElem?_map, hr]; rfl
        have h2 : (F.map Er.d)[i]? = some q.d := by rw [List.getElem?_map, hq]; rfl
        rw [HD.out, h2] at h1
        exact (Option.some.inj h1).symm
      obtain ⟨g, o, rfl, h3⟩ := HE.out.row.ed3 hr
      obtain ⟨g2, o2, rfl, h32⟩ := HF.out.row.ed3 hq
      have LD : Hid (Below w.heap.size w wr.drew) := KB.out.drew
      have hE1 := (HE.out.txs i r hr).keep LD.out
      have hE2 := (HF.out.txs i q hq).keep LD.out
      have h4 := h3.keep LD.out
      have h42 := h32.keep LD.out
      obtain ⟨ra, rp1, ro, rc1, rO, rp2, rn, rc2, rN⟩ := r
      obtain ⟨qa, qp1, qo, qc1, qO, qp2, qn, qc2, qN⟩ := q
      dsimp only [Er.d, Ed.mk.injEq] at hrq h4 h42 hE1 hE2
      have hrq' := Ed.mk.inj hrq
      obtain ⟨rfl, rfl, rfl⟩ := hrq'
      have t0 := h4.e0
      have t1 := h4.e1
      have t2 := h4.e2
      have s0 := h42.e0
      have s1 := h42.e1
      have s2 := h42.e2
      have v1 := conv_tx hE1.t1
      have v2 := conv_tx hE1.t2
      have v3 := conv_tx hE2.t1
      have v4 := conv_tx hE2.t2
      dsimp only at v1 v2 v3 v4
      have q1 := fun W => ne9_no rO W
      have q2 := fun W => ne9_no rN W
      clear hr hq hrq h3 h32 h4 h42 hE1 hE2 KB
      go_upto_region 6 with fail
      refine wp_region_held (S := fun w' => w' = wr.drew) (by kernel_rfl) ?_
      change wpAnyH _ _ _ _ _ _ _ _ (World.drew _)
      generalize wr.drew = V3 at *
      refine wpAnyH_take (i := 0) (v := .slice (some ⟨g, o, none⟩) en ec) rfl (by kernel_rfl) (by kernel_rfl) (by kernel_rfl) (fun _ _ _ h => h) (Yields.yieldsIf (Or.inl ⟨by rfl, fun w => by go_simp⟩)) rfl ?_
      try simp only [Act.put, List.getElem_toArray, List.getElem_cons_zero, List.getElem_cons_succ, List.setIfInBounds_toArray, List.set_cons_zero, List.set_cons_succ]
      refine wpAnyH_take (i := 1) (v := .int .i64 (i : Int)) rfl (by kernel_rfl) (by kernel_rfl) (by kernel_rfl) (fun _ _ _ h => h) (Yields.yieldsIf (Or.inl ⟨by rfl, fun w => by go_simp⟩)) rfl ?_
      try simp only [Act.put, List.getElem_toArray, List.getElem_cons_zero, List.getElem_cons_succ, List.setIfInBounds_toArray, List.set_cons_zero, List.set_cons_succ]
      refine wpAnyH_take (i := 2) (v := .pointer (some ⟨g, o + i * 3, none⟩)) rfl (by kernel_rfl) (by kernel_rfl) (by kernel_rfl) (fun _ _ _ h => h) (Yields.yieldsIf (Or.inl ⟨by rfl, fun w => by go_simp⟩)) rfl ?_
      try simp only [Act.put, List.getElem_toArray, List.getElem_cons_zero, List.getElem_cons_succ, List.setIfInBounds_toArray, List.set_cons_zero, List.set_cons_succ]
      refine wpAnyH_take (i := 3) (v := .pointer (some ⟨g, o + i * 3, none⟩)) rfl (by kernel_rfl) (by kernel_rfl) (by kernel_rfl) (fun _ _ _ h => h) (Yields.yieldsIf (Or.inl ⟨by rfl, fun w => by go_simp⟩)) rfl ?_
      try simp only [Act.put, List.getElem_toArray, List.getElem_cons_zero, List.getElem_cons_succ, List.setIfInBounds_toArray, List.set_cons_zero, List.set_cons_succ]
      refine wpAnyH_take (i := 4) (v := .int .i64 ra) rfl (by kernel_rfl) (by kernel_rfl) (by kernel_rfl) (fun _ _ _ h => h) (Or.inl ⟨by rfl, fun w9 h9 => by subst h9; go_simp⟩) rfl ?_
      try simp only [Act.put, List.getElem_toArray, List.getElem_cons_zero, List.getElem_cons_succ, List.setIfInBounds_toArray, List.set_cons_zero, List.set_cons_succ]
      refine wpAnyH_take (i := 5) (v := .slice (some ⟨g2, o2, none⟩) en fc) rfl (by kernel_rfl) (by kernel_rfl) (by kernel_rfl) (fun _ _ _ h => h) (Yields.yieldsIf (Or.inl ⟨by rfl, fun w => by go_simp⟩)) rfl ?_
      try simp only [Act.put, List.getElem_toArray, List.getElem_cons_zero, List.getElem_cons_succ, List.setIfInBounds_toArray, List.set_cons_zero, List.set_cons_succ]
      refine wpAnyH_take (i := 6) (v := .int .i64 (i : Int)) rfl (by kernel_rfl) (by kernel_rfl) (by kernel_rfl) (fun _ _ _ h => h) (Yields.yieldsIf (Or.inl ⟨by rfl, fun w => by go_simp⟩)) rfl ?_
      try simp only [Act.put, List.getElem_toArray, List.getElem_cons_zero, List.getElem_cons_succ, List.setIfInBounds_toArray, List.set_cons_zero, List.set_cons_succ]
      refine wpAnyH_take (i := 7) (v := .pointer (some ⟨g2, o2 + i * 3, none⟩)) rfl (by kernel_rfl) (by kernel_rfl) (by kernel_rfl) (fun _ _ _ h => h) (Yields.yieldsIf (Or.inl ⟨by rfl, fun w => by go_simp⟩)) rfl ?_
      try simp only [Act.put, List.getElem_toArray, List.getElem_cons_zero, List.getElem_cons_succ, List.setIfInBounds_toArray, List.set_cons_zero, List.set_cons_succ]
      refine wpAnyH_take (i := 8) (v := .pointer (some ⟨g2, o2 + i * 3, none⟩)) rfl (by kernel_rfl) (by kernel_rfl) (by kernel_rfl) (fun _ _ _ h => h) (Yields.yieldsIf (Or.inl ⟨by rfl, fun w => by go_simp⟩)) rfl ?_
      try simp only [Act.put, List.getElem_toArray, List.getElem_cons_zero, List.getElem_cons_succ, List.setIfInBounds_toArray, List.set_cons_zero, List.set_cons_succ]
      refine wpAnyH_take (i := 9) (v := .int .i64 ra) rfl (by kernel_rfl) (by kernel_rfl) (by kernel_rfl) (fun _ _ _ h => h) (Or.inl ⟨by rfl, fun w9 h9 => by subst h9; go_simp⟩) rfl ?_
      try simp only [Act.put, List.getElem_toArray, List.getElem_cons_zero, List.getElem_cons_succ, List.setIfInBounds_toArray, List.set_cons_zero, List.set_cons_succ]
      refine wpAnyH_take (i := 10) (v := .bool false) rfl (by kernel_rfl) (by kernel_rfl) (by kernel_rfl) (fun _ _ _ h => h) (Yields.yieldsIf (Or.inl ⟨by rfl, fun w => by go_simp⟩)) rfl ?_
      try simp only [Act.put, List.getElem_toArray, List.getElem_cons_zero, List.getElem_cons_succ, List.setIfInBounds_toArray, List.set_cons_zero, List.set_cons_succ]
      refine wpAnyH_take (i := 11) (v := .bool false) rfl (by kernel_rfl) (by kernel_rfl) (by kernel_rfl) (fun _ _ _ h => h) (Yields.yieldsIf (Or.inl ⟨by rfl, fun w => by go_simp⟩)) rfl ?_
      try simp only [Act.put, List.getElem_toArray, List.getElem_cons_zero, List.getElem_cons_succ, List.setIfInBounds_toArray, List.set_cons_zero, List.set_cons_succ]
      refine wpAnyH_take (i := 12) (v := .slice (some ⟨g, o, none⟩) en ec) rfl (by kernel_rfl) (by kernel_rfl) (by kernel_rfl) (fun _ _ _ h => h) (Yields.yieldsIf (Or.inl ⟨by rfl, fun w => by go_simp⟩)) rfl ?_
      try simp only [Act.put, List.getElem_toArray, List.getElem_cons_zero, List.getElem_cons_succ, List.setIfInBounds_toArray, List.set_cons_zero, List.set_cons_succ]
      refine wpAnyH_take (i := 13) (v := .int .i64 (i : Int)) rfl (by kernel_rfl) (by kernel_rfl) (by kernel_rfl) (fun _ _ _ h => h) (Yields.yieldsIf (Or.inl ⟨by rfl, fun w => by go_simp⟩)) rfl ?_
      try simp only [Act.put, List.getElem_toArray, List.getElem_cons_zero, List.getElem_cons_succ, List.setIfInBounds_toArray, List.set_cons_zero, List.set_cons_succ]
      refine wpAnyH_take (i := 14) (v := .pointer (some ⟨g, o + i * 3, none⟩)) rfl (by kernel_rfl) (by kernel_rfl) (by kernel_rfl) (fun _ _ _ h => h) (Yields.yieldsIf (Or.inl ⟨by rfl, fun w => by go_simp⟩)) rfl ?_
      try simp only [Act.put, List.getElem_toArray, List.getElem_cons_zero, List.getElem_cons_succ, List.setIfInBounds_toArray, List.set_cons_zero, List.set_cons_succ]
      refine wpAnyH_take (i := 15) (v := .pointer (some ⟨g, o + i * 3 + 1, none⟩)) rfl (by kernel_rfl) (by kernel_rfl) (by kernel_rfl) (fun _ _ _ h => h) (Yields.yieldsIf (Or.inl ⟨by rfl, fun w => by go_simp⟩)) rfl ?_
      try simp only [Act.put, List.getElem_toArray, List.getElem_cons_zero, List.getElem_cons_succ, List.setIfInBounds_toArray, List.set_cons_zero, List.set_cons_succ]
      refine wpAnyH_take (i := 16) (v := .slice rp1 ro rc1) rfl (by kernel_rfl) (by kernel_rfl) (by kernel_rfl) (fun _ _ _ h => h) (Or.inl ⟨by rfl, fun w9 h9 => by subst h9; go_simp⟩) rfl ?_
      try simp only [Act.put, List.getElem_toArray, List.getElem_cons_zero, List.getElem_cons_succ, List.setIfInBounds_toArray, List.set_cons_zero, List.set_cons_succ]
      refine wpAnyH_take (i := 17) (v := .string ⟨rO.toArray⟩) rfl (by kernel_rfl) (by kernel_rfl) (by kernel_rfl) (fun _ _ _ h => h) (Or.inl ⟨by rfl, fun w9 h9 => by subst h9; go_simp⟩) rfl ?_
      try simp only [Act.put, List.getElem_toArray, List.getElem_cons_zero, List.getElem_cons_succ, List.setIfInBounds_toArray, List.set_cons_zero, List.set_cons_succ]
      refine wpAnyH_take (i := 18) (v := .slice (some ⟨g2, o2, none⟩) en fc) rfl (by kernel_rfl) (by kernel_rfl) (by kernel_rfl) (fun _ _ _ h => h) (Yields.yieldsIf (Or.inl ⟨by rfl, fun w => by go_simp⟩)) rfl ?_
      try simp only [Act.put, List.getElem_toArray, List.getElem_cons_zero, List.getElem_cons_succ, List.setIfInBounds_toArray, List.set_cons_zero, List.set_cons_succ]
      refine wpAnyH_take (i := 19) (v := .int .i64 (i : Int)) rfl (by kernel_rfl) (by kernel_rfl) (by kernel_rfl) (fun _ _ _ h => h) (Yields.yieldsIf (Or.inl ⟨by rfl, fun w => by go_simp⟩)) rfl ?_
      try simp only [Act.put, List.getElem_toArray, List.getElem_cons_zero, List.getElem_cons_succ, List.setIfInBounds_toArray, List.set_cons_zero, List.set_cons_succ]
      refine wpAnyH_take (i := 20) (v := .pointer (some ⟨g2, o2 + i * 3, none⟩)) rfl (by kernel_rfl) (by kernel_rfl) (by kernel_rfl) (fun _ _ _ h => h) (Yields.yieldsIf (Or.inl ⟨by rfl, fun w => by go_simp⟩)) rfl ?_
      try simp only [Act.put, List.getElem_toArray, List.getElem_cons_zero, List.getElem_cons_succ, List.setIfInBounds_toArray, List.set_cons_zero, List.set_cons_succ]
      refine wpAnyH_take (i := 21) (v := .pointer (some ⟨g2, o2 + i * 3 + 1, none⟩)) rfl (by kernel_rfl) (by kernel_rfl) (by kernel_rfl) (fun _ _ _ h => h) (Yields.yieldsIf (Or.inl ⟨by rfl, fun w => by go_simp⟩)) rfl ?_
      try simp only [Act.put, List.getElem_toArray, List.getElem_cons_zero, List.getElem_cons_succ, List.setIfInBounds_toArray, List.set_cons_zero, List.set_cons_succ]
      refine wpAnyH_take (i := 22) (v := .slice qp1 qo qc1) rfl (by kernel_rfl) (by kernel_rfl) (by kernel_rfl) (fun _ _ _ h => h) (Or.inl ⟨by rfl, fun w9 h9 => by subst h9; go_simp⟩) rfl ?_
      try simp only [Act.put, List.getElem_toArray, List.getElem_cons_zero, List.getElem_cons_succ, List.setIfInBounds_toArray, List.set_cons_zero, List.set_cons_succ]
      refine wpAnyH_take (i := 23) (v := .string ⟨rO.toArray⟩) rfl (by kernel_rfl) (by kernel_rfl) (by kernel_rfl) (fun _ _ _ h => h) (Or.inl ⟨by rfl, fun w9 h9 => by subst h9; go_simp⟩) rfl ?_
      try simp only [Act.put, List.getElem_toArray, List.getElem_cons_zero, List.getElem_cons_succ, List.setIfInBounds_toArray, List.set_cons_zero, List.set_cons_succ]
      refine wpAnyH_take (i := 24) (v := .bool false) rfl (by kernel_rfl) (by kernel_rfl) (by kernel_rfl) (fun _ _ _ h => h) (Yields.yieldsIf (Or.inl ⟨by rfl, fun w => by go_simp⟩)) rfl ?_
      try simp only [Act.put, List.getElem_toArray, List.getElem_cons_zero, List.getElem_cons_succ, List.setIfInBounds_toArray, List.set_cons_zero, List.set_cons_succ]
      refine wpAnyH_take (i := 25) (v := .bool false) rfl (by kernel_rfl) (by kernel_rfl) (by kernel_rfl) (fun _ _ _ h => h) (Yields.yieldsIf (Or.inl ⟨by rfl, fun w => by go_simp⟩)) rfl ?_
      try simp only [Act.put, List.getElem_toArray, List.getElem_cons_zero, List.getElem_cons_succ, List.setIfInBounds_toArray, List.set_cons_zero, List.set_cons_succ]
      refine wpAnyH_take (i := 26) (v := .bool false) rfl (by kernel_rfl) (by kernel_rfl) (by kernel_rfl) (fun _ _ _ h => h) (Yields.yieldsIf (Or.inl ⟨by rfl, fun w => by go_simp⟩)) rfl ?_
      try simp only [Act.put, List.getElem_toArray, List.getElem_cons_zero, List.getElem_cons_succ, List.setIfInBounds_toArray, List.set_cons_zero, List.set_cons_succ]
      refine wpAnyH_take (i := 27) (v := .slice (some ⟨g, o, none⟩) en ec) rfl (by kernel_rfl) (by kernel_rfl) (by kernel_rfl) (fun _ _ _ h => h) (Yields.yieldsIf (Or.inl ⟨by rfl, fun w => by go_simp⟩)) rfl ?_
      try simp only [Act.put, List.getElem_toArray, List.getElem_cons_zero, List.getElem_cons_succ, List.setIfInBounds_toArray, List.set_cons_zero, List.set_cons_succ]
      refine wpAnyH_take (i := 28) (v := .int .i64 (i : Int)) rfl (by kernel_rfl) (by kernel_rfl) (by kernel_rfl) (fun _ _ _ h => h) (Yields.yieldsIf (Or.inl ⟨by rfl, fun w => by go_simp⟩)) rfl ?_
      try simp only [Act.put, List.getElem_toArray, List.getElem_cons_zero, List.getElem_cons_succ, List.setIfInBounds_toArray, List.set_cons_zero, List.set_cons_succ]
      refine wpAnyH_take (i := 29) (v := .pointer (some ⟨g, o + i * 3, none⟩)) rfl (by kernel_rfl) (by kernel_rfl) (by kernel_rfl) (fun _ _ _ h => h) (Yields.yieldsIf (Or.inl ⟨by rfl, fun w => by go_simp⟩)) rfl ?_
      try simp only [Act.put, List.getElem_toArray, List.getElem_cons_zero, List.getElem_cons_succ, List.setIfInBounds_toArray, List.set_cons_zero, List.set_cons_succ]
      refine wpAnyH_take (i := 30) (v := .pointer (some ⟨g, o + i * 3 + 2, none⟩)) rfl (by kernel_rfl) (by kernel_rfl) (by kernel_rfl) (fun _ _ _ h => h) (Yields.yieldsIf (Or.inl ⟨by rfl, fun w => by go_simp⟩)) rfl ?_
      try simp only [Act.put, List.getElem_toArray, List.getElem_cons_zero, List.getElem_cons_succ, List.setIfInBounds_toArray, List.set_cons_zero, List.set_cons_succ]
      refine wpAnyH_take (i := 31) (v := .slice rp2 rn rc2) rfl (by kernel_rfl) (by kernel_rfl) (by kernel_rfl) (fun _ _ _ h => h) (Or.inl ⟨by rfl, fun w9 h9 => by subst h9; go_simp⟩) rfl ?_
      try simp only [Act.put, List.getElem_toArray, List.getElem_cons_zero, List.getElem_cons_succ, List.setIfInBounds_toArray, List.set_cons_zero, List.set_cons_succ]
      refine wpAnyH_take (i := 32) (v := .string ⟨rN.toArray⟩) rfl (by kernel_rfl) (by kernel_rfl) (by kernel_rfl) (fun _ _ _ h => h) (Or.inl ⟨by rfl, fun w9 h9 => by subst h9; go_simp⟩) rfl ?_
      try simp only [Act.put, List.getElem_toArray, List.getElem_cons_zero, List.getElem_cons_succ, List.setIfInBounds_toArray, List.set_cons_zero, List.set_cons_succ]
      refine wpAnyH_take (i := 33) (v := .slice (some ⟨g2, o2, none⟩) en fc) rfl (by kernel_rfl) (by kernel_rfl) (by kernel_rfl) (fun _ _ _ h => h) (Yields.yieldsIf (Or.inl ⟨by rfl, fun w => by go_simp⟩)) rfl ?_
      try simp only [Act.put, List.getElem_toArray, List.getElem_cons_zero, List.getElem_cons_succ, List.setIfInBounds_toArray, List.set_cons_zero, List.set_cons_succ]
      refine wpAnyH_take (i := 34) (v := .int .i64 (i : Int)) rfl (by kernel_rfl) (by kernel_rfl) (by kernel_rfl) (fun _ _ _ h => h) (Yields.yieldsIf (Or.inl ⟨by rfl, fun w => by go_simp⟩)) rfl ?_
      try simp only [Act.put, List.getElem_toArray, List.getElem_cons_zero, List.getElem_cons_succ, List.setIfInBounds_toArray, List.set_cons_zero, List.set_cons_succ]
      refine wpAnyH_take (i := 35) (v := .pointer (some ⟨g2, o2 + i * 3, none⟩)) rfl (by kernel_rfl) (by kernel_rfl) (by kernel_rfl) (fun _ _ _ h => h) (Yields.yieldsIf (Or.inl ⟨by rfl, fun w => by go_simp⟩)) rfl ?_
      try simp only [Act.put, List.getElem_toArray, List.getElem_cons_zero, List.getElem_cons_succ, List.setIfInBounds_toArray, List.set_cons_zero, List.set_cons_succ]
      refine wpAnyH_take (i := 36) (v := .pointer (some ⟨g2, o2 + i * 3 + 2, none⟩)) rfl (by kernel_rfl) (by kernel_rfl) (by kernel_rfl) (fun _ _ _ h => h) (Yields.yieldsIf (Or.inl ⟨by rfl, fun w => by go_simp⟩)) rfl ?_
      try simp only [Act.put, List.getElem_toArray, List.getElem_cons_zero, List.getElem_cons_succ, List.setIfInBounds_toArray, List.set_cons_zero, List.set_cons_succ]
      refine wpAnyH_take (i := 37) (v := .slice qp2 qn qc2) rfl (by kernel_rfl) (by kernel_rfl) (by kernel_rfl) (fun _ _ _ h => h) (Or.inl ⟨by rfl, fun w9 h9 => by subst h9; go_simp⟩) rfl ?_
      try simp only [Act.put, List.getElem_toArray, List.getElem_cons_zero, List.getElem_cons_succ, List.setIfInBounds_toArray, List.set_cons_zero, List.set_cons_succ]
      refine wpAnyH_take (i := 38) (v := .string ⟨rN.toArray⟩) rfl (by kernel_rfl) (by kernel_rfl) (by kernel_rfl) (fun _ _ _ h => h) (Or.inl ⟨by rfl, fun w9 h9 => by subst h9; go_simp⟩) rfl ?_
      try simp only [Act.put, List.getElem_toArray, List.getElem_cons_zero, List.getElem_cons_succ, List.setIfInBounds_toArray, List.set_cons_zero, List.set_cons_succ]
      refine wpAnyH_take (i := 39) (v := .bool false) rfl (by kernel_rfl) (by kernel_rfl) (by kernel_rfl) (fun _ _ _ h => h) (Yields.yieldsIf (Or.inl ⟨by rfl, fun w => by go_simp⟩)) rfl ?_
      try simp only [Act.put, List.getElem_toArray, List.getElem_cons_zero, List.getElem_cons_succ, List.setIfInBounds_toArray, List.set_cons_zero, List.set_cons_succ]
      refine wpAnyH_take (i := 40) (v := .bool false) rfl (by kernel_rfl) (by kernel_rfl) (by kernel_rfl) (fun _ _ _ h => h) (Yields.yieldsIf (Or.inl ⟨by rfl, fun w => by go_simp⟩)) rfl ?_
      try simp only [Act.put, List.getElem_toArray, List.getElem_cons_zero, List.getElem_cons_succ, List.setIfInBounds_toArray, List.set_cons_zero, List.set_cons_succ]
      refine wpAnyH_done (by kernel_rfl) ?_ _
      clear t0 t1 t2 s0 s1 s2 v1 v2 v3 v4 q1 q2
      go_wp2
      go_roundg go
      case measure => omega
      case rel => exact ⟨i + 1, by go_num, by omega, LD.out⟩
    · have hi' : ¬ (i : Int) < (en : Int) := by omega
      clear hgo
      go_wp2
      go_ret
      exact ⟨rfl, KB.out⟩
/-- what great says -/
def GrP (n en : Nat) (D : List Ed) (w : World) (e : Ending) (w' : World) : Prop := ∃ b, e = .returned (.bool b) ∧ Below w.heap.size w w' ∧ (b = false → en ≤ 2000 → n + nsum D = 0 ∨ en * (n + nsum D) ≤ 134217728)
theorem nsum_take {E : List Er} {i : Nat} {r : Er} (h : E[i]? = some r) : nsum ((E.map Er.d).take (i + 1)) = nsum ((E.map Er.d).take i) + r.N.length := by
  rw [map_take h]
  simp [nsum, Er.d]
theorem nsum_le {E : List Er} {w : World} {ao : Option Addr} (hE : Edz w ao E) : ∀ i, i ≤ E.length → nsum ((E.map Er.d).take i) ≤ i * 140737488355328
  | 0, _ => by simp [nsum]
  | i + 1, h => by
    obtain ⟨r, hr⟩ : ∃ r, E[i]? = some r := ⟨_, List.getElem?_eq_getElem (by omega)⟩
    have h1 := nsum_le hE i (by omega)
    have h2 := (hE.txs i r hr).b2
    have h3 := (hE.txs i r hr).t2.len
    rw [nsum_take hr]
    omega
set_option maxHeartbeats 8000000 in
theorem great_any (ao : Option Addr) (n c : Nat) (eo : Option Addr) (en ec : Nat) (E : List Er) (w : World) (HE : Hid (Edz w eo E)) (hn : E.length = en) (heb : en ≤ 140737488355328) (hb : n ≤ 140737488355328) :
    Calls Try.prog 11 #[.slice ao n c, .slice eo en ec] w fun e w' => GrP n en (E.map Er.d) w e w' := by
  have HN := Hid.mk' hn
  clear hn
  go_enter Try.func11, Try.ntmps11
  go_wp2_with fail
  go_loopg [5, 6] en (fun m x5 x6 wx => ∃ (i : Nat) (s : Int), x6 = .int .i64 (i : Int) ∧ x5 = .int .i64 s ∧ i + m = en ∧ Hid (i ≤ 2000 → s = ((n + nsum ((E.map Er.d).take i) : Nat) : Int)) ∧ Hid (Below w.heap.size w wx))
  case atStart => exact ⟨0, (n : Int), rfl, rfl, by omega, fun _ => by simp [nsum], Below.refl _ _⟩
  case round =>
    obtain ⟨i, s, rfl, rfl, him, HS, KB⟩ := hrel
    obtain ⟨go, hgo⟩ : ∃ g, g = gk - 1 := ⟨_, rfl⟩
    by_cases hi : i < en
    · have hi' : (i : Int) < (en : Int) := by omega
      have hi0 : (0 : Int) ≤ (i : Int) := by omega
      have hw8 : IntKind.i64.wrap ((i : Int) + 1) = ((i + 1 : Nat) : Int) := by rw [IntKind.wrap_i64]; omega
      obtain ⟨r, hr⟩ : ∃ r, E[i]? = some r := ⟨_, List.getElem?_eq_getElem (by have := HN.out; omega)⟩
      obtain ⟨g, o, rfl, h3⟩ := HE.out.row.ed3 hr
      have h4 := h3.keep KB.out
      have hEt := HE.out.txs i r hr
      obtain ⟨s2, hs2⟩ : ∃ s2, IntKind.i64.wrap (s + (r.n : Int)) = s2 := ⟨_, rfl⟩
      have HT : Hid (i + 1 ≤ 2000 → s2 = ((n + nsum ((E.map Er.d).take (i + 1)) : Nat) : Int)) := fun h => by
        have h1 := HS.out (by omega)
        have h2 := nsum_le HE.out (i + 1) (by have := HN.out; omega)
        have h5 : (i + 1) * 140737488355328 ≤ 2000 * 140737488355328 := Nat.mul_le_mul_right _ h
        rw [nsum_take hr] at h2 ⊢
        have h6 := hEt.t2.len
        rw [← hs2, h1, IntKind.wrap_i64]
        omega
      obtain ⟨ra, rp1, ro, rc1, rO, rp2, rn, rc2, rN⟩ := r
      dsimp only at h4 hs2
      have t2 := h4.e2
      clear hr h3 h4 hEt
      go_wp2
      go_roundg go
      case measure => omega
      case rel => exact ⟨i + 1, s2, by go_num, rfl, by omega, HT.out, KB.out⟩
    · have hi' : ¬ (i : Int) < (en : Int) := by omega
      have HF2 : Hid (en ≤ 2000 → s = ((n + nsum (E.map Er.d) : Nat) : Int)) := fun h => by
        have h1 := HS.out (by omega)
        rwa [List.take_of_length_le (by rw [List.length_map]; have := HN.out; omega)] at h1
      clear hgo HS
      by_cases hs : 0 < s
      · obtain ⟨S, hS⟩ : ∃ S : Nat, s = (S : Int) := ⟨s.toNat, by omega⟩
        subst hS
        have hs0 : ¬ ((S : Int) = 0) := by omega
        have hs0b : ((S : Int) == 0) = false := by simp; omega
        have hs1 : ¬ ((S : Int) = -1) := by omega
        obtain ⟨Q, hQ⟩ : ∃ Q : Nat, Q = 134217728 / S := ⟨_, rfl⟩
        have hq : Int.tdiv 134217728 (S : Int) = (Q : Int) := by rw [hQ]; rfl
        have hwq : IntKind.i64.wrap (Q : Int) = (Q : Int) := by
          have : Q ≤ 134217728 := by rw [hQ]; exact Nat.div_le_self _ _
          rw [IntKind.wrap_i64]; omega
        have HQ := Hid.mk' hQ
        clear hQ
        by_cases hl : Q < en
        · have hl' : (Q : Int) < (en : Int) := by omega
          go_wp2
          go_ret
          exact ⟨true, rfl, KB.out, fun h => by cases h⟩
        · have hl' : ¬ (Q : Int) < (en : Int) := by omega
          have HX : Hid (en ≤ 2000 → n + nsum (E.map Er.d) = 0 ∨ en * (n + nsum (E.map Er.d)) ≤ 134217728) := fun h => by
            have h1 := HF2.out h
            have h2 : n + nsum (E.map Er.d) = S := by omega
            rw [h2]
            right
            have h3 : en ≤ 134217728 / S := by rw [← HQ.out]; omega
            calc en * S ≤ 134217728 / S * S := Nat.mul_le_mul_right _ h3
              _ ≤ 134217728 := Nat.div_mul_le_self _ _
          go_wp2
          go_ret
          exact ⟨false, rfl, KB.out, fun _ => HX.out⟩
      · have hs' : decide ((0 : Int) < s) = false := decide_eq_false hs
        have HX : Hid (en ≤ 2000 → n + nsum (E.map Er.d) = 0 ∨ en * (n + nsum (E.map Er.d)) ≤ 134217728) := fun h => by
          have h1 := HF2.out h
          left; omega
        go_wp2
        go_ret
        exact ⟨false, rfl, KB.out, fun _ => HX.out⟩
end Go.Proofs.Ythklmdnamkjgmaa
