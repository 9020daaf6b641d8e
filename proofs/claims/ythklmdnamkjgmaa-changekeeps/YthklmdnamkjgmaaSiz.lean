/- change.Size, change.First, and the reference's. -/
import Derived.Test.YthklmdnamkjgmaaInv
namespace Go.Proofs.Ythklmdnamkjgmaa
open Go.RowKit

set_option maxRecDepth 8000
/-- how much longer, as a machine reckons it -/
def sz (D : List Ed) : Int := D.foldl (fun s d => IntKind.i64.wrap (s + ((d.N.length : Int) - (d.O.length : Int)))) 0
theorem sz_snoc (D : List Ed) (d : Ed) : sz (D ++ [d]) = IntKind.i64.wrap (sz D + ((d.N.length : Int) - (d.O.length : Int))) := by simp [sz]
/-- the least place -/
def fst : List Ed → Int
  | [] => 0
  | d :: D => D.foldl (fun m e => min m e.a) d.a
theorem fst_snoc {D : List Ed} (h : D ≠ []) (d : Ed) : fst (D ++ [d]) = min (fst D) d.a := by
  cases D with
  | nil => exact absurd rfl h
  | cons x D => simp [fst]
theorem cells38 : (Try.prog.info? 38).map (·.size) = some 3 := by kernel_rfl
theorem size38 (w : World) : (sizeOf 38).run Try.prog w = .ok 3 w := by kernel_rfl
theorem elem23 : Try.prog.elem 23 = 38 := by kernel_rfl
theorem und23 : Try.prog.underlying 23 = some (.slice (Try.prog.elem 23)) := by kernel_rfl
/-- edits[1:] -/
theorem sl_e {eo : Option Addr} {en ec : Nat} {E : List Er} (hl : E.length = en) (h1 : 1 ≤ en) (hc : en ≤ ec) : ∃ a' c', (∀ W, (Instr.sliceAt 23 (.slice eo en ec) (some (.int .i64 1)) none none).run Try.prog W = .ok (.slice a' (en - 1) c') W) ∧ ∀ W, Edr W eo E → Edr W a' (E.drop 1) := by
  have hr : ∀ W, (Instr.sliceAt 23 (.slice eo en ec) (some (.int .i64 1)) none none).run Try.prog W = .ok (sliced eo 1 en ec 3) W := fun W => by
    rw [run_sliceAt_slice W 23 _ _ _ _ und23, run_slice_l W 23 eo en ec und23 .i64 1 (by omega) (by omega), elem23, size38]
    rfl
  by_cases hcl : ec = 1
  · refine ⟨eo, ec - 1, fun W => ?_, fun W _ k r hk => ?_⟩
    · rw [hr W]; unfold sliced; rw [if_pos hcl]
    · rw [List.drop_eq_nil_of_le (by omega)] at hk; simp at hk
  · refine ⟨eo.map (·.add 3), ec - 1, fun W => ?_, fun W hE k r hk => ?_⟩
    · rw [hr W]; unfold sliced; rw [if_neg hcl]
    · rw [List.getElem?_drop] at hk
      obtain ⟨g, o, h0, t0, t1, t2⟩ := hE (1 + k) r hk
      refine ⟨g, o + 3, ?_, ?_, ?_, ?_⟩
      · rw [h0]; simp [Addr.add]
      · rw [show o + 3 + k * 3 = o + (1 + k) * 3 by omega]; exact t0
      · rw [show o + 3 + k * 3 = o + (1 + k) * 3 by omega]; exact t1
      · rw [show o + 3 + k * 3 = o + (1 + k) * 3 by omega]; exact t2
set_option maxHeartbeats 4000000 in
theorem size_any (eo : Option Addr) (en ec : Nat) (E : List Er) (w : World) (HE : Hid (Edz w eo E)) (hn : E.length = en) (heb : en ≤ 140737488355328) :
    Calls Try.prog 22 #[.slice eo en ec] w fun e w' => e = .returned (.int .i64 (sz (E.map Er.d))) ∧ Below w.heap.size w w' := by
  have HN := Hid.mk' hn
  clear hn
  go_enter Try.func22, Try.ntmps22
  go_wp2_with fail
  go_loopg [3, 5, 8] en (fun m x3 x5 x8 wx => ∃ (i : Nat) (s : Int), x8 = .int .i64 (i : Int) ∧ x3 = .int .i64 s ∧ i + m = en ∧ Hid (s = sz ((E.map Er.d).take i)) ∧ Hid (Below w.heap.size w wx))
  case atStart => exact ⟨0, 0, rfl, rfl, by omega, rfl, Below.refl _ _⟩
  case round =>
    obtain ⟨i, s, rfl, rfl, him, HF, KB⟩ := hrel
    obtain ⟨go, hgo⟩ : ∃ g, g = gk - 1 := ⟨_, rfl⟩
    by_cases hi : i < en
    · have hi' : (i : Int) < (en : Int) := by omega
      have hi0 : (0 : Int) ≤ (i : Int) := by omega
      obtain ⟨r, hr⟩ : ∃ r, E[i]? = some r := ⟨_, List.getElem?_eq_getElem (by have := HN.out; omega)⟩
      obtain ⟨g, o, rfl, h3⟩ := HE.out.row.ed3 hr
      have hEt0 := HE.out.txs i r hr
      have h4 := h3.keep KB.out
      have hts : sz ((E.map Er.d).take (i + 1)) = IntKind.i64.wrap (sz ((E.map Er.d).take i) + ((r.n : Int) - (r.o : Int))) := by
        rw [map_take hr, sz_snoc]
        show IntKind.i64.wrap (_ + ((r.N.length : Int) - (r.O.length : Int))) = _
        rw [hEt0.t1.len, hEt0.t2.len]
      rw [← HF.out] at hts
      have b1 := hEt0.b1
      have b2 := hEt0.b2
      obtain ⟨ra, rp1, ro, rc1, rO, rp2, rn, rc2, rN⟩ := r
      dsimp only at h4 hts b1 b2
      have t0 := h4.e0
      have t1 := h4.e1
      have t2 := h4.e2
      obtain ⟨s2, hs2⟩ : ∃ s2, IntKind.i64.wrap (s + ((rn : Int) - (ro : Int))) = s2 := ⟨_, rfl⟩
      have HT : Hid (s2 = sz ((E.map Er.d).take (i + 1))) := by unfold Hid; rw [hts, hs2]
      have hw1 : IntKind.i64.wrap ((rn : Int) - (ro : Int)) = (rn : Int) - (ro : Int) := by rw [IntKind.wrap_i64]; omega
      have hw8 : IntKind.i64.wrap ((i : Int) + 1) = ((i + 1 : Nat) : Int) := by rw [IntKind.wrap_i64]; omega
      have BA := Hid.mk' (bT KB.out (bAlloc (Below.refl _ wr) (.cells #[.int .i64 ra, .slice rp1 ro rc1, .slice rp2 rn rc2] 38)))
      clear hr h3 h4 hEt0 hts b1 b2
      go_wp2
      go_roundg go
      case measure => omega
      case rel => exact ⟨i + 1, s2, by go_num, rfl, by omega, HT.out, BA.out⟩
    · have hi' : ¬ (i : Int) < (en : Int) := by omega
      have HF2 : Hid (s = sz (E.map Er.d)) := by
        have h1 := HF.out
        rw [List.take_of_length_le (by rw [List.length_map]; have := HN.out; omega)] at h1
        exact h1
      clear hgo HF
      go_wp2
      go_ret
      exact ⟨by rw [← HF2.out]; rfl, KB.out⟩
set_option maxHeartbeats 4000000 in
set_option linter.unusedSimpArgs false in
theorem rsize_any (eo : Option Addr) (en ec : Nat) (E : List Er) (w : World) (HE : Hid (Edz w eo E)) (hn : E.length = en) (heb : en ≤ 140737488355328) :
    Calls Try.prog 23 #[.slice eo en ec] w fun e w' => e = .returned (.int .i64 (sz (E.map Er.d))) ∧ Below w.heap.size w w' := by
  have HN := Hid.mk' hn
  clear hn
  go_enter Try.func23, Try.ntmps23
  go_wp2_with fail
  go_loopg [3, 4] en (fun m x3 x4 wx => ∃ (i : Nat) (s : Int), x4 = .int .i64 (i : Int) ∧ x3 = .int .i64 s ∧ i + m = en ∧ Hid (s = sz ((E.map Er.d).take i)) ∧ Hid (Below w.heap.size w wx))
  case atStart => exact ⟨0, 0, rfl, rfl, by omega, rfl, Below.refl _ _⟩
  case round =>
    obtain ⟨i, s, rfl, rfl, him, HF, KB⟩ := hrel
    obtain ⟨go, hgo⟩ : ∃ g, g = gk - 1 := ⟨_, rfl⟩
    by_cases hi : i < en
    · have hi' : (i : Int) < (en : Int) := by omega
      have hi0 : (0 : Int) ≤ (i : Int) := by omega
      obtain ⟨r, hr⟩ : ∃ r, E[i]? = some r := ⟨_, List.getElem?_eq_getElem (by have := HN.out; omega)⟩
      obtain ⟨g, o, rfl, h3⟩ := HE.out.row.ed3 hr
      have hEt0 := HE.out.txs i r hr
      have h4 := h3.keep KB.out.drew
      have hts : sz ((E.map Er.d).take (i + 1)) = IntKind.i64.wrap (sz ((E.map Er.d).take i) + ((r.n : Int) - (r.o : Int))) := by
        rw [map_take hr, sz_snoc]
        show IntKind.i64.wrap (_ + ((r.N.length : Int) - (r.O.length : Int))) = _
        rw [hEt0.t1.len, hEt0.t2.len]
      rw [← HF.out] at hts
      have b1 := hEt0.b1
      have b2 := hEt0.b2
      obtain ⟨ra, rp1, ro, rc1, rO, rp2, rn, rc2, rN⟩ := r
      dsimp only at h4 hts b1 b2
      have t1 := h4.e1
      have t2 := h4.e2
      obtain ⟨s2, hs2⟩ : ∃ s2, IntKind.i64.wrap (s + ((rn : Int) - (ro : Int))) = s2 := ⟨_, rfl⟩
      have HT : Hid (s2 = sz ((E.map Er.d).take (i + 1))) := by unfold Hid; rw [hts, hs2]
      have hw1 : IntKind.i64.wrap ((rn : Int) - (ro : Int)) = (rn : Int) - (ro : Int) := by rw [IntKind.wrap_i64]; omega
      have hw8 : IntKind.i64.wrap ((i : Int) + 1) = ((i + 1 : Nat) : Int) := by rw [IntKind.wrap_i64]; omega
      have LD : Hid (Below w.heap.size w wr.drew) := KB.out.drew
      clear hr h3 h4 hEt0 hts b1 b2 KB
      go_upto_region 5 with fail
      refine wp_region_held (S := fun w' => w' = wr.drew) (by kernel_rfl) ?_
      change wpAnyH _ _ _ _ _ _ _ _ (World.drew _)
      generalize wr.drew = V3 at *
      refine wpAnyH_take (i := 0) (v := .int .i64 s) rfl (by kernel_rfl) (by kernel_rfl) (by kernel_rfl) (fun _ _ _ h => h) (Yields.yieldsIf (Or.inl ⟨by rfl, fun w => by go_simp⟩)) rfl ?_
      try simp only [Act.put, List.getElem_toArray, List.getElem_cons_zero, List.getElem_cons_succ, List.setIfInBounds_toArray, List.set_cons_zero, List.set_cons_succ]
      refine wpAnyH_take (i := 1) (v := .slice (some ⟨g, o, none⟩) en ec) rfl (by kernel_rfl) (by kernel_rfl) (by kernel_rfl) (fun _ _ _ h => h) (Yields.yieldsIf (Or.inl ⟨by rfl, fun w => by go_simp⟩)) rfl ?_
      try simp only [Act.put, List.getElem_toArray, List.getElem_cons_zero, List.getElem_cons_succ, List.setIfInBounds_toArray, List.set_cons_zero, List.set_cons_succ]
      refine wpAnyH_take (i := 2) (v := .int .i64 (i : Int)) rfl (by kernel_rfl) (by kernel_rfl) (by kernel_rfl) (fun _ _ _ h => h) (Yields.yieldsIf (Or.inl ⟨by rfl, fun w => by go_simp⟩)) rfl ?_
      try simp only [Act.put, List.getElem_toArray, List.getElem_cons_zero, List.getElem_cons_succ, List.setIfInBounds_toArray, List.set_cons_zero, List.set_cons_succ]
      refine wpAnyH_take (i := 3) (v := .pointer (some ⟨g, o + i * 3, none⟩)) rfl (by kernel_rfl) (by kernel_rfl) (by kernel_rfl) (fun _ _ _ h => h) (Yields.yieldsIf (Or.inl ⟨by rfl, fun w => by go_simp⟩)) rfl ?_
      try simp only [Act.put, List.getElem_toArray, List.getElem_cons_zero, List.getElem_cons_succ, List.setIfInBounds_toArray, List.set_cons_zero, List.set_cons_succ]
      refine wpAnyH_take (i := 4) (v := .pointer (some ⟨g, o + i * 3 + 2, none⟩)) rfl (by kernel_rfl) (by kernel_rfl) (by kernel_rfl) (fun _ _ _ h => h) (Yields.yieldsIf (Or.inl ⟨by rfl, fun w => by go_simp⟩)) rfl ?_
      try simp only [Act.put, List.getElem_toArray, List.getElem_cons_zero, List.getElem_cons_succ, List.setIfInBounds_toArray, List.set_cons_zero, List.set_cons_succ]
      refine wpAnyH_take (i := 5) (v := .slice rp2 rn rc2) rfl (by kernel_rfl) (by kernel_rfl) (by kernel_rfl) (fun _ _ _ h => h) (Or.inl ⟨by rfl, fun w9 h9 => by subst h9; go_simp⟩) rfl ?_
      try simp only [Act.put, List.getElem_toArray, List.getElem_cons_zero, List.getElem_cons_succ, List.setIfInBounds_toArray, List.set_cons_zero, List.set_cons_succ]
      refine wpAnyH_take (i := 6) (v := .int .i64 ((rn : Nat) : Int)) rfl (by kernel_rfl) (by kernel_rfl) (by kernel_rfl) (fun _ _ _ h => h) (Yields.yieldsIf (Or.inl ⟨by rfl, fun w => by go_simp⟩)) rfl ?_
      try simp only [Act.put, List.getElem_toArray, List.getElem_cons_zero, List.getElem_cons_succ, List.setIfInBounds_toArray, List.set_cons_zero, List.set_cons_succ]
      refine wpAnyH_take (i := 7) (v := .slice (some ⟨g, o, none⟩) en ec) rfl (by kernel_rfl) (by kernel_rfl) (by kernel_rfl) (fun _ _ _ h => h) (Yields.yieldsIf (Or.inl ⟨by rfl, fun w => by go_simp⟩)) rfl ?_
      try simp only [Act.put, List.getElem_toArray, List.getElem_cons_zero, List.getElem_cons_succ, List.setIfInBounds_toArray, List.set_cons_zero, List.set_cons_succ]
      refine wpAnyH_take (i := 8) (v := .int .i64 (i : Int)) rfl (by kernel_rfl) (by kernel_rfl) (by kernel_rfl) (fun _ _ _ h => h) (Yields.yieldsIf (Or.inl ⟨by rfl, fun w => by go_simp⟩)) rfl ?_
      try simp only [Act.put, List.getElem_toArray, List.getElem_cons_zero, List.getElem_cons_succ, List.setIfInBounds_toArray, List.set_cons_zero, List.set_cons_succ]
      refine wpAnyH_take (i := 9) (v := .pointer (some ⟨g, o + i * 3, none⟩)) rfl (by kernel_rfl) (by kernel_rfl) (by kernel_rfl) (fun _ _ _ h => h) (Yields.yieldsIf (Or.inl ⟨by rfl, fun w => by go_simp⟩)) rfl ?_
      try simp only [Act.put, List.getElem_toArray, List.getElem_cons_zero, List.getElem_cons_succ, List.setIfInBounds_toArray, List.set_cons_zero, List.set_cons_succ]
      refine wpAnyH_take (i := 10) (v := .pointer (some ⟨g, o + i * 3 + 1, none⟩)) rfl (by kernel_rfl) (by kernel_rfl) (by kernel_rfl) (fun _ _ _ h => h) (Yields.yieldsIf (Or.inl ⟨by rfl, fun w => by go_simp⟩)) rfl ?_
      try simp only [Act.put, List.getElem_toArray, List.getElem_cons_zero, List.getElem_cons_succ, List.setIfInBounds_toArray, List.set_cons_zero, List.set_cons_succ]
      refine wpAnyH_take (i := 11) (v := .slice rp1 ro rc1) rfl (by kernel_rfl) (by kernel_rfl) (by kernel_rfl) (fun _ _ _ h => h) (Or.inl ⟨by rfl, fun w9 h9 => by subst h9; go_simp⟩) rfl ?_
      try simp only [Act.put, List.getElem_toArray, List.getElem_cons_zero, List.getElem_cons_succ, List.setIfInBounds_toArray, List.set_cons_zero, List.set_cons_succ]
      refine wpAnyH_take (i := 12) (v := .int .i64 ((ro : Nat) : Int)) rfl (by kernel_rfl) (by kernel_rfl) (by kernel_rfl) (fun _ _ _ h => h) (Yields.yieldsIf (Or.inl ⟨by rfl, fun w => by go_simp⟩)) rfl ?_
      try simp only [Act.put, List.getElem_toArray, List.getElem_cons_zero, List.getElem_cons_succ, List.setIfInBounds_toArray, List.set_cons_zero, List.set_cons_succ]
      refine wpAnyH_take (i := 13) (v := .int .i64 ((rn : Int) - (ro : Int))) rfl (by kernel_rfl) (by kernel_rfl) (by kernel_rfl) (fun _ _ _ h => h) (Yields.yieldsIf (Or.inl ⟨by rfl, fun w => by go_simp⟩)) rfl ?_
      try simp only [Act.put, List.getElem_toArray, List.getElem_cons_zero, List.getElem_cons_succ, List.setIfInBounds_toArray, List.set_cons_zero, List.set_cons_succ]
      refine wpAnyH_take (i := 14) (v := .int .i64 s2) rfl (by kernel_rfl) (by kernel_rfl) (by kernel_rfl) (fun _ _ _ h => h) (Yields.yieldsIf (Or.inl ⟨by rfl, fun w => by go_simp⟩)) rfl ?_
      try simp only [Act.put, List.getElem_toArray, List.getElem_cons_zero, List.getElem_cons_succ, List.setIfInBounds_toArray, List.set_cons_zero, List.set_cons_succ]
      refine wpAnyH_take (i := 15) (v := .int .i64 s2) rfl (by kernel_rfl) (by kernel_rfl) (by kernel_rfl) (fun _ _ _ h => h) (Yields.yieldsIf (Or.inl ⟨by rfl, fun w => by go_simp⟩)) rfl ?_
      try simp only [Act.put, List.getElem_toArray, List.getElem_cons_zero, List.getElem_cons_succ, List.setIfInBounds_toArray, List.set_cons_zero, List.set_cons_succ]
      refine wpAnyH_done (by kernel_rfl) ?_ _
      clear t1 t2
      go_wp2
      go_roundg go
      case measure => omega
      case rel => exact ⟨i + 1, s2, by go_num, rfl, by omega, HT.out, LD.out⟩
    · have hi' : ¬ (i : Int) < (en : Int) := by omega
      have HF2 : Hid (s = sz (E.map Er.d)) := by
        have h1 := HF.out
        rw [List.take_of_length_le (by rw [List.length_map]; have := HN.out; omega)] at h1
        exact h1
      clear hgo HF
      go_wp2
      go_ret
      exact ⟨by rw [← HF2.out]; rfl, KB.out⟩
set_option maxHeartbeats 4000000 in
theorem first_any (eo : Option Addr) (en ec : Nat) (E : List Er) (w : World) (HE : Hid (Edz w eo E)) (hn : E.length = en) (heb : en ≤ 140737488355328) (hc : en ≤ ec) :
    Calls Try.prog 24 #[.slice eo en ec] w fun e w' => e = .returned (.int .i64 (fst (E.map Er.d))) ∧ Below w.heap.size w w' := by
  have HN := Hid.mk' hn
  by_cases h0 : en = 0
  · subst h0
    have : E = [] := List.eq_nil_of_length_eq_zero hn
    subst this
    clear hn
    go_enter Try.func24, Try.ntmps24
    go_wp2
    go_ret
    exact ⟨rfl, Below.refl _ _⟩
  · have hz : ¬ ((en : Int) = 0) := by omega
    obtain ⟨a1, c1, hs1, hE1⟩ := sl_e (eo := eo) hn (by omega) hc
    have HE1 := Hid.mk' hE1
    obtain ⟨r0, hr0⟩ : ∃ r, E[0]? = some r := ⟨_, List.getElem?_eq_getElem (by omega)⟩
    obtain ⟨g0, o0, rfl, h30⟩ := HE.out.row.ed3 hr0
    have s0 := h30.e0
    rw [Nat.zero_mul, Nat.add_zero] at s0
    have hpos : (0 : Int) < (en : Int) := by omega
    obtain ⟨n1, hn1⟩ : ∃ n1, n1 = en - 1 := ⟨_, rfl⟩
    rw [← hn1] at hs1
    have HN1 := Hid.mk' hn1
    obtain ⟨A0, hA0⟩ : ∃ A0, A0 = r0.a := ⟨_, rfl⟩
    rw [← hA0] at s0
    have HA0 : Hid (A0 = fst ((E.map Er.d).take 1)) := by
      unfold Hid
      have := map_take hr0
      rw [Nat.zero_add, List.take_zero, List.nil_append] at this
      rw [this, hA0]; rfl
    have hb1 : n1 ≤ 140737488355328 := by omega
    clear hn h30 hE1 hn1 hA0 hr0
    go_enter Try.func24, Try.ntmps24
    go_wp2_with fail
    go_loopg [3, 5, 16] n1 (fun m x3 x5 x16 wx => ∃ (i : Nat) (s : Int), x16 = .int .i64 (i : Int) ∧ x3 = .int .i64 s ∧ i + m = n1 ∧ Hid (s = fst ((E.map Er.d).take (i + 1))) ∧ Hid (Below w.heap.size w wx))
    case atStart => exact ⟨0, A0, rfl, rfl, by omega, HA0.out, Below.refl _ _⟩
    case round =>
      obtain ⟨i, s, rfl, rfl, him, HF, KB⟩ := hrel
      obtain ⟨go, hgo⟩ : ∃ g, g = gk - 1 := ⟨_, rfl⟩
      by_cases hi : i < n1
      · have hi' : (i : Int) < (n1 : Int) := by omega
        have hi0 : (0 : Int) ≤ (i : Int) := by omega
        obtain ⟨r, hr⟩ : ∃ r, E[1 + i]? = some r := ⟨_, List.getElem?_eq_getElem (by have := HN.out; have := HN1.out; omega)⟩
        obtain ⟨g, o, rfl, h3⟩ := (HE1.out w HE.out.row).ed3 (k := i) (r := r) (by rw [List.getElem?_drop]; exact hr)
        have h4 := h3.keep KB.out
        have hts : fst ((E.map Er.d).take (i + 1 + 1)) = min s r.a := by
          rw [map_take (i := i + 1) (by rw [Nat.add_comm]; exact hr), fst_snoc (fun e => by
            have h9 := congrArg List.length e
            rw [List.length_take, List.length_map, List.length_nil] at h9
            have := HN.out; have := HN1.out
            omega), ← HF.out]
          rfl
        obtain ⟨ra, rp1, ro, rc1, rO, rp2, rn, rc2, rN⟩ := r
        dsimp only at h4 hts
        have t0 := h4.e0
        have t1 := h4.e1
        have t2 := h4.e2
        obtain ⟨s2, hs2⟩ : ∃ s2, min s ra = s2 := ⟨_, rfl⟩
        have HT : Hid (s2 = fst ((E.map Er.d).take (i + 1 + 1))) := by unfold Hid; rw [hts, hs2]
        have hw8 : IntKind.i64.wrap ((i : Int) + 1) = ((i + 1 : Nat) : Int) := by rw [IntKind.wrap_i64]; omega
        have BA := Hid.mk' (bT KB.out (bAlloc (Below.refl _ wr) (.cells #[.int .i64 ra, .slice rp1 ro rc1, .slice rp2 rn rc2] 38)))
        clear hr h3 h4 hts s0
        go_wp2
        go_roundg go
        case measure => omega
        case rel => exact ⟨i + 1, s2, by go_num, rfl, by omega, HT.out, BA.out⟩
      · have hi' : ¬ (i : Int) < (n1 : Int) := by omega
        have HF2 : Hid (s = fst (E.map Er.d)) := by
          have h1 := HF.out
          rw [List.take_of_length_le (by rw [List.length_map]; have := HN.out; have := HN1.out; omega)] at h1
          exact h1
        clear hgo HF
        go_wp2
        go_ret
        exact ⟨by rw [← HF2.out]; rfl, KB.out⟩
set_option maxHeartbeats 4000000 in
theorem rfirst_any (eo : Option Addr) (en ec : Nat) (E : List Er) (w : World) (HE : Hid (Edz w eo E)) (hn : E.length = en) (heb : en ≤ 140737488355328) :
    Calls Try.prog 25 #[.slice eo en ec] w fun e w' => e = .returned (.int .i64 (fst (E.map Er.d))) ∧ Below w.heap.size w w' := by
  have HN := Hid.mk' hn
  clear hn
  go_enter Try.func25, Try.ntmps25
  go_wp2_with fail
  go_loopg [3, 4] en (fun m x3 x4 wx => ∃ (i : Nat) (s : Int), x4 = .int .i64 (i : Int) ∧ x3 = .int .i64 s ∧ i + m = en ∧ Hid (s = fst ((E.map Er.d).take i)) ∧ Hid (Below w.heap.size w wx))
  case atStart => exact ⟨0, 0, rfl, rfl, by omega, rfl, Below.refl _ _⟩
  case round =>
    obtain ⟨i, s, rfl, rfl, him, HF, KB⟩ := hrel
    obtain ⟨go, hgo⟩ : ∃ g, g = gk - 1 := ⟨_, rfl⟩
    by_cases hi : i < en
    · have hi' : (i : Int) < (en : Int) := by omega
      have hi0 : (0 : Int) ≤ (i : Int) := by omega
      obtain ⟨r, hr⟩ : ∃ r, E[i]? = some r := ⟨_, List.getElem?_eq_getElem (by have := HN.out; omega)⟩
      obtain ⟨g, o, rfl, h3⟩ := HE.out.row.ed3 hr
      have h4 := h3.keep KB.out
      have hmt := map_take hr
      obtain ⟨ra, rp1, ro, rc1, rO, rp2, rn, rc2, rN⟩ := r
      dsimp only at h4
      have t0 := h4.e0
      have hw8 : IntKind.i64.wrap ((i : Int) + 1) = ((i + 1 : Nat) : Int) := by rw [IntKind.wrap_i64]; omega
      by_cases hz : i = 0
      · have HT : Hid (ra = fst ((E.map Er.d).take (i + 1))) := by unfold Hid; rw [hmt, hz]; rfl
        have hz' : ((i : Int) == 0) = true := by rw [hz]; rfl
        have hz2 : (i : Int) = 0 := by omega
        have t9 : wr.cell? ⟨g, o, none⟩ = some (.int .i64 ra) := by rw [hz] at t0; simpa using t0
        clear hr h3 h4 hmt t0
        subst hz
        go_wp2
        go_roundg go
        case measure => omega
        case rel => exact ⟨0 + 1, ra, by go_num, rfl, by omega, HT.out, KB.out⟩
      · have hz1 : ¬ (i : Int) = 0 := by omega
        have hz2 : ((i : Int) == 0) = false := by simpa using hz
        have hts : fst ((E.map Er.d).take (i + 1)) = min s ra := by
          rw [hmt, fst_snoc (fun e => by
            have h9 := congrArg List.length e
            rw [List.length_take, List.length_map, List.length_nil] at h9
            have := HN.out
            omega), ← HF.out]
          rfl
        by_cases hlt : ra < s
        · have HT : Hid (ra = fst ((E.map Er.d).take (i + 1))) := by unfold Hid; rw [hts]; omega
          clear hr h3 h4 hmt hts
          go_wp2
          go_roundg go
          case measure => omega
          case rel => exact ⟨i + 1, ra, by go_num, rfl, by omega, HT.out, KB.out⟩
        · have HT : Hid (s = fst ((E.map Er.d).take (i + 1))) := by unfold Hid; rw [hts]; omega
          clear hr h3 h4 hmt hts
          go_wp2
          go_roundg go
          case measure => omega
          case rel => exact ⟨i + 1, s, by go_num, rfl, by omega, HT.out, KB.out⟩
    · have hi' : ¬ (i : Int) < (en : Int) := by omega
      have HF2 : Hid (s = fst (E.map Er.d)) := by
        have h1 := HF.out
        rw [List.take_of_length_le (by rw [List.length_map]; have := HN.out; omega)] at h1
        exact h1
      clear hgo HF
      go_wp2
      go_ret
      exact ⟨by rw [← HF2.out]; rfl, KB.out⟩
end Go.Proofs.Ythklmdnamkjgmaa
