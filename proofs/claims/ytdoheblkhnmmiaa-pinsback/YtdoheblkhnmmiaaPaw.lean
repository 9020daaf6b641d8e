/- PinsParts, walked. -/
import Derived.Test.YtdoheblkhnmmiaaMvw
namespace Go.Proofs.Ytdoheblkhnmmiaa
open Go.RowKit Go.ChangeShapes Go.WideShapes Go.ChangeAt Go.Joins Go.Deep

set_option maxRecDepth 8000
/-- a list of edits that is nil has no room -/
theorem open_nil {H : Type} {enc : TypeId × Value → H} {W : World} {ao : Option Addr} {n c : Nat} {d : DataW H} {p : List MemPlace} (h : DataW.Trod enc Try.prog W 0 (fun _ => true) true 37 (.slice ao n c) d p) : ao = none → c = 0 := by
  obtain ⟨fuel, hf⟩ := h
  rcases open_slice Try.underlying37 hf with ⟨hcs, _⟩ | ⟨x, l, c, m, n, D, Pl, hcs, _⟩
  · simp [Value.cells] at hcs
    intro _; exact hcs.2.2
  · simp [Value.cells] at hcs
    intro h; rw [h] at hcs; cases hcs.1
theorem Edr.srv {W : World} {ao : Option Addr} {n c : Nat} {E : List Er} (h : Edr W ao E) (hn : E.length = n) (hc : ao = none → c = 0) : Srv W (.slice ao n c) n (ecs E) := by
  cases ao with
  | none =>
    cases E with
    | nil => subst hn; rw [hc rfl]; exact .inl ⟨rfl, rfl, rfl⟩
    | cons r E =>
      obtain ⟨g, o, h0, _⟩ := h 0 r rfl
      cases h0
  | some ad =>
    refine .inr ⟨ad, c, rfl, fun j t hj => ?_⟩
    have hl := (List.getElem?_eq_some_iff.1 hj).1
    rw [ecs_len] at hl
    obtain ⟨k, i, rfl, hi⟩ : ∃ k i, j = k * 3 + i ∧ i < 3 := ⟨j / 3, j % 3, by omega, by omega⟩
    obtain ⟨r, hr⟩ : ∃ r, E[k]? = some r := ⟨_, List.getElem?_eq_getElem (by omega)⟩
    obtain ⟨g, o, h0, h1, h2, h3⟩ := h k r hr
    obtain ⟨z1, z2, z3⟩ := ecs_at hr
    have e0 : ad = ⟨g, o, none⟩ := by simpa using h0
    subst e0
    rw [add_none, ← Nat.add_assoc]
    match i, hi, hj with
    | 0, _, hj => rw [Nat.add_zero, z1] at hj; cases hj; exact h1
    | 1, _, hj => rw [z2] at hj; cases hj; exact h2
    | 2, _, hj => rw [z3] at hj; cases hj; exact h3
theorem ecs_one (E : List Er) : ∀ u ∈ ecs E, u.oneCell' = true := by
  intro u hu
  obtain ⟨r, _, hr⟩ := List.mem_flatMap.1 hu
  exact er_one r u hr
theorem ecs_append (A C : List Er) : ecs (A ++ C) = ecs A ++ ecs C := by simp [ecs]
/-- a row of one's own reads as edits -/
theorem own_edr {W : World} {base n : Nat} {v : Value} {E : List Er} (h : W.ownsRow base 42 3 v n (ecs E)) : ∃ ao c, v = .slice ao n c ∧ Edr W ao E ∧ E.length = n := by
  have hl : E.length = n := by have := h.1; rw [ecs_len] at this; omega
  rcases h.2 with ⟨rfl, rfl⟩ | ⟨g, cap, cur, rfl, h1, h2, h3, h4, h5, h6⟩
  · have : E = [] := List.eq_nil_of_length_eq_zero hl
    subst this
    exact ⟨none, 0, rfl, fun k r hk => by simp at hk, rfl⟩
  · refine ⟨_, cap, rfl, fun k r hk => ?_, hl⟩
    have hk' := (List.getElem?_eq_some_iff.1 hk).1
    obtain ⟨z1, z2, z3⟩ := ecs_at hk
    have e : ∀ (j : Nat) (u : Value), j < 3 → (ecs E)[k * 3 + j]? = some u → W.cell? ⟨g, 0 + k * 3 + j, none⟩ = some u := fun j u hj hu => by
      rw [Nat.zero_add, h.cellAt (k * 3 + j) (by omega)]; exact hu
    exact ⟨g, 0, rfl, e 0 _ (by omega) z1, e 1 _ (by omega) z2, e 2 _ (by omega) z3⟩
/-- one mark behind edits -/
def mv1 (T : List (Int × Nat × Nat)) (x : Int) : Int := T.foldl (fun x t => bhd x t.1 t.2.1 t.2.2) x
theorem mvL_map (L : List Int) (T : List (Int × Nat × Nat)) : mvL L T = L.map (mv1 T) := by
  unfold mvL mv1
  induction T generalizing L with
  | nil => simp
  | cons t T ih => rw [List.foldl_cons, ih, shl, List.map_map]; rfl
theorem mvL_at {L : List Int} {T : List (Int × Nat × Nat)} {i : Nat} {x : Int} (h : L[i]? = some x) : (mvL L T)[i]? = some (mv1 T x) := by rw [mvL_map, List.getElem?_map, h]; rfl
theorem fld24 {X : List Int} (_hX : X.length = 27) {y : Int} (h : X[26]? = some y) (w : World) : (Instr.field 24 (.agg (mk X)) 1).run Try.prog w = .ok (.int .i64 y) w := by
  have he := mk_at h
  simp [Instr.field, run_underlying Try.underlying24, part, isAgg, asAgg, run_underlying Try.underlying3, he]
set_option maxHeartbeats 16000000 in
set_option linter.unusedSimpArgs false in
theorem pinsParts_walk (L : List Int) (ao1 : Option Addr) (n1 c1 : Nat) (E1 : List Er) (ao2 : Option Addr) (n2 c2 : Nat) (E2 : List Er) (w : World) (hL : L.length = 27) (HE1 : Hid (Edz w ao1 E1)) (hn1 : E1.length = n1) (hb1 : n1 ≤ 140737488351232) (HE2 : Hid (Edz w ao2 E2)) (hn2 : E2.length = n2) (hb2 : n2 ≤ 140737488351232) (hc1 : ao1 = none → c1 = 0) (hc2 : ao2 = none → c2 = 0) :
    Calls Try.prog 9 #[.agg (mk L), .slice ao1 n1 c1, .slice ao2 n2 c2] w fun e w' => e = .returned (.bool true) ∧ Below w.heap.size w w' := by
  have hz := z24
  have HN1 := Hid.mk' hn1
  have HN2 := Hid.mk' hn2
  have HC1 := Hid.mk' hc1
  have HC2 := Hid.mk' hc2
  obtain ⟨i8, hi8, hz8, hs8, hb8⟩ := info_parts info42
  generalize hW1 : w.alloc (.cells (mk L) 24) = W1
  have B1 : Hid (Blk W1 w.heap.size 24 (mk L)) := by subst hW1; exact Blk.new w 24 _
  have L1 : Hid (Below w.heap.size w W1) := by subst hW1; exact bAlloc (Below.refl _ _) _
  have CA := Hid.mk' (awake_any W1)
  clear hn1 hn2 hc1 hc2
  go_enter Try.func9, Try.ntmps9
  go_upto_region 1 with fail
  clear hW1
  go_wp2_with fail
  refine CA.out.mono ?_
  rintro e w1 ⟨rfl, hbb⟩
  have B2 := Hid.mk' (B1.out.keep hbb)
  have L2 := Hid.mk' (bT L1.out hbb)
  clear hbb CA B1 L1
  go_wp2_with fail
  refine (great_any ao1 n1 c1 E1 w1 (HE1.out.keep L2.out) HN1.out (by omega)).mono ?_
  rintro e w2 ⟨gb, rfl, hgs, hbb⟩
  have B3 := Hid.mk' (B2.out.keep hbb)
  have L3 := Hid.mk' (bT L2.out hbb)
  clear hbb B2 L2
  cases gb with
  | true =>
    clear hgs
    go_wp2
    go_ret
    exact ⟨rfl, L3.out⟩
  | false =>
  have HG1 := Hid.mk' (hgs rfl)
  clear hgs
  go_wp2_with fail
  refine (great_any ao2 n2 c2 E2 w2 (HE2.out.keep L3.out) HN2.out (by omega)).mono ?_
  rintro e w3 ⟨gb, rfl, hgs, hbb⟩
  have B4 := Hid.mk' (B3.out.keep hbb)
  have L4 := Hid.mk' (bT L3.out hbb)
  clear hbb B3 L3
  cases gb with
  | true =>
    clear hgs
    go_wp2
    go_ret
    exact ⟨rfl, L4.out⟩
  | false =>
  have HG2 := Hid.mk' (hgs rfl)
  have hs1 : n1 ≤ 1048576 := by have h1 := gsum_len E1; have h2 := HG1.out; have h3 := HN1.out; omega
  have hs2 : n2 ≤ 1048576 := by have h1 := gsum_len E2; have h2 := HG2.out; have h3 := HN2.out; omega
  clear hgs
  go_upto_region 5 with fail
  have LA := Hid.mk' (bT L4.out (bAlloc (Below.refl _ w3) (.cells #[] 42)))
  have OA : Hid ((w3.alloc (.cells #[] 42)).ownsRow w3.heap.size 42 3 (.slice (some ⟨w3.heap.size, 0, none⟩) 0 0) 0 []) := World.ownsRow_made w3 #[] 0 (Nat.le_refl _) (Nat.zero_le _) rfl
  go_wp2_with (at_builtin; refine append_srv rfl (.tmp 20) (.tmp 21) 37 rfl w3.heap.size 42 i8 _ 3 56 Try.underlying37 hi8 hz8 hs8 hb8 rfl (by decide) (.slice (some ⟨w3.heap.size, 0, none⟩) 0 0) 0 [] rfl OA.out (.slice ao1 n1 c1) n1 (ecs E1) rfl ((HE1.out.row.keep LA.out).srv HN1.out HC1.out) (by rw [ecs_len, HN1.out]) (ecs_one E1) (by unfold maxLen; omega) (by omega) (by simp) ?_)
  intro v4 w4 hown4 hgrow4 _
  have O4 : Hid (w4.ownsRow w3.heap.size 42 3 v4 n1 (ecs E1)) := by unfold Hid; simpa using hown4
  have hbb : Below w3.heap.size w3 w4 := ((Below.refl _ w3).alloc (Nat.le_refl _) _).grown hgrow4 (by simp) (by intro k hk; simp [Value.ownBlock] at hk; omega)
  have B5 := Hid.mk' (B4.out.keep hbb)
  have L5 := Hid.mk' (bT L4.out hbb)
  have HB4 := Hid.mk' hbb
  clear hown4 hgrow4 hbb OA LA
  go_wp2_with (at_builtin; refine append_srv rfl (.tmp 22) (.tmp 23) 37 rfl w3.heap.size 42 i8 _ 3 56 Try.underlying37 hi8 hz8 hs8 hb8 rfl (by decide) v4 n1 (ecs E1) rfl O4.out (.slice ao2 n2 c2) n2 (ecs E2) rfl ((HE2.out.row.keep L5.out).srv HN2.out HC2.out) (by rw [ecs_len, HN2.out]) (ecs_one E2) (by unfold maxLen; omega) (by omega) HB4.out.size ?_)
  intro v5 w5 hown5 hgrow5 _
  have O5 : Hid (w5.ownsRow w3.heap.size 42 3 v5 (n1 + n2) (ecs (E1 ++ E2))) := by unfold Hid; rw [ecs_append]; exact hown5
  have hbb : Below w3.heap.size w3 w5 := HB4.out.grown hgrow5 HB4.out.size (fun k hk => (O4.out.lt k hk).1)
  have B6 := Hid.mk' (B4.out.keep hbb)
  have L6 := Hid.mk' (bT L4.out hbb)
  obtain ⟨ao7, c7, rfl, hE7, hl7⟩ := own_edr O5.out
  have R6 := Hid.mk' hE7
  clear hown5 hgrow5 hbb O4 O5 B5 L5 HB4 B4 L4 hE7 hl7
  go_upto_region 6 with fail
  obtain ⟨T, hT⟩ : ∃ T, T = (E1 ++ E2).map Er.t := ⟨_, rfl⟩
  have HTT : Hid ((E1 ++ E2).map Er.t = T) := hT.symm
  have CMb := Hid.mk' (fun W (h : Edr W ao7 (E1 ++ E2)) => HTT.out ▸ move_any L ao7 (n1 + n2) c7 (E1 ++ E2) W hL h (by rw [List.length_append, HN1.out, HN2.out]) (by omega))
  have CM1 := Hid.mk' (fun W (h : Below w.heap.size w W) => move_any L ao1 n1 c1 E1 W hL (HE1.out.row.keep h) HN1.out (by omega))
  have hX1 : Hid ((mvL L (E1.map Er.t)).length = 27) := by unfold Hid; rw [mvL_len]; exact hL
  have HGT0 : Hid (mvL (mvL L (E1.map Er.t)) (E2.map Er.t) = mvL L T) := by unfold Hid; rw [hT, List.map_append, mvL_append]
  have CM2 := Hid.mk' (fun W (h : Below w.heap.size w W) => HGT0.out ▸ move_any (mvL L (E1.map Er.t)) ao2 n2 c2 E2 W hX1.out (HE2.out.row.keep h) HN2.out (by omega))
  have CM0 : Hid (∀ W, Calls Try.prog 21 #[.agg (mk L), .slice none 0 0] W fun e w' => e = .returned (.agg (mk L)) ∧ Below W.heap.size W w') := fun W => move_any L none 0 0 [] W hL (fun k r hk => by simp at hk) rfl (by omega)
  have hGt : (mvL L T).length = 27 := by rw [mvL_len]; exact hL
  obtain ⟨Gt, hGe⟩ : ∃ Gt, Gt = mvL L T := ⟨_, rfl⟩
  rw [← hGe] at hGt
  have CMB : Hid (∀ W, Edr W ao7 (E1 ++ E2) → Calls Try.prog 21 #[.agg (mk L), .slice ao7 (n1 + n2) c7] W fun e w' => e = .returned (.agg (mk Gt)) ∧ Below W.heap.size W w') := by rw [hGe]; exact CMb.out
  have CM2' : Hid (∀ W, Below w.heap.size w W → Calls Try.prog 21 #[.agg (mk (mvL L (E1.map Er.t))), .slice ao2 n2 c2] W fun e w' => e = .returned (.agg (mk Gt)) ∧ Below W.heap.size W w') := by rw [hGe]; exact CM2.out
  have HGT := Hid.mk' hGe
  clear CMb CM2 hT hGe HGT0
  generalize mvL L (E1.map Er.t) = X1 at *
  have CM2 := Hid.mk' CM2'.out
  clear CM2'
  have hnn := fun W => ne24 W Gt hGt
  have hn0 := fun W => ne24 W L hL
  go_wp2_with (first | refine wl_load24 (B := w.heap.size) (.tmp 3) rfl rfl rfl hL B6.out ?_ | fail)
  refine (CMB.out _ R6.out).mono ?_
  rintro e wa ⟨rfl, hbb⟩
  have B7 := Hid.mk' (B6.out.keep hbb)
  have R7 := Hid.mk' (R6.out.keep hbb)
  have L7 := Hid.mk' (bT L6.out hbb)
  clear hbb B6 R6 L6 CMB
  have BZ := Hid.mk' (Blk.new wa 24 (mk zm))
  obtain ⟨hBn, hbn⟩ := boxed24 (w := wa) hGt
  have B8 := Hid.mk' (B7.out.keep hbn)
  have R8 := Hid.mk' (R7.out.keep hbn)
  have L8 := Hid.mk' (bT L7.out hbn)
  have Y8 := Hid.mk' hBn
  clear hBn hbn B7 R7 L7
  go_upto_region 7 with (refine wl_store24 (B := wa.heap.size) (L := Gt) (.tmp 8) (.tmp 27) rfl rfl rfl rfl hGt (by rfl) BZ.out ?_)
  generalize put24 (wa.alloc (.cells (mk zm) 24)) wa.heap.size Gt = w6 at *
  generalize wa.heap.size = p at *
  clear BZ
  have KD : Hid (Blk w6.drew w.heap.size 24 (mk L)) := B8.out
  have YD : Hid (Blk w6.drew p 24 (mk Gt)) := Y8.out
  have RD : Hid (Edr w6.drew ao7 (E1 ++ E2)) := R8.out.keep (Below.refl _ _).drew
  have LD : Hid (Below w.heap.size w w6.drew) := L8.out.drew
  clear B8 Y8 R8 L8
  refine wp_region_held (S := fun w' => Blk w' w.heap.size 24 (mk L) ∧ Blk w' p 24 (mk Gt)) (by kernel_rfl) ?_
  change wpAnyH _ _ _ _ _ _ _ _ (World.drew _)
  generalize w6.drew = V3 at *
  refine wpAnyH_take (i := 0) (v := .agg (mk Gt)) rfl (by kernel_rfl) (by kernel_rfl) (by kernel_rfl) (fun _ _ _ h => h) (yi24 rfl (.tmp 8) rfl rfl hGt (fun _ h => h.2)) ⟨KD.out, YD.out⟩ ?_
  try simp only [Act.put, List.getElem_toArray, List.getElem_cons_zero, List.getElem_cons_succ, List.setIfInBounds_toArray, List.set_cons_zero, List.set_cons_succ]
  refine wpAnyH_take (i := 1) (v := .agg (mk L)) rfl (by kernel_rfl) (by kernel_rfl) (by kernel_rfl) (fun _ _ _ h => h) (yi24 rfl (.tmp 3) rfl rfl hL (fun _ h => h.1)) ⟨KD.out, YD.out⟩ ?_
  try simp only [Act.put, List.getElem_toArray, List.getElem_cons_zero, List.getElem_cons_succ, List.setIfInBounds_toArray, List.set_cons_zero, List.set_cons_succ]
  refine wpAnyH_take (i := 2) (v := .slice ao1 n1 c1) rfl (by kernel_rfl) (by kernel_rfl) (by kernel_rfl) (fun _ _ _ h => h) (Yields.yieldsIf (Or.inl ⟨by rfl, fun w => by go_simp⟩)) ⟨KD.out, YD.out⟩ ?_
  try simp only [Act.put, List.getElem_toArray, List.getElem_cons_zero, List.getElem_cons_succ, List.setIfInBounds_toArray, List.set_cons_zero, List.set_cons_succ]
  refine wpAnyH_take (i := 4) (v := .slice ao2 n2 c2) rfl (by kernel_rfl) (by kernel_rfl) (by kernel_rfl) (fun _ _ _ h => h) (Yields.yieldsIf (Or.inl ⟨by rfl, fun w => by go_simp⟩)) ⟨KD.out, YD.out⟩ ?_
  try simp only [Act.put, List.getElem_toArray, List.getElem_cons_zero, List.getElem_cons_succ, List.setIfInBounds_toArray, List.set_cons_zero, List.set_cons_succ]
  refine wpAnyH_all (rs := [3]) (by kernel_rfl) (by simp) (AllH.cons rfl (fun K hK => ?_) AllH.nil)
  go_simp
  refine (CM1.out V3 LD.out).mono ?_
  rintro e w7 ⟨rfl, hb9⟩
  have K7 := Hid.mk' (KD.out.keep hb9)
  have Y7 := Hid.mk' (YD.out.keep hb9)
  have R7 := Hid.mk' (RD.out.keep hb9)
  have L7 := Hid.mk' (bT LD.out hb9)
  clear hb9
  dsimp only
  refine hK _ _ ⟨⟨K7.out, Y7.out⟩, ?_⟩
  clear hK K
  try simp only [Act.put, List.getElem_toArray, List.getElem_cons_zero, List.getElem_cons_succ, List.setIfInBounds_toArray, List.set_cons_zero, List.set_cons_succ]
  refine wpAnyH_all (rs := [5]) (by kernel_rfl) (by simp) (AllH.cons rfl (fun K hK => ?_) AllH.nil)
  go_simp
  refine (CM2.out w7 L7.out).mono ?_
  rintro e w8 ⟨rfl, hb9⟩
  have K8 := Hid.mk' (K7.out.keep hb9)
  have Y8 := Hid.mk' (Y7.out.keep hb9)
  have R8 := Hid.mk' (R7.out.keep hb9)
  have L8 := Hid.mk' (bT L7.out hb9)
  clear hb9
  dsimp only
  refine hK _ _ ⟨⟨K8.out, Y8.out⟩, ?_⟩
  clear hK K
  try simp only [Act.put, List.getElem_toArray, List.getElem_cons_zero, List.getElem_cons_succ, List.setIfInBounds_toArray, List.set_cons_zero, List.set_cons_succ]
  refine wpAnyH_take (i := 6) (v := .bool false) rfl (by kernel_rfl) (by kernel_rfl) (by kernel_rfl) (fun _ _ _ h => h) (Yields.yieldsIf (Or.inl ⟨by rfl, fun w => by go_simp⟩)) ⟨K8.out, Y8.out⟩ ?_
  try simp only [Act.put, List.getElem_toArray, List.getElem_cons_zero, List.getElem_cons_succ, List.setIfInBounds_toArray, List.set_cons_zero, List.set_cons_succ]
  refine wpAnyH_take (i := 7) (v := .bool false) rfl (by kernel_rfl) (by kernel_rfl) (by kernel_rfl) (fun _ _ _ h => h) (Yields.yieldsIf (Or.inl ⟨by rfl, fun w => by go_simp⟩)) ⟨K8.out, Y8.out⟩ ?_
  try simp only [Act.put, List.getElem_toArray, List.getElem_cons_zero, List.getElem_cons_succ, List.setIfInBounds_toArray, List.set_cons_zero, List.set_cons_succ]
  refine wpAnyH_take (i := 8) (v := .agg (mk L)) rfl (by kernel_rfl) (by kernel_rfl) (by kernel_rfl) (fun _ _ _ h => h) (yi24 rfl (.tmp 3) rfl rfl hL (fun _ h => h.1)) ⟨K8.out, Y8.out⟩ ?_
  try simp only [Act.put, List.getElem_toArray, List.getElem_cons_zero, List.getElem_cons_succ, List.setIfInBounds_toArray, List.set_cons_zero, List.set_cons_succ]
  refine wpAnyH_take (i := 10) (v := .agg (mk L)) rfl (by kernel_rfl) (by kernel_rfl) (by kernel_rfl) (fun _ _ _ h => h) (yi24 rfl (.tmp 3) rfl rfl hL (fun _ h => h.1)) ⟨K8.out, Y8.out⟩ ?_
  try simp only [Act.put, List.getElem_toArray, List.getElem_cons_zero, List.getElem_cons_succ, List.setIfInBounds_toArray, List.set_cons_zero, List.set_cons_succ]
  refine wpAnyH_all (rs := [9]) (by kernel_rfl) (by simp) (AllH.cons rfl (fun K hK => ?_) AllH.nil)
  go_simp
  refine (CM0.out w8).mono ?_
  rintro e w9 ⟨rfl, hb9⟩
  have K9 := Hid.mk' (K8.out.keep hb9)
  have Y9 := Hid.mk' (Y8.out.keep hb9)
  have R9 := Hid.mk' (R8.out.keep hb9)
  have L9 := Hid.mk' (bT L8.out hb9)
  clear hb9
  dsimp only
  refine hK _ _ ⟨⟨K9.out, Y9.out⟩, ?_⟩
  clear hK K
  try simp only [Act.put, List.getElem_toArray, List.getElem_cons_zero, List.getElem_cons_succ, List.setIfInBounds_toArray, List.set_cons_zero, List.set_cons_succ]
  refine wpAnyH_take (i := 11) (v := .bool false) rfl (by kernel_rfl) (by kernel_rfl) (by kernel_rfl) (fun _ _ _ h => h) (Yields.yieldsIf (Or.inl ⟨by rfl, fun w => by go_simp⟩)) ⟨K9.out, Y9.out⟩ ?_
  try simp only [Act.put, List.getElem_toArray, List.getElem_cons_zero, List.getElem_cons_succ, List.setIfInBounds_toArray, List.set_cons_zero, List.set_cons_succ]
  refine wpAnyH_take (i := 12) (v := .bool false) rfl (by kernel_rfl) (by kernel_rfl) (by kernel_rfl) (fun _ _ _ h => h) (Yields.yieldsIf (Or.inl ⟨by rfl, fun w => by go_simp⟩)) ⟨K9.out, Y9.out⟩ ?_
  try simp only [Act.put, List.getElem_toArray, List.getElem_cons_zero, List.getElem_cons_succ, List.setIfInBounds_toArray, List.set_cons_zero, List.set_cons_succ]
  refine wpAnyH_done (by kernel_rfl) ?_ _
  have K9 := Hid.mk' K9.out
  have Y9 := Hid.mk' Y9.out
  have R9 := Hid.mk' R9.out
  have L9 := Hid.mk' L9.out
  clear CM0 CM1 CM2
  obtain ⟨M, lq, hLM, hM⟩ := parts24 hL
  have HLM := Hid.mk' hLM
  clear hLM
  go_upto_region 9 with fail
  go_wp2_with (refine wl_load22 (B := w.heap.size) (.tmp 41) rfl rfl rfl M lq hM (HLM.out ▸ K9.out) ?_)
  clear hnn hn0
  go_loopg [9, 10, 11, 43] 26 (fun m x9 x10 x11 x43 wx => ∃ i : Nat, x43 = .int .i64 (i : Int) ∧ i + m = 26 ∧ Hid (Blk wx w.heap.size 24 (mk L)) ∧ Hid (Blk wx p 24 (mk Gt)) ∧ Hid (Edr wx ao7 (E1 ++ E2)) ∧ Hid (Below w.heap.size w wx))
  case atStart => exact ⟨0, rfl, rfl, K9.out, Y9.out, R9.out, L9.out⟩
  case round =>
    obtain ⟨i, rfl, him, K1, K2, K3, KB⟩ := hrel
    clear K9 Y9 R9 L9
    by_cases hi : i < 26
    · have hi' : (i : Int) < 26 := by omega
      have hi0 : (0 : Int) ≤ (i : Int) := by omega
      obtain ⟨x, hx⟩ : ∃ x, M[i]? = some x := ⟨_, List.getElem?_eq_getElem (by omega)⟩
      have hxi := ix22 hM hx
      have HX : Hid (L[i]? = some x) := by unfold Hid; rw [HLM.out, List.getElem?_append_left (by omega)]; exact hx
      have HGi : Hid (Gt[i]? = some (mv1 T x)) := by unfold Hid; rw [HGT.out]; exact mvL_at HX.out
      clear hx
      go_upto_region 12 with fail
      have CN := Hid.mk' (none_any wr)
      obtain ⟨O, hO⟩ : ∃ O, O = nm := ⟨_, rfl⟩
      have hOl : O.length = 27 := by rw [hO]; rfl
      rw [← hO] at CN
      go_wp2_with fail
      refine CN.out.mono ?_
      rintro e w5 ⟨rfl, hb5⟩
      have J1 := Hid.mk' (K1.out.keep hb5)
      have J2 := Hid.mk' (K2.out.keep hb5)
      have J3 := Hid.mk' (K3.out.keep hb5)
      have JB := Hid.mk' (bT KB.out hb5)
      clear hb5 K1 K2 K3 KB CN hO
      have BZ := Hid.mk' (Blk.new w5 24 (mk zm))
      obtain ⟨hBn, hbn⟩ := boxed24 (w := w5) hOl
      have G1 := Hid.mk' (J1.out.keep hbn)
      have G2 := Hid.mk' (J2.out.keep hbn)
      have G3 := Hid.mk' (J3.out.keep hbn)
      have GB := Hid.mk' (bT JB.out hbn)
      have GO := Hid.mk' hBn
      have HQ : Hid (w.heap.size < w5.heap.size ∧ p < w5.heap.size) := ⟨J1.out.lt, J2.out.lt⟩
      clear hBn hbn J1 J2
      go_upto_region 13 with (refine wl_store24 (B := w5.heap.size) (L := O) (.tmp 11) (.tmp 47) rfl rfl rfl rfl hOl (by rfl) BZ.out ?_)
      have GE : Hid (Edr (put24 (w5.alloc (.cells (mk zm) 24)) w5.heap.size O) ao7 (E1 ++ E2)) := G3.out
      have HRB : Hid (∀ g o, ao7 = some ⟨g, o, none⟩ → E1 ++ E2 ≠ [] → g < w5.heap.size) := fun g o hg hne => by
        obtain ⟨r, hr⟩ : ∃ r, (E1 ++ E2)[0]? = some r := ⟨_, List.getElem?_eq_getElem (List.length_pos_iff.2 hne)⟩
        obtain ⟨g', o', e', h1, _⟩ := J3.out 0 r hr
        rw [hg] at e'; cases e'
        exact lt_of_cell h1
      generalize put24 (w5.alloc (.cells (mk zm) 24)) w5.heap.size O = w7 at *
      generalize w5.heap.size = q at *
      clear BZ J3 JB G3
      obtain ⟨y, hy⟩ : ∃ y, O[26]? = some y := ⟨_, List.getElem?_eq_getElem (by omega)⟩
      have c26 : w7.cell? ⟨q, 26, none⟩ = some (.int .i64 y) := GO.out.mkAt hy
      have f26 := GO.out.frozen 26
      have hOn : Hid ((O.set 26 x).length = 27) := by unfold Hid; simpa using hOl
      have HO26 : Hid ((O.set 26 x)[26]? = some x) := by unfold Hid; rw [List.getElem?_set_self (by omega)]
      have hgr := grown_set w7 q 26 (.int .i64 x)
      have I1 := Hid.mk' (G1.out.off (j := 26) (B := q) (by have := HQ.out; omega) (.int .i64 x))
      have I2 := Hid.mk' (G2.out.off (j := 26) (B := q) (by have := HQ.out; omega) (.int .i64 x))
      have IO := Hid.mk' (GO.out.mkSet (k := 26) x)
      have IB : Hid (Below w.heap.size w (w7.setCell ⟨q, 26, none⟩ (.int .i64 x))) := GB.out.setCell (show w.heap.size ≤ q by have := HQ.out; omega) _
      have IE : Hid (Edr (w7.setCell ⟨q, 26, none⟩ (.int .i64 x)) ao7 (E1 ++ E2)) := fun k r hk => by
        obtain ⟨g, o, h0, h1, h2, h3⟩ := GE.out k r hk
        have hg := HRB.out g o h0 (fun h => by rw [h] at hk; simp at hk)
        have hbk := hgr.block g (lt_of_cell h1) (by simp; omega)
        exact ⟨g, o, h0, by rw [World.cell?_of_block hbk]; exact h1, by rw [World.cell?_of_block hbk]; exact h2, by rw [World.cell?_of_block hbk]; exact h3⟩
      have HM26 : Hid ((mvL (O.set 26 x) T)[26]? = some (mv1 T x)) := mvL_at HO26.out
      have hMl : Hid ((mvL (O.set 26 x) T).length = 27) := by unfold Hid; rw [mvL_len]; exact hOn.out
      have CM := Hid.mk' (fun W (h : Edr W ao7 (E1 ++ E2)) => HTT.out ▸ move_any (O.set 26 x) ao7 (n1 + n2) c7 (E1 ++ E2) W hOn.out h (by rw [List.length_append, HN1.out, HN2.out]) (by omega))
      generalize mvL (O.set 26 x) T = Mo at *
      generalize O.set 26 x = On at *
      have hfl := fun W => fld24 hMl.out HM26.out W
      clear GO G1 G2 GB GE hy hgr
      go_upto_region 14 with fail
      generalize w7.setCell ⟨q, 26, none⟩ (.int .i64 x) = w8 at *
      clear c26 f26
      have KD : Hid (Blk w8.drew q 24 (mk On)) := IO.out
      have YD : Hid (Blk w8.drew p 24 (mk Gt)) := I2.out
      have GD : Hid (Blk w8.drew w.heap.size 24 (mk L)) := I1.out
      have RD : Hid (Edr w8.drew ao7 (E1 ++ E2)) := IE.out.keep (Below.refl _ _).drew
      have LD : Hid (Below w.heap.size w w8.drew) := IB.out.drew
      generalize mv1 T x = mx at *
      clear IO I1 I2 IE IB
      refine wp_region_held (S := fun w' => Blk w' q 24 (mk On) ∧ Blk w' p 24 (mk Gt)) (by kernel_rfl) ?_
      change wpAnyH _ _ _ _ _ _ _ _ (World.drew _)
      generalize w8.drew = V3 at *
      refine wpAnyH_take (i := 0) (v := .agg (mk On)) rfl (by kernel_rfl) (by kernel_rfl) (by kernel_rfl) (fun _ _ _ h => h) (yi24 rfl (.tmp 11) rfl rfl hOn.out (fun _ h => h.1)) ⟨KD.out, YD.out⟩ ?_
      try simp only [Act.put, List.getElem_toArray, List.getElem_cons_zero, List.getElem_cons_succ, List.setIfInBounds_toArray, List.set_cons_zero, List.set_cons_succ]
      refine wpAnyH_take (i := 1) (v := .slice ao7 (n1 + n2) c7) rfl (by kernel_rfl) (by kernel_rfl) (by kernel_rfl) (fun _ _ _ h => h) (Yields.yieldsIf (Or.inl ⟨by rfl, fun w => by go_simp⟩)) ⟨KD.out, YD.out⟩ ?_
      try simp only [Act.put, List.getElem_toArray, List.getElem_cons_zero, List.getElem_cons_succ, List.setIfInBounds_toArray, List.set_cons_zero, List.set_cons_succ]
      refine wpAnyH_take (i := 4) (v := .int .i64 (i : Int)) rfl (by kernel_rfl) (by kernel_rfl) (by kernel_rfl) (fun _ _ _ h => h) (Yields.yieldsIf (Or.inl ⟨by rfl, fun w => by go_simp⟩)) ⟨KD.out, YD.out⟩ ?_
      try simp only [Act.put, List.getElem_toArray, List.getElem_cons_zero, List.getElem_cons_succ, List.setIfInBounds_toArray, List.set_cons_zero, List.set_cons_succ]
      refine wpAnyH_take (i := 5) (v := .pointer (some ⟨p, 0, none⟩)) rfl (by kernel_rfl) (by kernel_rfl) (by kernel_rfl) (fun _ _ _ h => h) (Yields.yieldsIf (Or.inl ⟨by rfl, fun w => by go_simp⟩)) ⟨KD.out, YD.out⟩ ?_
      try simp only [Act.put, List.getElem_toArray, List.getElem_cons_zero, List.getElem_cons_succ, List.setIfInBounds_toArray, List.set_cons_zero, List.set_cons_succ]
      refine wpAnyH_take (i := 6) (v := .pointer (some ⟨p, i, none⟩)) rfl (by kernel_rfl) (by kernel_rfl) (by kernel_rfl) (fun _ _ _ h => h) (Yields.yieldsIf (Or.inl ⟨by rfl, fun w => by go_simp⟩)) ⟨KD.out, YD.out⟩ ?_
      try simp only [Act.put, List.getElem_toArray, List.getElem_cons_zero, List.getElem_cons_succ, List.setIfInBounds_toArray, List.set_cons_zero, List.set_cons_succ]
      refine wpAnyH_take (i := 7) (v := .int .i64 (mx)) rfl (by kernel_rfl) (by kernel_rfl) (by kernel_rfl) (fun _ _ _ h => h) (Or.inl ⟨by rfl, fun w9 h9 => by have h5 := h9.2.mkAt HGi.out; go_simp⟩) ⟨KD.out, YD.out⟩ ?_
      try simp only [Act.put, List.getElem_toArray, List.getElem_cons_zero, List.getElem_cons_succ, List.setIfInBounds_toArray, List.set_cons_zero, List.set_cons_succ]
      refine wpAnyH_all (rs := [2]) (by kernel_rfl) (by simp) (AllH.cons rfl (fun K hK => ?_) AllH.nil)
      go_simp
      refine (CM.out V3 RD.out).mono ?_
      rintro e w9 ⟨rfl, hb9⟩
      have K9 := Hid.mk' (KD.out.keep hb9)
      have Y9 := Hid.mk' (YD.out.keep hb9)
      have R9 := Hid.mk' (RD.out.keep hb9)
      have G9 := Hid.mk' (GD.out.keep hb9)
      have L9 := Hid.mk' (bT LD.out hb9)
      clear hb9
      dsimp only
      refine hK _ _ ⟨⟨K9.out, Y9.out⟩, ?_⟩
      clear hK K
      try simp only [Act.put, List.getElem_toArray, List.getElem_cons_zero, List.getElem_cons_succ, List.setIfInBounds_toArray, List.set_cons_zero, List.set_cons_succ]
      refine wpAnyH_take (i := 3) (v := .int .i64 (mx)) rfl (by kernel_rfl) (by kernel_rfl) (by kernel_rfl) (fun _ _ _ h => h) (Yields.yieldsIf (Or.inl ⟨by rfl, fun w => by go_simp⟩)) ⟨K9.out, Y9.out⟩ ?_
      try simp only [Act.put, List.getElem_toArray, List.getElem_cons_zero, List.getElem_cons_succ, List.setIfInBounds_toArray, List.set_cons_zero, List.set_cons_succ]
      refine wpAnyH_take (i := 8) (v := .bool false) rfl (by kernel_rfl) (by kernel_rfl) (by kernel_rfl) (fun _ _ _ h => h) (Yields.yieldsIf (Or.inl ⟨by rfl, fun w => by go_simp⟩)) ⟨K9.out, Y9.out⟩ ?_
      try simp only [Act.put, List.getElem_toArray, List.getElem_cons_zero, List.getElem_cons_succ, List.setIfInBounds_toArray, List.set_cons_zero, List.set_cons_succ]
      refine wpAnyH_done (by kernel_rfl) ?_ _
      go_wp2
      go_roundg (26 - (i + 1))
      case measure => omega
      case rel => exact ⟨i + 1, by go_num, by omega, G9.out, Y9.out, R9.out, L9.out⟩
    · have hi' : ¬ (i : Int) < 26 := by omega
      go_wp2
      go_ret
      exact ⟨rfl, KB.out⟩
end Go.Proofs.Ytdoheblkhnmmiaa
