/- ChangeTwo, walked. -/
import Derived.Test.YthklmdnamkjgmaaPu2
namespace Go.Proofs.Ythklmdnamkjgmaa
open Go.RowKit

set_option maxRecDepth 8000
/-- append of a list of edits to a list of one's own -/
theorem app_es {w : World} (base : Nat) (v : Value) (n : Nat) (xs : List Value) (hown : w.ownsRow base 38 3 v n xs) (eo : Option Addr) (en ec : Nat) (E : List Er) (hE : Edr w eo E) (hn : E.length = en) (hc : eo = none → ec = 0) (hb : (n + en) * 56 ≤ 140737488355328) (hbase : base ≤ w.heap.size) :
    ∃ v' w', (∀ ty, (Builtin.append_ #[23, 23] ty #[v, .slice eo en ec]).run Try.prog w = .ok v' w') ∧ w'.ownsRow base 38 3 v' (n + en) (xs ++ ecs E) ∧ w.grownBy w' v.ownBlock ∧ (v'.ownBlock = v.ownBlock ∨ ∃ q, v'.ownBlock = some q ∧ w.heap.size ≤ q) := by
  obtain ⟨i8, hi8, hz8, hs8, hb8⟩ := info_parts info38
  rcases hE.srv hn hc with ⟨hu, h0, h2⟩ | ⟨ad, cc, hu, hcell⟩
  · simp only [Value.slice.injEq] at hu
    obtain ⟨rfl, rfl, rfl⟩ := hu
    rw [h2]
    exact ⟨v, w, fun ty => run_append_owned_none (P := Try.prog) (w := w) base 23 ty 38 i8 3 Try.underlying23 hi8 v n xs hown, by simpa using hown, ⟨rfl, rfl, rfl, Nat.le_refl _, fun _ _ _ => rfl⟩, .inl rfl⟩
  · obtain ⟨v', w', hr, h2, h3, h4, h5⟩ := run_append_own_at (P := Try.prog) w base 23 23 38 i8 _ 3 56 Try.underlying23 hi8 hz8 hs8 hb8 rfl (by decide) v n xs hown ad en cc (ecs E) (by rw [ecs_len, hn]) hcell (ecs_one E) (by unfold maxLen; omega) (by omega) hbase
    rw [← hu] at hr
    refine ⟨v', w', fun ty => hr, h2, h3, ?_⟩
    rcases h5 with e | e
    · exact .inl e
    · exact .inr ⟨_, e, Nat.le_refl _⟩
theorem osum_app (A B : List Ed) : osum (A ++ B) = osum A + osum B := by simp [osum]
set_option maxHeartbeats 16000000 in
set_option linter.unusedSimpArgs false in
theorem changeTwo_walk (ao : Option Addr) (n c : Nat) (T : List UInt8) (eo : Option Addr) (en ec : Nat) (E : List Er) (fo : Option Addr) (fn fc : Nat) (F : List Er) (w : World) (hT : Hid (Tx w ao n c T)) (HE : Hid (Edz w eo E)) (HF : Hid (Edz w fo F)) (hn : E.length = en) (hfn : F.length = fn) (hec : eo = none → ec = 0) (hfc : fo = none → fc = 0) (hb : n + nsum (E.map Er.d) + osum (E.map Er.d) + nsum (F.map Er.d) + osum (F.map Er.d) ≤ 1048576) (heb : en + fn ≤ 1048576) :
    Calls Try.prog 8 #[.agg #[.slice ao n c, .slice eo en ec, .slice fo fn fc]] w fun e w' => e = .returned (.bool true) ∧ Below w.heap.size w w' := by
  have HN := Hid.mk' hn
  have HFN := Hid.mk' hfn
  have HTl := Hid.mk' hT.out.len
  have hnb : n ≤ 1048576 := by omega
  have HMA : Hid (Mod T (E.map Er.d)) := mod_of (by rw [hT.out.len]; omega)
  have HMF : Hid (∀ U : List UInt8, U.length ≤ n + nsum (E.map Er.d) → Mod U (F.map Er.d)) := fun U hU => mod_of (by omega)
  have HMT : Hid (Mod T ((E ++ F).map Er.d)) := mod_of (by rw [hT.out.len, List.map_append, nsum_app]; omega)
  have HUB : Hid (∀ U, app T (E.map Er.d) = some U → U.length ≤ n + nsum (E.map Er.d)) := fun U hU => by
    have h1 := app_len hU
    rw [hT.out.len] at h1
    omega
  have HVB : Hid (∀ U V, U.length ≤ n + nsum (E.map Er.d) → app U (F.map Er.d) = some V → V.length ≤ 1048576) := fun U V hU hV => by
    have h1 := app_len hV
    omega
  have HBD : Hid (n + nsum (E.map Er.d) ≤ 1048576) := by unfold Hid; omega
  obtain ⟨S1, hS1⟩ : ∃ S, S = sz (E.map Er.d) := ⟨_, rfl⟩
  obtain ⟨S2, hS2⟩ : ∃ S, S = sz (F.map Er.d) := ⟨_, rfl⟩
  obtain ⟨S3, hS3⟩ : ∃ S, S = sz ((E ++ F).map Er.d) := ⟨_, rfl⟩
  have hadd : IntKind.i64.wrap (S1 + S2) = S3 := by
    rw [hS1, hS2, hS3, sz_eq _ (by omega), sz_eq (F.map Er.d) (by omega), sz_eq ((E ++ F).map Er.d) (by rw [List.map_append, nsum_app, osum_app]; omega), List.map_append, nsum_app, osum_app, IntKind.wrap_i64]
    omega
  have HS1 := Hid.mk' hS1
  have HS2 := Hid.mk' hS2
  have HS3 := Hid.mk' hS3
  have HEC := Hid.mk' hec
  have HFC := Hid.mk' hfc
  clear hn hfn hb hS1 hS2 hS3 hec hfc
  generalize hW0 : w.alloc (.cells #[.slice ao n c, .slice eo en ec, .slice fo fn fc] 41) = W0
  obtain ⟨q, hq⟩ : ∃ q, q = w.heap.size := ⟨_, rfl⟩
  have K0 : Hid (Blk W0 q 41 #[.slice ao n c, .slice eo en ec, .slice fo fn fc]) := by subst hW0 hq; exact Blk.new w 41 _
  have L0 : Hid (Below w.heap.size w W0) := by subst hW0; exact bAlloc (Below.refl _ _) _
  have hqr : w.heap.size = q := hq.symm
  have HQ := Hid.mk' hq
  clear hq
  go_enter Try.func8, Try.ntmps8
  go_upto_region 1 with fail
  clear hW0 hqr
  go_wp2_with fail
  refine (alive_any W0).mono ?_
  rintro e w1 ⟨rfl, hb⟩
  have K1 : Hid (Blk w1.drew q 41 #[.slice ao n c, .slice eo en ec, .slice fo fn fc]) := K0.out.keep hb.drew
  have L1 : Hid (Below w.heap.size w w1.drew) := (bT L0.out hb).drew
  clear hb K0 L0
  dsimp only
  go_upto_region 3 with fail
  refine wp_region_held (S := fun w' => Blk w' q 41 #[.slice ao n c, .slice eo en ec, .slice fo fn fc]) (by kernel_rfl) ?_
  change wpAnyH _ _ _ _ _ _ _ _ (World.drew _)
  generalize w1.drew = V1 at *
  refine wpAnyH_take (i := 1) (v := .pointer (some ⟨q, 1, none⟩)) rfl (by kernel_rfl) (by kernel_rfl) (by kernel_rfl) (fun _ _ _ h => h) (Yields.yieldsIf (Or.inl ⟨by rfl, fun w => by go_simp⟩)) K1.out ?_
  try simp only [Act.put, List.getElem_toArray, List.getElem_cons_zero, List.getElem_cons_succ, List.setIfInBounds_toArray, List.set_cons_zero, List.set_cons_succ]
  refine wpAnyH_take (i := 2) (v := .slice eo en ec) rfl (by kernel_rfl) (by kernel_rfl) (by kernel_rfl) (fun _ _ _ h => h) (Or.inl ⟨by rfl, fun w9 h9 => by have h5 := h9.cell (j := 0) rfl; have h6 := h9.cell (j := 1) rfl; have h7 := h9.cell (j := 2) rfl; go_simp⟩) K1.out ?_
  try simp only [Act.put, List.getElem_toArray, List.getElem_cons_zero, List.getElem_cons_succ, List.setIfInBounds_toArray, List.set_cons_zero, List.set_cons_succ]
  refine wpAnyH_take (i := 4) (v := .pointer (some ⟨q, 2, none⟩)) rfl (by kernel_rfl) (by kernel_rfl) (by kernel_rfl) (fun _ _ _ h => h) (Yields.yieldsIf (Or.inl ⟨by rfl, fun w => by go_simp⟩)) K1.out ?_
  try simp only [Act.put, List.getElem_toArray, List.getElem_cons_zero, List.getElem_cons_succ, List.setIfInBounds_toArray, List.set_cons_zero, List.set_cons_succ]
  refine wpAnyH_take (i := 5) (v := .slice fo fn fc) rfl (by kernel_rfl) (by kernel_rfl) (by kernel_rfl) (fun _ _ _ h => h) (Or.inl ⟨by rfl, fun w9 h9 => by have h5 := h9.cell (j := 0) rfl; have h6 := h9.cell (j := 1) rfl; have h7 := h9.cell (j := 2) rfl; go_simp⟩) K1.out ?_
  try simp only [Act.put, List.getElem_toArray, List.getElem_cons_zero, List.getElem_cons_succ, List.setIfInBounds_toArray, List.set_cons_zero, List.set_cons_succ]
  refine wpAnyH_all (rs := [0]) (by kernel_rfl) (by simp) (AllH.cons rfl (fun K hK => ?_) AllH.nil)
  go_simp
  have O2 : Hid ((V1.alloc (.cells #[] 38)).ownsRow V1.heap.size 38 3 (.slice (some ⟨V1.heap.size, 0, none⟩) 0 0) 0 []) := World.ownsRow_made V1 #[] 0 (Nat.le_refl _) (Nat.zero_le _) rfl
  have B2 : Hid (Below V1.heap.size V1 (V1.alloc (.cells #[] 38))) := bAlloc (Below.refl _ _) _
  have K2 := Hid.mk' (K1.out.keep B2.out)
  obtain ⟨g2, hg2⟩ : ∃ g2, g2 = V1.heap.size := ⟨_, rfl⟩
  have HG2 := Hid.mk' hg2
  rw [← hg2] at O2 ⊢
  clear hg2
  generalize V1.alloc (.cells #[] 38) = w2 at *
  refine hK _ _ ⟨K2.out, ?_⟩
  clear hK K
  try simp only [Act.put, List.getElem_toArray, List.getElem_cons_zero, List.getElem_cons_succ, List.setIfInBounds_toArray, List.set_cons_zero, List.set_cons_succ]
  refine wpAnyH_all (rs := [3]) (by kernel_rfl) (by simp) (AllH.cons rfl (fun K hK => ?_) AllH.nil)
  obtain ⟨v3, w3, hr3, ho3, hg3, hf3⟩ := app_es g2 _ _ _ O2.out eo en ec E ((HE.out.row.keep L1.out).keep B2.out) HN.out HEC.out (by omega) (by rw [HG2.out]; exact B2.out.size)
  have O3 : Hid (w3.ownsRow g2 38 3 v3 en (ecs E)) := by unfold Hid; simpa using ho3
  have B3 : Hid (Below V1.heap.size V1 w3) := B2.out.grown hg3 B2.out.size (fun k hk => by have := (O2.out.lt k hk).1; rw [HG2.out] at this; exact this)
  have K3 := Hid.mk' (K1.out.keep B3.out)
  refine st_ed rfl _ _ rfl _ _ rfl rfl hr3 ?_
  clear hr3 ho3 hg3 hf3
  refine hK _ _ ⟨K3.out, ?_⟩
  clear hK K
  try simp only [Act.put, List.getElem_toArray, List.getElem_cons_zero, List.getElem_cons_succ, List.setIfInBounds_toArray, List.set_cons_zero, List.set_cons_succ]
  refine wpAnyH_all (rs := [6]) (by kernel_rfl) (by simp) (AllH.cons rfl (fun K hK => ?_) AllH.nil)
  obtain ⟨v4, w4, hr4, ho4, hg4, hf4⟩ := app_es g2 _ _ _ O3.out fo fn fc F ((HF.out.row.keep L1.out).keep B3.out) HFN.out HFC.out (by omega) (by rw [HG2.out]; exact B3.out.size)
  have O4 : Hid (w4.ownsRow g2 38 3 v4 (en + fn) (ecs (E ++ F))) := by unfold Hid; rw [ecs_append]; exact ho4
  have B4 : Hid (Below V1.heap.size V1 w4) := B3.out.grown hg4 B3.out.size (fun k hk => by have := (O3.out.lt k hk).1; rw [HG2.out] at this; exact this)
  have K4 := Hid.mk' (K1.out.keep B4.out)
  refine st_ed rfl _ _ rfl _ _ rfl rfl hr4 ?_
  clear hr4 ho4 hg4 hf4
  refine hK _ _ ⟨K4.out, ?_⟩
  clear hK K
  try simp only [Act.put, List.getElem_toArray, List.getElem_cons_zero, List.getElem_cons_succ, List.setIfInBounds_toArray, List.set_cons_zero, List.set_cons_succ]
  refine wpAnyH_take (i := 7) (v := v4) rfl (by kernel_rfl) (by kernel_rfl) (by kernel_rfl) (fun _ _ _ h => h) (Yields.yieldsIf (Or.inl ⟨by rfl, fun w => by go_simp⟩)) K4.out ?_
  try simp only [Act.put, List.getElem_toArray, List.getElem_cons_zero, List.getElem_cons_succ, List.setIfInBounds_toArray, List.set_cons_zero, List.set_cons_succ]
  refine wpAnyH_done (by kernel_rfl) ?_ _
  obtain ⟨ho, hc4, e4, hR4, hl4⟩ := own_edr O4.out
  subst e4
  have L4 : Hid (Below w.heap.size w w4) := bT L1.out B4.out
  have G4 : Hid (Edz w4 ho (E ++ F)) := ⟨hR4, fun k r hk => by
    rcases Nat.lt_or_ge k E.length with h | h
    · rw [List.getElem?_append_left h] at hk; exact (HE.out.txs k r hk).keep L4.out
    · rw [List.getElem?_append_right h] at hk; exact (HF.out.txs _ r hk).keep L4.out⟩
  have HLen : Hid ((E ++ F).length = en + fn) := hl4
  obtain ⟨gn, hgn⟩ : ∃ gn, gn = en + fn := ⟨_, rfl⟩
  rw [← hgn] at HLen
  have hgb : gn ≤ 1048576 := by omega
  rw [← hgn]
  clear hR4 hl4 O4 O3 O2 B2 B3 B4 K1 K2 K3 L1 hgn
  generalize hG : E ++ F = G at *
  have HG := Hid.mk' hG
  clear hG
  have z0 : w4.cell? ⟨q, 0, none⟩ = some (.slice ao n c) := K4.out.cell rfl
  go_wp2_with fail
  refine (great_any ao n c ho gn hc4 G w4 G4.out HLen.out (by omega) (by omega)).mono ?_
  rintro e w5 ⟨gb, rfl, hb, -⟩
  have K5 : Hid (Blk w5.drew q 41 #[.slice ao n c, .slice eo en ec, .slice fo fn fc]) := K4.out.keep hb.drew
  have L5 : Hid (Below w.heap.size w w5.drew) := (bT L4.out hb).drew
  have G5 : Hid (Edz w5.drew ho G) := G4.out.keep hb.drew
  have L5b : Hid (Below w.heap.size w w5) := bT L4.out hb
  clear hb K4 L4 G4 z0
  dsimp only
  cases gb with
  | true =>
    go_wp2
    go_ret
    exact ⟨rfl, L5b.out⟩
  | false =>
  clear L5b
  go_upto_region 6 with fail
  refine wp_region_held (S := fun w' => Blk w' q 41 #[.slice ao n c, .slice eo en ec, .slice fo fn fc]) (by kernel_rfl) ?_
  change wpAnyH _ _ _ _ _ _ _ _ (World.drew _)
  generalize w5.drew = V5 at *
  refine wpAnyH_take (i := 0) (v := .slice ho gn hc4) rfl (by kernel_rfl) (by kernel_rfl) (by kernel_rfl) (fun _ _ _ h => h) (Yields.yieldsIf (Or.inl ⟨by rfl, fun w => by go_simp⟩)) K5.out ?_
  try simp only [Act.put, List.getElem_toArray, List.getElem_cons_zero, List.getElem_cons_succ, List.setIfInBounds_toArray, List.set_cons_zero, List.set_cons_succ]
  refine wpAnyH_take (i := 2) (v := .pointer (some ⟨q, 1, none⟩)) rfl (by kernel_rfl) (by kernel_rfl) (by kernel_rfl) (fun _ _ _ h => h) (Yields.yieldsIf (Or.inl ⟨by rfl, fun w => by go_simp⟩)) K5.out ?_
  try simp only [Act.put, List.getElem_toArray, List.getElem_cons_zero, List.getElem_cons_succ, List.setIfInBounds_toArray, List.set_cons_zero, List.set_cons_succ]
  refine wpAnyH_take (i := 3) (v := .slice eo en ec) rfl (by kernel_rfl) (by kernel_rfl) (by kernel_rfl) (fun _ _ _ h => h) (Or.inl ⟨by rfl, fun w9 h9 => by have h5 := h9.cell (j := 0) rfl; have h6 := h9.cell (j := 1) rfl; have h7 := h9.cell (j := 2) rfl; go_simp⟩) K5.out ?_
  try simp only [Act.put, List.getElem_toArray, List.getElem_cons_zero, List.getElem_cons_succ, List.setIfInBounds_toArray, List.set_cons_zero, List.set_cons_succ]
  refine wpAnyH_take (i := 5) (v := .pointer (some ⟨q, 2, none⟩)) rfl (by kernel_rfl) (by kernel_rfl) (by kernel_rfl) (fun _ _ _ h => h) (Yields.yieldsIf (Or.inl ⟨by rfl, fun w => by go_simp⟩)) K5.out ?_
  try simp only [Act.put, List.getElem_toArray, List.getElem_cons_zero, List.getElem_cons_succ, List.setIfInBounds_toArray, List.set_cons_zero, List.set_cons_succ]
  refine wpAnyH_take (i := 6) (v := .slice fo fn fc) rfl (by kernel_rfl) (by kernel_rfl) (by kernel_rfl) (fun _ _ _ h => h) (Or.inl ⟨by rfl, fun w9 h9 => by have h5 := h9.cell (j := 0) rfl; have h6 := h9.cell (j := 1) rfl; have h7 := h9.cell (j := 2) rfl; go_simp⟩) K5.out ?_
  try simp only [Act.put, List.getElem_toArray, List.getElem_cons_zero, List.getElem_cons_succ, List.setIfInBounds_toArray, List.set_cons_zero, List.set_cons_succ]
  refine wpAnyH_all (rs := [1]) (by kernel_rfl) (by simp) (AllH.cons rfl (fun K hK => ?_) AllH.nil)
  go_simp
  refine (size_any ho gn hc4 G V5 G5.out HLen.out (by omega)).mono ?_
  rintro e V6 ⟨rfl, hb⟩
  have K6 := Hid.mk' (K5.out.keep hb)
  have L6 := Hid.mk' (bT L5.out hb)
  have G6 := Hid.mk' (G5.out.keep hb)
  rw [← HS3.out]
  clear hb
  dsimp only
  refine hK _ _ ⟨K6.out, ?_⟩
  clear hK K
  try simp only [Act.put, List.getElem_toArray, List.getElem_cons_zero, List.getElem_cons_succ, List.setIfInBounds_toArray, List.set_cons_zero, List.set_cons_succ]
  refine wpAnyH_all (rs := [4]) (by kernel_rfl) (by simp) (AllH.cons rfl (fun K hK => ?_) AllH.nil)
  go_simp
  refine (size_any eo en ec E V6 (HE.out.keep L6.out) HN.out (by omega)).mono ?_
  rintro e V7 ⟨rfl, hb⟩
  have K7 := Hid.mk' (K6.out.keep hb)
  have L7 := Hid.mk' (bT L6.out hb)
  have G7 := Hid.mk' (G6.out.keep hb)
  rw [← HS1.out]
  clear hb
  dsimp only
  refine hK _ _ ⟨K7.out, ?_⟩
  clear hK K
  try simp only [Act.put, List.getElem_toArray, List.getElem_cons_zero, List.getElem_cons_succ, List.setIfInBounds_toArray, List.set_cons_zero, List.set_cons_succ]
  refine wpAnyH_all (rs := [7]) (by kernel_rfl) (by simp) (AllH.cons rfl (fun K hK => ?_) AllH.nil)
  go_simp
  refine (size_any fo fn fc F V7 (HF.out.keep L7.out) HFN.out (by omega)).mono ?_
  rintro e V8 ⟨rfl, hb⟩
  have K8 := Hid.mk' (K7.out.keep hb)
  have L8 := Hid.mk' (bT L7.out hb)
  have G8 := Hid.mk' (G7.out.keep hb)
  rw [← HS2.out]
  clear hb
  dsimp only
  refine hK _ _ ⟨K8.out, ?_⟩
  clear hK K
  try simp only [Act.put, List.getElem_toArray, List.getElem_cons_zero, List.getElem_cons_succ, List.setIfInBounds_toArray, List.set_cons_zero, List.set_cons_succ]
  refine wpAnyH_take (i := 8) (v := .int .i64 S3) rfl (by kernel_rfl) (by kernel_rfl) (by kernel_rfl) (fun _ _ _ h => h) (Yields.yieldsIf (Or.inl ⟨by rfl, fun w => by go_simp⟩)) K8.out ?_
  try simp only [Act.put, List.getElem_toArray, List.getElem_cons_zero, List.getElem_cons_succ, List.setIfInBounds_toArray, List.set_cons_zero, List.set_cons_succ]
  refine wpAnyH_take (i := 9) (v := .bool false) rfl (by kernel_rfl) (by kernel_rfl) (by kernel_rfl) (fun _ _ _ h => h) (Yields.yieldsIf (Or.inl ⟨by rfl, fun w => by go_simp⟩)) K8.out ?_
  try simp only [Act.put, List.getElem_toArray, List.getElem_cons_zero, List.getElem_cons_succ, List.setIfInBounds_toArray, List.set_cons_zero, List.set_cons_succ]
  refine wpAnyH_done (by kernel_rfl) ?_ _
  clear K5 K6 K7 L5 L6 L7 G5 G6 G7 hadd
  have z0 : V8.cell? ⟨q, 0, none⟩ = some (.slice ao n c) := K8.out.cell rfl
  have z1 : V8.cell? ⟨q, 1, none⟩ = some (.slice eo en ec) := K8.out.cell rfl
  cases hz : app T (E.map Er.d) with
  | none =>
    have HZ := Hid.mk' hz
    clear hz
    have HZ3 : Hid (app T (G.map Er.d) = none) := by unfold Hid; rw [← HG.out, List.map_append, app_append, HZ.out]; rfl
    cases hz2 : app [] (F.map Er.d) with
    | none =>
      have HZ2 := Hid.mk' hz2
      clear hz2
      go_wp2_with fail
      refine (apply_none ao n c T eo en ec E V8 (hT.out.keep L8.out) (by omega) (HE.out.keep L8.out) HN.out (by omega) HMA.out HZ.out).mono ?_
      rintro e w9 ⟨rfl, hb⟩
      have L9 : Hid (Below w.heap.size w w9) := bT L8.out hb
      have K9 : Hid (Blk w9 q 41 #[.slice ao n c, .slice eo en ec, .slice fo fn fc]) := K8.out.keep hb
      have G9 : Hid (Edz w9 ho G) := G8.out.keep hb
      clear z0 z1
      have z2 : w9.cell? ⟨q, 2, none⟩ = some (.slice fo fn fc) := K9.out.cell rfl
      clear hb
      dsimp only
      go_wp2_with fail
      refine (apply_none none 0 0 [] fo fn fc F w9 (tx_nil _) (by omega) (HF.out.keep L9.out) HFN.out (by omega) (HMF.out [] (Nat.zero_le _)) HZ2.out).mono ?_
      rintro e w10 ⟨rfl, hb⟩
      have L10 : Hid (Below w.heap.size w w10) := bT L9.out hb
      have K10 : Hid (Blk w10 q 41 #[.slice ao n c, .slice eo en ec, .slice fo fn fc]) := K9.out.keep hb
      have G10 : Hid (Edz w10 ho G) := G9.out.keep hb
      clear z2
      have z0 : w10.cell? ⟨q, 0, none⟩ = some (.slice ao n c) := K10.out.cell rfl
      clear hb
      dsimp only
      go_wp2_with fail
      refine (apply_none ao n c T ho gn hc4 G w10 (hT.out.keep L10.out) (by omega) G10.out HLen.out (by omega) HMT.out HZ3.out).mono ?_
      rintro e w11 ⟨rfl, hb⟩
      have L11 : Hid (Below w.heap.size w w11) := bT L10.out hb
      clear z0
      clear hb
      dsimp only
      go_wp2
      go_ret
      exact ⟨rfl, L11.out⟩
    | some V =>
      have HZ2 := Hid.mk' hz2
      clear hz2
      go_wp2_with fail
      refine (apply_none ao n c T eo en ec E V8 (hT.out.keep L8.out) (by omega) (HE.out.keep L8.out) HN.out (by omega) HMA.out HZ.out).mono ?_
      rintro e w9 ⟨rfl, hb⟩
      have L9 : Hid (Below w.heap.size w w9) := bT L8.out hb
      have K9 : Hid (Blk w9 q 41 #[.slice ao n c, .slice eo en ec, .slice fo fn fc]) := K8.out.keep hb
      have G9 : Hid (Edz w9 ho G) := G8.out.keep hb
      clear z0 z1
      have z2 : w9.cell? ⟨q, 2, none⟩ = some (.slice fo fn fc) := K9.out.cell rfl
      clear hb
      dsimp only
      go_wp2_with fail
      refine (apply_some none 0 0 [] fo fn fc F w9 (tx_nil _) (by omega) (HF.out.keep L9.out) HFN.out (by omega) (HMF.out [] (Nat.zero_le _)) HZ2.out).mono ?_
      rintro e w10 ⟨v10, rfl, -, hb⟩
      have L10 : Hid (Below w.heap.size w w10) := bT L9.out hb
      have K10 : Hid (Blk w10 q 41 #[.slice ao n c, .slice eo en ec, .slice fo fn fc]) := K9.out.keep hb
      have G10 : Hid (Edz w10 ho G) := G9.out.keep hb
      clear z2
      have z0 : w10.cell? ⟨q, 0, none⟩ = some (.slice ao n c) := K10.out.cell rfl
      clear hb
      dsimp only
      go_wp2_with fail
      refine (apply_none ao n c T ho gn hc4 G w10 (hT.out.keep L10.out) (by omega) G10.out HLen.out (by omega) HMT.out HZ3.out).mono ?_
      rintro e w11 ⟨rfl, hb⟩
      have L11 : Hid (Below w.heap.size w w11) := bT L10.out hb
      clear z0
      clear hb
      dsimp only
      go_wp2
      go_ret
      exact ⟨rfl, L11.out⟩
  | some U =>
    have HZ := Hid.mk' hz
    have HUb : Hid (U.length ≤ n + nsum (E.map Er.d)) := HUB.out U hz
    have hub : U.length ≤ 1048576 := by have := HUb.out; have := HBD.out; omega
    obtain ⟨un, hun⟩ : ∃ un, un = U.length := ⟨_, rfl⟩
    rw [← hun] at hub
    have HUN := Hid.mk' hun
    clear hz hun
    cases hz2 : app U (F.map Er.d) with
    | none =>
      have HZ2 := Hid.mk' hz2
      have HZ3 : Hid (app T (G.map Er.d) = none) := by unfold Hid; rw [← HG.out, List.map_append, app_append, HZ.out]; exact hz2
      clear hz2
      go_wp2_with fail
      refine (apply_some ao n c T eo en ec E V8 (hT.out.keep L8.out) (by omega) (HE.out.keep L8.out) HN.out (by omega) HMA.out HZ.out).mono ?_
      rintro e w9 ⟨v9, rfl, hO9, hb⟩
      have L9 : Hid (Below w.heap.size w w9) := bT L8.out hb
      have K9 : Hid (Blk w9 q 41 #[.slice ao n c, .slice eo en ec, .slice fo fn fc]) := K8.out.keep hb
      have G9 : Hid (Edz w9 ho G) := G8.out.keep hb
      clear z0 z1
      have z2 : w9.cell? ⟨q, 2, none⟩ = some (.slice fo fn fc) := K9.out.cell rfl
      rw [← HUN.out] at hO9
      obtain ⟨a9, c9, rfl, hX9⟩ := own_tx hO9 (by omega)
      have X9 := Hid.mk' hX9
      clear hb hO9 hX9
      dsimp only
      go_wp2_with fail
      refine (apply_none a9 un c9 U fo fn fc F w9 X9.out (by omega) (HF.out.keep L9.out) HFN.out (by omega) (HMF.out U HUb.out) HZ2.out).mono ?_
      rintro e w10 ⟨rfl, hb⟩
      have L10 : Hid (Below w.heap.size w w10) := bT L9.out hb
      have K10 : Hid (Blk w10 q 41 #[.slice ao n c, .slice eo en ec, .slice fo fn fc]) := K9.out.keep hb
      have G10 : Hid (Edz w10 ho G) := G9.out.keep hb
      clear z2
      have z0 : w10.cell? ⟨q, 0, none⟩ = some (.slice ao n c) := K10.out.cell rfl
      clear hb
      dsimp only
      go_wp2_with fail
      refine (apply_none ao n c T ho gn hc4 G w10 (hT.out.keep L10.out) (by omega) G10.out HLen.out (by omega) HMT.out HZ3.out).mono ?_
      rintro e w11 ⟨rfl, hb⟩
      have L11 : Hid (Below w.heap.size w w11) := bT L10.out hb
      clear z0
      clear hb
      dsimp only
      have v1 := conv_tx (tx_nil w11)
      go_wp2
      go_ret
      exact ⟨rfl, L11.out⟩
    | some V =>
      have HZ2 := Hid.mk' hz2
      have HZ3 : Hid (app T (G.map Er.d) = some V) := by unfold Hid; rw [← HG.out, List.map_append, app_append, HZ.out]; exact hz2
      have hvb : V.length ≤ 1048576 := HVB.out U V HUb.out hz2
      clear hz2
      go_wp2_with fail
      refine (apply_some ao n c T eo en ec E V8 (hT.out.keep L8.out) (by omega) (HE.out.keep L8.out) HN.out (by omega) HMA.out HZ.out).mono ?_
      rintro e w9 ⟨v9, rfl, hO9, hb⟩
      have L9 : Hid (Below w.heap.size w w9) := bT L8.out hb
      have K9 : Hid (Blk w9 q 41 #[.slice ao n c, .slice eo en ec, .slice fo fn fc]) := K8.out.keep hb
      have G9 : Hid (Edz w9 ho G) := G8.out.keep hb
      clear z0 z1
      have z2 : w9.cell? ⟨q, 2, none⟩ = some (.slice fo fn fc) := K9.out.cell rfl
      rw [← HUN.out] at hO9
      obtain ⟨a9, c9, rfl, hX9⟩ := own_tx hO9 (by omega)
      have X9 := Hid.mk' hX9
      clear hb hO9 hX9
      dsimp only
      go_wp2_with fail
      refine (apply_some a9 un c9 U fo fn fc F w9 X9.out (by omega) (HF.out.keep L9.out) HFN.out (by omega) (HMF.out U HUb.out) HZ2.out).mono ?_
      rintro e w10 ⟨v10, rfl, hO10, hb⟩
      have L10 : Hid (Below w.heap.size w w10) := bT L9.out hb
      have K10 : Hid (Blk w10 q 41 #[.slice ao n c, .slice eo en ec, .slice fo fn fc]) := K9.out.keep hb
      have G10 : Hid (Edz w10 ho G) := G9.out.keep hb
      clear z2
      have z0 : w10.cell? ⟨q, 0, none⟩ = some (.slice ao n c) := K10.out.cell rfl
      obtain ⟨a10, c10, rfl, hX10⟩ := own_tx hO10 (by omega)
      have X10 := Hid.mk' hX10
      clear hb hO10 hX10
      dsimp only
      go_wp2_with fail
      refine (apply_some ao n c T ho gn hc4 G w10 (hT.out.keep L10.out) (by omega) G10.out HLen.out (by omega) HMT.out HZ3.out).mono ?_
      rintro e w11 ⟨v11, rfl, hO11, hb⟩
      have L11 : Hid (Below w.heap.size w w11) := bT L10.out hb
      clear z0
      obtain ⟨a11, c11, rfl, hX11⟩ := own_tx hO11 (by omega)
      have v1 := conv_tx hX11
      have v2 := conv_tx (X10.out.keep hb)
      clear hb hO11 hX11
      dsimp only
      go_wp2
      go_ret
      exact ⟨rfl, L11.out⟩
end Go.Proofs.Ythklmdnamkjgmaa
