/- PinsBack, walked. -/
import Derived.Test.YtdoheblkhnmmiaaPaw
import Derived.Deep.AppendLies
namespace Go.Proofs.Ytdoheblkhnmmiaa
open Go.RowKit

set_option maxRecDepth 8000
/-- an edit taken back -/
def Er.sw (r : Er) : Er := ⟨r.a, r.p2, r.n, r.c2, r.p1, r.o, r.c1⟩
/-- the last k edits taken back -/
def bkF (E : List Er) (k : Nat) : List Er := (E.drop (E.length - k)).reverse.map Er.sw
theorem bkF_zero (E : List Er) : bkF E 0 = [] := by simp [bkF]
theorem bkF_succ {E : List Er} {k : Nat} {r : Er} (hk : k < E.length) (h : E[E.length - 1 - k]? = some r) : bkF E (k + 1) = bkF E k ++ [r.sw] := by
  obtain ⟨hi, rfl⟩ := List.getElem?_eq_some_iff.1 h
  unfold bkF
  rw [show E.length - (k + 1) = E.length - 1 - k by omega, List.drop_eq_getElem_cons hi, List.reverse_cons, List.map_append, show E.length - 1 - k + 1 = E.length - k by omega]
  rfl
theorem bkF_len (E : List Er) : (bkF E E.length).length = E.length := by simp [bkF]
theorem crL_same (A C V : List Int) (hC : C.length = 27) : crL A C A V 27 = C := by
  apply List.ext_getElem?
  intro j
  unfold crL
  rw [List.getElem?_map]
  by_cases hj : j < 27
  · rw [List.getElem?_range hj, List.getElem?_eq_getElem (by omega)]
    simp [hj, List.getD, List.getElem?_eq_getElem (show j < C.length by omega)]
  · rw [List.getElem?_eq_none (by simp; omega), List.getElem?_eq_none (by omega)]; rfl
theorem crL_back (A C V : List Int) (hA : A.length = 27) (hC : C.length = 27) (x y v : Int) (h4 : A[4]? = some y) (hV : V[4]? = some v) (hne : x ≠ y) : crL (A.set 4 x) C A V 27 = C.set 4 v := by
  apply List.ext_getElem?
  intro j
  rw [List.getElem?_set]
  unfold crL
  rw [List.getElem?_map]
  by_cases hj : j < 27
  · rw [List.getElem?_range hj]
    by_cases h : 4 = j
    · subst h
      rw [if_pos rfl, if_pos (by omega), Option.map_some]
      have e1 : (A.set 4 x).getD 4 0 = x := by rw [List.getD_eq_getElem?_getD, List.getElem?_set_self (by omega)]; rfl
      have e2 : A.getD 4 0 = y := by rw [List.getD_eq_getElem?_getD, h4]; rfl
      have e3 : V.getD 4 0 = v := by rw [List.getD_eq_getElem?_getD, hV]; rfl
      rw [e1, e2, e3, if_neg (fun h => hne h.2)]
    · rw [if_neg h, List.getElem?_eq_getElem (by omega)]
      simp [hj, List.getD, List.getElem?_set, h, List.getElem?_eq_getElem (show j < C.length by omega)]
  · rw [List.getElem?_eq_none (by simp; omega), if_neg (by omega), List.getElem?_eq_none (by omega)]; rfl
theorem set_same {A : List Int} {i : Nat} {x : Int} (h : A[i]? = some x) : A.set i x = A := by
  obtain ⟨hi, rfl⟩ := List.getElem?_eq_some_iff.1 h
  exact List.set_getElem_self hi
theorem fld0 {X : List Int} (hX : X.length = 27) (w : World) : (Instr.field 24 (.agg (mk X)) 0).run Try.prog w = .ok (.agg (mk (X.take 26))) w := by
  obtain ⟨M, q, rfl, hM⟩ := parts24 hX
  have h := part22 w M q hM
  rw [List.take_append_of_le_length (by omega), List.take_of_length_le (by omega)]
  simp [Instr.field, run_underlying Try.underlying24, asAgg, h]
theorem set101 (L : List Int) (x : Int) : setP L 101 x = if x < 0 then (zm, 2) else (L.set 4 x, 0) := rfl
set_option maxHeartbeats 16000000 in
set_option linter.unusedSimpArgs false in
theorem pinsBack_walk (L : List Int) (ao : Option Addr) (n c : Nat) (E : List Er) (x : Int) (w : World) (hL : L.length = 27) (HE : Hid (Edz w ao E)) (hn : E.length = n) (hb : n ≤ 140737488351232) :
    Calls Try.prog 8 #[.agg (mk L), .slice ao n c, .int .i64 x] w fun e w' => e = .returned (.bool true) ∧ Below w.heap.size w w' := by
  have hz := z24
  have HN := Hid.mk' hn
  obtain ⟨i8, hi8, hz8, hs8, hb8⟩ := info_parts info42
  generalize hW1 : w.alloc (.cells (mk L) 24) = W1
  have B1 : Hid (Blk W1 w.heap.size 24 (mk L)) := by subst hW1; exact Blk.new w 24 _
  have L1 : Hid (Below w.heap.size w W1) := by subst hW1; exact bAlloc (Below.refl _ _) _
  have CA := Hid.mk' (awake_any W1)
  clear hn
  go_enter Try.func8, Try.ntmps8
  go_upto_region 1 with fail
  clear hW1
  go_wp2_with fail
  refine CA.out.mono ?_
  rintro e w1 ⟨rfl, hbb⟩
  have B2 := Hid.mk' (B1.out.keep hbb)
  have L2 := Hid.mk' (bT L1.out hbb)
  clear hbb CA B1 L1
  go_wp2_with fail
  refine (great_any ao n c E w1 (HE.out.keep L2.out) HN.out (by omega)).mono ?_
  rintro e w2 ⟨gb, rfl, hgs, hbb⟩
  have B3 := Hid.mk' (B2.out.keep hbb)
  have L3 := Hid.mk' (bT L2.out hbb)
  clear hbb B2 L2
  cases gb with
  | true =>
    clear hgs
    go_wp2
    go_ret
    exact ⟨rfl, L3.out⟩
  | false =>
  have HG1 := Hid.mk' (hgs rfl)
  have hs1 : n ≤ 1048576 := by have h1 := gsum_len E; have h2 := HG1.out; have h3 := HN.out; omega
  have hsI : (n : Int) ≤ 1048576 := by omega
  clear hgs
  have HBL : Hid (w.heap.size ≤ w2.heap.size) := L3.out.size
  have HBB : Hid (w.heap.size < w2.heap.size) := B3.out.lt
  obtain ⟨B, hB⟩ : ∃ B, B = w2.heap.size := ⟨_, rfl⟩
  rw [← hB] at HBL HBB
  have HZ0 : Hid (B ≤ w2.heap.size) := Nat.le_of_eq hB
  go_wp2_with fail
  clear hB
  go_loopg [7, 8] n (fun m x7 x8 wx => ∃ (k : Nat) (F : List Er), x8 = .int .i64 ((n : Int) - 1 - (k : Int)) ∧ k + m = n ∧ ∃ a7 c7, x7 = .slice a7 k c7 ∧ Hid (F = bkF E k) ∧ Hid (wx.ownsRow B 42 3 (.slice a7 k c7) k (ecs F)) ∧ Hid (Blk wx w.heap.size 24 (mk L)) ∧ Hid (Below w.heap.size w wx) ∧ Hid (B ≤ wx.heap.size))
  case atStart => exact ⟨0, [], by simp, by omega, none, 0, rfl, (bkF_zero E).symm, World.ownsRow_nil _ _ _ _, B3.out, L3.out, HZ0.out⟩
  case round =>
    obtain ⟨k, F, rfl, hkm, a7, c7, rfl, HF, KO, KK, KB, KZ⟩ := hrel
    obtain ⟨go, hgo⟩ : ∃ g, g = gk - 1 := ⟨_, rfl⟩
    clear B3 L3 HZ0
    by_cases hk : k < n
    · obtain ⟨i, hi⟩ : ∃ i : Nat, i = n - 1 - k := ⟨_, rfl⟩
      have hiI : (n : Int) - 1 - (k : Int) = (i : Int) := by omega
      have hi0 : (0 : Int) ≤ (i : Int) := by omega
      have hin : (i : Int) < (n : Int) := by omega
      obtain ⟨r, hr⟩ : ∃ r, E[i]? = some r := ⟨_, List.getElem?_eq_getElem (by have := HN.out; omega)⟩
      obtain ⟨g0, o0, rfl, h3⟩ := HE.out.row.ed3 hr
      have HGL : Hid (g0 < w.heap.size) := h3.lt
      have hfs : bkF E (k + 1) = bkF E k ++ [r.sw] := bkF_succ (by have := HN.out; omega) (by rw [HN.out, ← hi]; exact hr)
      obtain ⟨ra, rp1, ro, rc1, rp2, rn, rc2⟩ := r
      dsimp only at h3
      unfold Er.sw at hfs
      dsimp only at hfs
      have HFS : Hid (bkF E (k + 1) = bkF E k ++ [⟨ra, rp2, rn, rc2, rp1, ro, rc1⟩]) := hfs
      have Z3 := Hid.mk' (h3.keep KB.out)
      have HI := Hid.mk' hi
      rw [hiI]
      clear hr h3 hfs hi hiI
      go_upto_region 9 with fail
      have YD : Hid (Ed3 wr.drew g0 (o0 + i * 3) ra rp1 ro rc1 rp2 rn rc2) := Z3.out.keep (Below.refl _ _).drew
      have OD : Hid (wr.drew.ownsRow B 42 3 (.slice a7 k c7) k (ecs F)) := own_keep KO.out (Below.refl _ _).drew
      have KD : Hid (Blk wr.drew w.heap.size 24 (mk L)) := KK.out
      have LD : Hid (Below w.heap.size w wr.drew) := KB.out.drew
      have ZD : Hid (B ≤ wr.drew.heap.size) := KZ.out
      clear KO KK KB Z3 KZ
      refine wp_region_held (S := fun w' => Ed3 w' g0 (o0 + i * 3) ra rp1 ro rc1 rp2 rn rc2) (by kernel_rfl) ?_
      change wpAnyH _ _ _ _ _ _ _ _ (World.drew _)
      generalize wr.drew = V3 at *
      refine wpAnyH_take (i := 0) (v := .slice a7 k c7) rfl (by kernel_rfl) (by kernel_rfl) (by kernel_rfl) (fun _ _ _ h => h) (Yields.yieldsIf (Or.inl ⟨by rfl, fun w => by go_simp⟩)) YD.out ?_
      try simp only [Act.put, List.getElem_toArray, List.getElem_cons_zero, List.getElem_cons_succ, List.setIfInBounds_toArray, List.set_cons_zero, List.set_cons_succ]
      refine wpAnyH_take (i := 1) (v := .slice (some ⟨g0, o0, none⟩) n c) rfl (by kernel_rfl) (by kernel_rfl) (by kernel_rfl) (fun _ _ _ h => h) (Yields.yieldsIf (Or.inl ⟨by rfl, fun w => by go_simp⟩)) YD.out ?_
      try simp only [Act.put, List.getElem_toArray, List.getElem_cons_zero, List.getElem_cons_succ, List.setIfInBounds_toArray, List.set_cons_zero, List.set_cons_succ]
      refine wpAnyH_take (i := 2) (v := .int .i64 (i : Int)) rfl (by kernel_rfl) (by kernel_rfl) (by kernel_rfl) (fun _ _ _ h => h) (Yields.yieldsIf (Or.inl ⟨by rfl, fun w => by go_simp⟩)) YD.out ?_
      try simp only [Act.put, List.getElem_toArray, List.getElem_cons_zero, List.getElem_cons_succ, List.setIfInBounds_toArray, List.set_cons_zero, List.set_cons_succ]
      refine wpAnyH_take (i := 3) (v := .pointer (some ⟨g0, o0 + i * 3, none⟩)) rfl (by kernel_rfl) (by kernel_rfl) (by kernel_rfl) (fun _ _ _ h => h) (Yields.yieldsIf (Or.inl ⟨by rfl, fun w => by go_simp⟩)) YD.out ?_
      try simp only [Act.put, List.getElem_toArray, List.getElem_cons_zero, List.getElem_cons_succ, List.setIfInBounds_toArray, List.set_cons_zero, List.set_cons_succ]
      refine wpAnyH_take (i := 4) (v := .pointer (some ⟨g0, o0 + i * 3, none⟩)) rfl (by kernel_rfl) (by kernel_rfl) (by kernel_rfl) (fun _ _ _ h => h) (Yields.yieldsIf (Or.inl ⟨by rfl, fun w => by go_simp⟩)) YD.out ?_
      try simp only [Act.put, List.getElem_toArray, List.getElem_cons_zero, List.getElem_cons_succ, List.setIfInBounds_toArray, List.set_cons_zero, List.set_cons_succ]
      refine wpAnyH_take (i := 5) (v := .int .i64 ra) rfl (by kernel_rfl) (by kernel_rfl) (by kernel_rfl) (fun _ _ _ h => h) (Or.inl ⟨by rfl, fun w9 h9 => by obtain ⟨h5, h6, h7⟩ := h9; go_simp⟩) YD.out ?_
      try simp only [Act.put, List.getElem_toArray, List.getElem_cons_zero, List.getElem_cons_succ, List.setIfInBounds_toArray, List.set_cons_zero, List.set_cons_succ]
      refine wpAnyH_take (i := 6) (v := .slice (some ⟨g0, o0, none⟩) n c) rfl (by kernel_rfl) (by kernel_rfl) (by kernel_rfl) (fun _ _ _ h => h) (Yields.yieldsIf (Or.inl ⟨by rfl, fun w => by go_simp⟩)) YD.out ?_
      try simp only [Act.put, List.getElem_toArray, List.getElem_cons_zero, List.getElem_cons_succ, List.setIfInBounds_toArray, List.set_cons_zero, List.set_cons_succ]
      refine wpAnyH_take (i := 7) (v := .int .i64 (i : Int)) rfl (by kernel_rfl) (by kernel_rfl) (by kernel_rfl) (fun _ _ _ h => h) (Yields.yieldsIf (Or.inl ⟨by rfl, fun w => by go_simp⟩)) YD.out ?_
      try simp only [Act.put, List.getElem_toArray, List.getElem_cons_zero, List.getElem_cons_succ, List.setIfInBounds_toArray, List.set_cons_zero, List.set_cons_succ]
      refine wpAnyH_take (i := 8) (v := .pointer (some ⟨g0, o0 + i * 3, none⟩)) rfl (by kernel_rfl) (by kernel_rfl) (by kernel_rfl) (fun _ _ _ h => h) (Yields.yieldsIf (Or.inl ⟨by rfl, fun w => by go_simp⟩)) YD.out ?_
      try simp only [Act.put, List.getElem_toArray, List.getElem_cons_zero, List.getElem_cons_succ, List.setIfInBounds_toArray, List.set_cons_zero, List.set_cons_succ]
      refine wpAnyH_take (i := 9) (v := .pointer (some ⟨g0, o0 + i * 3 + 2, none⟩)) rfl (by kernel_rfl) (by kernel_rfl) (by kernel_rfl) (fun _ _ _ h => h) (Yields.yieldsIf (Or.inl ⟨by rfl, fun w => by go_simp⟩)) YD.out ?_
      try simp only [Act.put, List.getElem_toArray, List.getElem_cons_zero, List.getElem_cons_succ, List.setIfInBounds_toArray, List.set_cons_zero, List.set_cons_succ]
      refine wpAnyH_take (i := 10) (v := .slice rp2 rn rc2) rfl (by kernel_rfl) (by kernel_rfl) (by kernel_rfl) (fun _ _ _ h => h) (Or.inl ⟨by rfl, fun w9 h9 => by obtain ⟨h5, h6, h7⟩ := h9; go_simp⟩) YD.out ?_
      try simp only [Act.put, List.getElem_toArray, List.getElem_cons_zero, List.getElem_cons_succ, List.setIfInBounds_toArray, List.set_cons_zero, List.set_cons_succ]
      refine wpAnyH_take (i := 11) (v := .slice (some ⟨g0, o0, none⟩) n c) rfl (by kernel_rfl) (by kernel_rfl) (by kernel_rfl) (fun _ _ _ h => h) (Yields.yieldsIf (Or.inl ⟨by rfl, fun w => by go_simp⟩)) YD.out ?_
      try simp only [Act.put, List.getElem_toArray, List.getElem_cons_zero, List.getElem_cons_succ, List.setIfInBounds_toArray, List.set_cons_zero, List.set_cons_succ]
      refine wpAnyH_take (i := 12) (v := .int .i64 (i : Int)) rfl (by kernel_rfl) (by kernel_rfl) (by kernel_rfl) (fun _ _ _ h => h) (Yields.yieldsIf (Or.inl ⟨by rfl, fun w => by go_simp⟩)) YD.out ?_
      try simp only [Act.put, List.getElem_toArray, List.getElem_cons_zero, List.getElem_cons_succ, List.setIfInBounds_toArray, List.set_cons_zero, List.set_cons_succ]
      refine wpAnyH_take (i := 13) (v := .pointer (some ⟨g0, o0 + i * 3, none⟩)) rfl (by kernel_rfl) (by kernel_rfl) (by kernel_rfl) (fun _ _ _ h => h) (Yields.yieldsIf (Or.inl ⟨by rfl, fun w => by go_simp⟩)) YD.out ?_
      try simp only [Act.put, List.getElem_toArray, List.getElem_cons_zero, List.getElem_cons_succ, List.setIfInBounds_toArray, List.set_cons_zero, List.set_cons_succ]
      refine wpAnyH_take (i := 14) (v := .pointer (some ⟨g0, o0 + i * 3 + 1, none⟩)) rfl (by kernel_rfl) (by kernel_rfl) (by kernel_rfl) (fun _ _ _ h => h) (Yields.yieldsIf (Or.inl ⟨by rfl, fun w => by go_simp⟩)) YD.out ?_
      try simp only [Act.put, List.getElem_toArray, List.getElem_cons_zero, List.getElem_cons_succ, List.setIfInBounds_toArray, List.set_cons_zero, List.set_cons_succ]
      refine wpAnyH_take (i := 15) (v := .slice rp1 ro rc1) rfl (by kernel_rfl) (by kernel_rfl) (by kernel_rfl) (fun _ _ _ h => h) (Or.inl ⟨by rfl, fun w9 h9 => by obtain ⟨h5, h6, h7⟩ := h9; go_simp⟩) YD.out ?_
      try simp only [Act.put, List.getElem_toArray, List.getElem_cons_zero, List.getElem_cons_succ, List.setIfInBounds_toArray, List.set_cons_zero, List.set_cons_succ]
      refine wpAnyH_take (i := 16) (v := .agg #[.int .i64 ra, .slice rp2 rn rc2, .slice rp1 ro rc1]) rfl (by kernel_rfl) (by kernel_rfl) (by kernel_rfl) (fun _ _ _ h => h) (Yields.yieldsIf (Or.inl ⟨by rfl, fun w => by go_simp⟩)) YD.out ?_
      try simp only [Act.put, List.getElem_toArray, List.getElem_cons_zero, List.getElem_cons_succ, List.setIfInBounds_toArray, List.set_cons_zero, List.set_cons_succ]
      refine wpAnyH_all (rs := [17]) (by kernel_rfl) (by simp) (AllH.cons rfl (fun K hK => ?_) AllH.nil)
      go_simp
      have hb9 := bAlloc (Below.refl _ V3) (.cells #[.int .i64 ra, .slice rp2 rn rc2, .slice rp1 ro rc1] 42)
      have N4 := Hid.mk' (Blk.new V3 42 #[.int .i64 ra, .slice rp2 rn rc2, .slice rp1 ro rc1])
      have Y4 := Hid.mk' (YD.out.keep hb9)
      have K4 := Hid.mk' (KD.out.keep hb9)
      have O4 := Hid.mk' (own_keep OD.out hb9)
      have L4 := Hid.mk' (bT LD.out hb9)
      have Z4 : Hid (B ≤ (V3.alloc (.cells #[.int .i64 ra, .slice rp2 rn rc2, .slice rp1 ro rc1] 42)).heap.size) := Nat.le_trans ZD.out hb9.size
      clear hb9
      generalize V3.alloc (.cells #[.int .i64 ra, .slice rp2 rn rc2, .slice rp1 ro rc1] 42) = w4 at *
      generalize V3.heap.size = nb at *
      refine hK _ _ ⟨Y4.out, ?_⟩
      clear hK K
      try simp only [Act.put, List.getElem_toArray, List.getElem_cons_zero, List.getElem_cons_succ, List.setIfInBounds_toArray, List.set_cons_zero, List.set_cons_succ]
      refine wpAnyH_all (rs := [18]) (by kernel_rfl) (by simp) (AllH.cons rfl (fun K hK => ?_) AllH.nil)
      refine step_append_lies _ rfl (.tmp 25) (.tmp 42) 37 rfl B 42 i8 _ 3 56 Try.underlying37 hi8 hz8 hs8 hb8 rfl (by decide) (.slice a7 k c7) k (ecs F) rfl O4.out ⟨nb, 0, none⟩ 1 1 (Er.cs ⟨ra, rp2, rn, rc2, rp1, ro, rc1⟩).toList rfl rfl (fun j u hu => by rw [add_none, Nat.zero_add]; exact N4.out.cell (by rw [← Array.getElem?_toList]; exact hu)) (er_one _) (by decide) (by unfold maxLen; omega) (by omega) Z4.out w4.heap.size rfl ?_
      intro g9 cap9 w5 hown9 hgrow9 _ hlt9
      have Z5 : Hid (B ≤ w5.heap.size) := Nat.le_trans (hown9.lt g9 rfl).1 (Nat.le_of_lt hlt9)
      have O5 : Hid (w5.ownsRow B 42 3 (.slice (some ⟨g9, 0, none⟩) (k + 1) cap9) (k + 1) (ecs (F ++ [⟨ra, rp2, rn, rc2, rp1, ro, rc1⟩]))) := by unfold Hid; rw [ecs_snoc]; exact hown9
      have Y5 := Hid.mk' (Y4.out.off hgrow9 (fun h => by have h1 := (O4.out.lt _ h.symm).1; have h2 := HGL.out; have h3 := HBL.out; omega))
      have K5 := Hid.mk' (K4.out.grown hgrow9 (fun h => by have h1 := (O4.out.lt _ h.symm).1; have h3 := HBB.out; omega))
      have L5 := Hid.mk' (L4.out.grown hgrow9 (by have h1 := L4.out.size; omega) (fun q hq => by have h1 := (O4.out.lt q hq).1; have h3 := HBL.out; omega))
      clear hown9 hgrow9 hlt9
      refine hK _ _ ⟨Y5.out, ?_⟩
      clear hK K
      try simp only [Act.put, List.getElem_toArray, List.getElem_cons_zero, List.getElem_cons_succ, List.setIfInBounds_toArray, List.set_cons_zero, List.set_cons_succ]
      refine wpAnyH_take (i := 19) (v := .slice (some ⟨g9, 0, none⟩) (k + 1) cap9) rfl (by kernel_rfl) (by kernel_rfl) (by kernel_rfl) (fun _ _ _ h => h) (Yields.yieldsIf (Or.inl ⟨by rfl, fun w => by go_simp⟩)) Y5.out ?_
      try simp only [Act.put, List.getElem_toArray, List.getElem_cons_zero, List.getElem_cons_succ, List.setIfInBounds_toArray, List.set_cons_zero, List.set_cons_succ]
      refine wpAnyH_done (by kernel_rfl) ?_ _
      go_wp2
      go_roundg go
      case measure => omega
      case rel => exact ⟨k + 1, _, (by have hq := HI.out; go_num), by omega, _, _, rfl, (by unfold Hid; rw [HF.out, ← HFS.out]), O5.out, K5.out, L5.out, Z5.out⟩
    · have hk' : ¬ (0 : Int) ≤ (n : Int) - 1 - (k : Int) := by omega
      have hkn : n = k := by omega
      subst hkn
      have HFl : Hid (F.length = n) := by unfold Hid; rw [HF.out]; have := bkF_len E; rw [HN.out] at this; exact this
      have RB : Hid (Edr wr a7 F) := by
        obtain ⟨a, cc, e, h1, h2⟩ := own_edr KO.out
        cases e
        exact h1
      clear KO KZ HF hk hk' hkm hgo
      go_upto_region 10 with fail
      have CM := Hid.mk' (fun W (h : Below w.heap.size w W) => move_any L ao n c E W hL (HE.out.row.keep h) HN.out (by omega))
      have hMd : (mvL L (E.map Er.t)).length = 27 := by rw [mvL_len]; exact hL
      generalize mvL L (E.map Er.t) = Md at *
      have CX1 : Hid (∀ W, Edr W a7 F → Calls Try.prog 24 #[.agg (mk Md), .agg (mk L), .agg (mk Md), .slice a7 n c7] W fun e w' => e = .returned (.agg (mk L)) ∧ Below W.heap.size W w') := fun W h => by
        have := cross_any Md L Md a7 n c7 F W hMd hL hMd h HFl.out (by omega)
        rwa [crL_same _ _ _ hL] at this
      have CX2 : Hid (∀ W, Below w.heap.size w W → Calls Try.prog 24 #[.agg (mk L), .agg (mk Md), .agg (mk L), .slice ao n c] W fun e w' => e = .returned (.agg (mk Md)) ∧ Below W.heap.size W w') := fun W h => by
        have := cross_any L Md L ao n c E W hL hMd hL (HE.out.row.keep h) HN.out (by omega)
        rwa [crL_same _ _ _ hMd] at this
      have hnL := fun W => ne24 W L hL
      have hnM := fun W => ne24 W Md hMd
      go_wp2_with (first | refine wl_load24 (B := w.heap.size) (.tmp 3) rfl rfl rfl hL KK.out ?_ | fail)
      refine (CM.out _ KB.out).mono ?_
      rintro e wa ⟨rfl, hbb⟩
      have K7 := Hid.mk' (KK.out.keep hbb)
      have R7 := Hid.mk' (RB.out.keep hbb)
      have L7 := Hid.mk' (bT KB.out hbb)
      clear hbb KK RB KB CM
      have BZ := Hid.mk' (Blk.new wa 24 (mk zm))
      obtain ⟨hBn, hbn⟩ := boxed24 (w := wa) hMd
      have K8 := Hid.mk' (K7.out.keep hbn)
      have R8 := Hid.mk' (R7.out.keep hbn)
      have L8 := Hid.mk' (bT L7.out hbn)
      have Y8 := Hid.mk' hBn
      clear hBn hbn K7 R7 L7
      go_upto_region 11 with (refine wl_store24 (B := wa.heap.size) (L := Md) (.tmp 9) (.tmp 46) rfl rfl rfl rfl hMd (by rfl) BZ.out ?_)
      generalize put24 (wa.alloc (.cells (mk zm) 24)) wa.heap.size Md = w6 at *
      generalize wa.heap.size = p at *
      clear BZ
      have KD : Hid (Blk w6.drew w.heap.size 24 (mk L)) := K8.out
      have YD : Hid (Blk w6.drew p 24 (mk Md)) := Y8.out
      have RD : Hid (Edr w6.drew a7 F) := R8.out.keep (Below.refl _ _).drew
      have LD : Hid (Below w.heap.size w w6.drew) := L8.out.drew
      clear K8 Y8 R8 L8
      refine wp_region_held (S := fun w' => Blk w' w.heap.size 24 (mk L) ∧ Blk w' p 24 (mk Md)) (by kernel_rfl) ?_
      change wpAnyH _ _ _ _ _ _ _ _ (World.drew _)
      generalize w6.drew = V3 at *
      refine wpAnyH_take (i := 0) (v := .agg (mk Md)) rfl (by kernel_rfl) (by kernel_rfl) (by kernel_rfl) (fun _ _ _ h => h) (yi24 rfl (.tmp 9) rfl rfl hMd (fun _ h => h.2)) ⟨KD.out, YD.out⟩ ?_
      try simp only [Act.put, List.getElem_toArray, List.getElem_cons_zero, List.getElem_cons_succ, List.setIfInBounds_toArray, List.set_cons_zero, List.set_cons_succ]
      refine wpAnyH_take (i := 1) (v := .agg (mk L)) rfl (by kernel_rfl) (by kernel_rfl) (by kernel_rfl) (fun _ _ _ h => h) (yi24 rfl (.tmp 3) rfl rfl hL (fun _ h => h.1)) ⟨KD.out, YD.out⟩ ?_
      try simp only [Act.put, List.getElem_toArray, List.getElem_cons_zero, List.getElem_cons_succ, List.setIfInBounds_toArray, List.set_cons_zero, List.set_cons_succ]
      refine wpAnyH_take (i := 2) (v := .agg (mk Md)) rfl (by kernel_rfl) (by kernel_rfl) (by kernel_rfl) (fun _ _ _ h => h) (yi24 rfl (.tmp 9) rfl rfl hMd (fun _ h => h.2)) ⟨KD.out, YD.out⟩ ?_
      try simp only [Act.put, List.getElem_toArray, List.getElem_cons_zero, List.getElem_cons_succ, List.setIfInBounds_toArray, List.set_cons_zero, List.set_cons_succ]
      refine wpAnyH_take (i := 3) (v := .slice a7 n c7) rfl (by kernel_rfl) (by kernel_rfl) (by kernel_rfl) (fun _ _ _ h => h) (Yields.yieldsIf (Or.inl ⟨by rfl, fun w => by go_simp⟩)) ⟨KD.out, YD.out⟩ ?_
      try simp only [Act.put, List.getElem_toArray, List.getElem_cons_zero, List.getElem_cons_succ, List.setIfInBounds_toArray, List.set_cons_zero, List.set_cons_succ]
      refine wpAnyH_take (i := 5) (v := .agg (mk L)) rfl (by kernel_rfl) (by kernel_rfl) (by kernel_rfl) (fun _ _ _ h => h) (yi24 rfl (.tmp 3) rfl rfl hL (fun _ h => h.1)) ⟨KD.out, YD.out⟩ ?_
      try simp only [Act.put, List.getElem_toArray, List.getElem_cons_zero, List.getElem_cons_succ, List.setIfInBounds_toArray, List.set_cons_zero, List.set_cons_succ]
      refine wpAnyH_all (rs := [4]) (by kernel_rfl) (by simp) (AllH.cons rfl (fun K hK => ?_) AllH.nil)
      go_simp
      refine (CX1.out V3 RD.out).mono ?_
      rintro e w7 ⟨rfl, hb9⟩
      have K7 := Hid.mk' (KD.out.keep hb9)
      have Y7 := Hid.mk' (YD.out.keep hb9)
      have R7 := Hid.mk' (RD.out.keep hb9)
      have L7 := Hid.mk' (bT LD.out hb9)
      clear hb9
      dsimp only
      refine hK _ _ ⟨⟨K7.out, Y7.out⟩, ?_⟩
      clear hK K
      try simp only [Act.put, List.getElem_toArray, List.getElem_cons_zero, List.getElem_cons_succ, List.setIfInBounds_toArray, List.set_cons_zero, List.set_cons_succ]
      refine wpAnyH_take (i := 6) (v := .bool false) rfl (by kernel_rfl) (by kernel_rfl) (by kernel_rfl) (fun _ _ _ h => h) (Yields.yieldsIf (Or.inl ⟨by rfl, fun w => by go_simp⟩)) ⟨K7.out, Y7.out⟩ ?_
      try simp only [Act.put, List.getElem_toArray, List.getElem_cons_zero, List.getElem_cons_succ, List.setIfInBounds_toArray, List.set_cons_zero, List.set_cons_succ]
      refine wpAnyH_take (i := 7) (v := .bool false) rfl (by kernel_rfl) (by kernel_rfl) (by kernel_rfl) (fun _ _ _ h => h) (Yields.yieldsIf (Or.inl ⟨by rfl, fun w => by go_simp⟩)) ⟨K7.out, Y7.out⟩ ?_
      try simp only [Act.put, List.getElem_toArray, List.getElem_cons_zero, List.getElem_cons_succ, List.setIfInBounds_toArray, List.set_cons_zero, List.set_cons_succ]
      refine wpAnyH_take (i := 8) (v := .agg (mk L)) rfl (by kernel_rfl) (by kernel_rfl) (by kernel_rfl) (fun _ _ _ h => h) (yi24 rfl (.tmp 3) rfl rfl hL (fun _ h => h.1)) ⟨K7.out, Y7.out⟩ ?_
      try simp only [Act.put, List.getElem_toArray, List.getElem_cons_zero, List.getElem_cons_succ, List.setIfInBounds_toArray, List.set_cons_zero, List.set_cons_succ]
      refine wpAnyH_take (i := 9) (v := .agg (mk Md)) rfl (by kernel_rfl) (by kernel_rfl) (by kernel_rfl) (fun _ _ _ h => h) (yi24 rfl (.tmp 9) rfl rfl hMd (fun _ h => h.2)) ⟨K7.out, Y7.out⟩ ?_
      try simp only [Act.put, List.getElem_toArray, List.getElem_cons_zero, List.getElem_cons_succ, List.setIfInBounds_toArray, List.set_cons_zero, List.set_cons_succ]
      refine wpAnyH_take (i := 10) (v := .agg (mk L)) rfl (by kernel_rfl) (by kernel_rfl) (by kernel_rfl) (fun _ _ _ h => h) (yi24 rfl (.tmp 3) rfl rfl hL (fun _ h => h.1)) ⟨K7.out, Y7.out⟩ ?_
      try simp only [Act.put, List.getElem_toArray, List.getElem_cons_zero, List.getElem_cons_succ, List.setIfInBounds_toArray, List.set_cons_zero, List.set_cons_succ]
      refine wpAnyH_take (i := 11) (v := .slice ao n c) rfl (by kernel_rfl) (by kernel_rfl) (by kernel_rfl) (fun _ _ _ h => h) (Yields.yieldsIf (Or.inl ⟨by rfl, fun w => by go_simp⟩)) ⟨K7.out, Y7.out⟩ ?_
      try simp only [Act.put, List.getElem_toArray, List.getElem_cons_zero, List.getElem_cons_succ, List.setIfInBounds_toArray, List.set_cons_zero, List.set_cons_succ]
      refine wpAnyH_take (i := 13) (v := .agg (mk Md)) rfl (by kernel_rfl) (by kernel_rfl) (by kernel_rfl) (fun _ _ _ h => h) (yi24 rfl (.tmp 9) rfl rfl hMd (fun _ h => h.2)) ⟨K7.out, Y7.out⟩ ?_
      try simp only [Act.put, List.getElem_toArray, List.getElem_cons_zero, List.getElem_cons_succ, List.setIfInBounds_toArray, List.set_cons_zero, List.set_cons_succ]
      refine wpAnyH_all (rs := [12]) (by kernel_rfl) (by simp) (AllH.cons rfl (fun K hK => ?_) AllH.nil)
      go_simp
      refine (CX2.out w7 L7.out).mono ?_
      rintro e w8 ⟨rfl, hb9⟩
      have K8 := Hid.mk' (K7.out.keep hb9)
      have Y8 := Hid.mk' (Y7.out.keep hb9)
      have R8 := Hid.mk' (R7.out.keep hb9)
      have L8 := Hid.mk' (bT L7.out hb9)
      clear hb9
      dsimp only
      refine hK _ _ ⟨⟨K8.out, Y8.out⟩, ?_⟩
      clear hK K
      try simp only [Act.put, List.getElem_toArray, List.getElem_cons_zero, List.getElem_cons_succ, List.setIfInBounds_toArray, List.set_cons_zero, List.set_cons_succ]
      refine wpAnyH_take (i := 14) (v := .bool false) rfl (by kernel_rfl) (by kernel_rfl) (by kernel_rfl) (fun _ _ _ h => h) (Yields.yieldsIf (Or.inl ⟨by rfl, fun w => by go_simp⟩)) ⟨K8.out, Y8.out⟩ ?_
      try simp only [Act.put, List.getElem_toArray, List.getElem_cons_zero, List.getElem_cons_succ, List.setIfInBounds_toArray, List.set_cons_zero, List.set_cons_succ]
      refine wpAnyH_take (i := 15) (v := .bool false) rfl (by kernel_rfl) (by kernel_rfl) (by kernel_rfl) (fun _ _ _ h => h) (Yields.yieldsIf (Or.inl ⟨by rfl, fun w => by go_simp⟩)) ⟨K8.out, Y8.out⟩ ?_
      try simp only [Act.put, List.getElem_toArray, List.getElem_cons_zero, List.getElem_cons_succ, List.setIfInBounds_toArray, List.set_cons_zero, List.set_cons_succ]
      refine wpAnyH_done (by kernel_rfl) ?_ _
      have K9 := Hid.mk' K8.out
      have Y9 := Hid.mk' Y8.out
      have R9 := Hid.mk' R8.out
      have L9 := Hid.mk' L8.out
      clear CX1 CX2 hnL hnM
      obtain ⟨y, hy⟩ : ∃ y, Md[4]? = some y := ⟨_, List.getElem?_eq_getElem (by omega)⟩
      by_cases hx0 : x < 0
      · clear hy
        have CS := Hid.mk' (fun W => set_any Md 101 x W hMd (by decide))
        rw [set101, if_pos hx0] at CS
        unfold sE at CS
        have hzl : zm.length = 27 := rfl
        generalize zm = Z at *
        go_upto_region 13 with fail
        go_wp2_with (first | refine wl_load24 (B := p) (.tmp 9) rfl rfl rfl hMd Y9.out ?_ | fail)
        refine (CS.out _).mono ?_
        rintro e wb ⟨rfl, hbb⟩
        have L1 := Hid.mk' (bT L9.out hbb)
        have BZ := Hid.mk' (Blk.new wb 24 (mk Z))
        have L2 : Hid (Below w.heap.size w (put24 (wb.alloc (.cells (mk Z) 24)) wb.heap.size Z)) := below_put24 (bAlloc L1.out _) L1.out.size _
        clear hbb K9 Y9 R9 L9 CS
        go_upto_region 14 with (refine wl_store24 (B := wb.heap.size) (L := Z) (.tmp 10) (.tmp 67) rfl rfl rfl rfl hzl hzl BZ.out ?_)
        generalize put24 (wb.alloc (.cells (mk Z) 24)) wb.heap.size Z = wc at *
        clear BZ
        go_wp2
        go_ret
        exact ⟨rfl, L2.out⟩
      by_cases hxy : x = y
      · subst hxy
        have hNw : Hid ((Md.set 4 x).length = 27) := by unfold Hid; simpa using hMd
        have CS := Hid.mk' (fun W => set_any Md 101 x W hMd (by decide))
        rw [set101, if_neg hx0] at CS
        unfold sE at CS
        have CX := Hid.mk' (fun W (h : Edr W a7 F) => cross_any (Md.set 4 x) L Md a7 n c7 F W hNw.out hL hMd h HFl.out (by omega))
        have CV := Hid.mk' (fun W (h : Edr W a7 F) => move_any (Md.set 4 x) a7 n c7 F W hNw.out h HFl.out (by omega))
        have hVl : Hid ((mvL (Md.set 4 x) (F.map Er.t)).length = 27) := by unfold Hid; rw [mvL_len]; exact hNw.out
        generalize mvL (Md.set 4 x) (F.map Er.t) = V at *
        obtain ⟨v4, hv4⟩ : ∃ v, V[4]? = some v := ⟨_, List.getElem?_eq_getElem (by have := hVl.out; omega)⟩
        have HGt : Hid (crL (Md.set 4 x) L Md V 27 = L) := by unfold Hid; rw [set_same hy]; exact crL_same Md L V hL
        rw [HGt.out] at CX
        generalize Md.set 4 x = Nw at *
        go_upto_region 13 with fail
        go_wp2_with (first | refine wl_load24 (B := p) (.tmp 9) rfl rfl rfl hMd Y9.out ?_ | fail)
        refine (CS.out _).mono ?_
        rintro e wb ⟨rfl, hbb⟩
        have K1 := Hid.mk' (K9.out.keep hbb)
        have Y1 := Hid.mk' (Y9.out.keep hbb)
        have R1 := Hid.mk' (R9.out.keep hbb)
        have L1 := Hid.mk' (bT L9.out hbb)
        clear hbb K9 Y9 R9 L9 CS
        have BZ := Hid.mk' (Blk.new wb 24 (mk zm))
        obtain ⟨hBn, hbn⟩ := boxed24 (w := wb) hNw.out
        have K2 := Hid.mk' (K1.out.keep hbn)
        have Y2 := Hid.mk' (Y1.out.keep hbn)
        have R2 := Hid.mk' (R1.out.keep hbn)
        have L2 := Hid.mk' (bT L1.out hbn)
        have N2 := Hid.mk' hBn
        clear hBn hbn K1 Y1 R1 L1
        go_upto_region 14 with (refine wl_store24 (B := wb.heap.size) (L := Nw) (.tmp 10) (.tmp 67) rfl rfl rfl rfl hNw.out (by rfl) BZ.out ?_)
        generalize put24 (wb.alloc (.cells (mk zm) 24)) wb.heap.size Nw = wc at *
        generalize wb.heap.size = pn at *
        clear BZ
        go_upto_region 16 with fail
        go_wp2_with (first | refine wl_load24 (B := pn) (.tmp 10) rfl rfl rfl hNw.out N2.out ?_ | refine wl_load24 (B := w.heap.size) (.tmp 3) rfl rfl rfl hL K2.out ?_ | refine wl_load24 (B := p) (.tmp 9) rfl rfl rfl hMd Y2.out ?_ | fail)
        refine (CX.out _ R2.out).mono ?_
        rintro e wd ⟨rfl, hbb⟩
        have K3 := Hid.mk' (K2.out.keep hbb)
        have Y3 := Hid.mk' (Y2.out.keep hbb)
        have R3 := Hid.mk' (R2.out.keep hbb)
        have N3 := Hid.mk' (N2.out.keep hbb)
        have L3 := Hid.mk' (bT L2.out hbb)
        clear hbb K2 Y2 R2 L2 N2 CX
        have BZ := Hid.mk' (Blk.new wd 24 (mk zm))
        obtain ⟨hBn, hbn⟩ := boxed24 (w := wd) (L := L) hL
        have K4 := Hid.mk' (K3.out.keep hbn)
        have Y4 := Hid.mk' (Y3.out.keep hbn)
        have R4 := Hid.mk' (R3.out.keep hbn)
        have N4 := Hid.mk' (N3.out.keep hbn)
        have L4 := Hid.mk' (bT L3.out hbn)
        have G4 := Hid.mk' hBn
        clear hBn hbn K3 Y3 R3 L3 N3
        go_upto_region 17 with (refine wl_store24 (B := wd.heap.size) (L := L) (.tmp 12) (.tmp 81) rfl rfl rfl rfl hL (by rfl) BZ.out ?_)
        generalize put24 (wd.alloc (.cells (mk zm) 24)) wd.heap.size L = we at *
        generalize wd.heap.size = pg at *
        clear BZ
        have BZ := Hid.mk' (Blk.new we 24 (mk zm))
        obtain ⟨hBn, hbn⟩ := boxed24 (w := we) (L := L) hL
        have hlo := bAlloc (Below.refl _ we) (.cells (mk zm) 24)
        have K4a := Hid.mk' (K4.out.keep hlo)
        have K5 := Hid.mk' (K4.out.keep hbn)
        have Y5 := Hid.mk' (Y4.out.keep hbn)
        have R5 := Hid.mk' (R4.out.keep hbn)
        have N5 := Hid.mk' (N4.out.keep hbn)
        have G5 := Hid.mk' (G4.out.keep hbn)
        have L5 := Hid.mk' (bT L4.out hbn)
        have W5 := Hid.mk' hBn
        have HPW : Hid (pg < we.heap.size) := G4.out.lt
        clear hBn hbn hlo Y4 R4 L4 N4 G4
        go_upto_region 18 with (first | refine wl_load24 (B := w.heap.size) (.tmp 3) rfl rfl rfl hL K4.out ?_ | refine wl_store24 (B := we.heap.size) (L := L) (.tmp 13) (.tmp 82) rfl rfl rfl rfl hL (by rfl) BZ.out ?_)
        generalize put24 (we.alloc (.cells (mk zm) 24)) we.heap.size L = wf at *
        generalize we.heap.size = pw at *
        clear BZ K4 K4a
        have c4 : wf.cell? ⟨p, 4, none⟩ = some (.int .i64 x) := Y5.out.mkAt hy
        have hee := fun W => eq24 W L hL
        go_upto_region 20 with fail
        go_wp2_with (first | refine wl_load24 (B := pg) (.tmp 12) rfl rfl rfl hL G5.out ?_ | refine wl_load24 (B := pw) (.tmp 13) rfl rfl rfl hL W5.out ?_)
        go_ret
        exact ⟨rfl, L5.out⟩
      · skip
        have hNw : Hid ((Md.set 4 x).length = 27) := by unfold Hid; simpa using hMd
        have CS := Hid.mk' (fun W => set_any Md 101 x W hMd (by decide))
        rw [set101, if_neg hx0] at CS
        unfold sE at CS
        have CX := Hid.mk' (fun W (h : Edr W a7 F) => cross_any (Md.set 4 x) L Md a7 n c7 F W hNw.out hL hMd h HFl.out (by omega))
        have CV := Hid.mk' (fun W (h : Edr W a7 F) => move_any (Md.set 4 x) a7 n c7 F W hNw.out h HFl.out (by omega))
        have hVl : Hid ((mvL (Md.set 4 x) (F.map Er.t)).length = 27) := by unfold Hid; rw [mvL_len]; exact hNw.out
        generalize mvL (Md.set 4 x) (F.map Er.t) = V at *
        obtain ⟨v4, hv4⟩ : ∃ v, V[4]? = some v := ⟨_, List.getElem?_eq_getElem (by have := hVl.out; omega)⟩
        have HGt : Hid (crL (Md.set 4 x) L Md V 27 = L.set 4 v4) := crL_back Md L V hMd hL x y v4 hy hv4 hxy
        have hWl : Hid ((L.set 4 v4).length = 27) := by unfold Hid; simpa using hL
        rw [HGt.out] at CX
        generalize Md.set 4 x = Nw at *
        go_upto_region 13 with fail
        go_wp2_with (first | refine wl_load24 (B := p) (.tmp 9) rfl rfl rfl hMd Y9.out ?_ | fail)
        refine (CS.out _).mono ?_
        rintro e wb ⟨rfl, hbb⟩
        have K1 := Hid.mk' (K9.out.keep hbb)
        have Y1 := Hid.mk' (Y9.out.keep hbb)
        have R1 := Hid.mk' (R9.out.keep hbb)
        have L1 := Hid.mk' (bT L9.out hbb)
        clear hbb K9 Y9 R9 L9 CS
        have BZ := Hid.mk' (Blk.new wb 24 (mk zm))
        obtain ⟨hBn, hbn⟩ := boxed24 (w := wb) hNw.out
        have K2 := Hid.mk' (K1.out.keep hbn)
        have Y2 := Hid.mk' (Y1.out.keep hbn)
        have R2 := Hid.mk' (R1.out.keep hbn)
        have L2 := Hid.mk' (bT L1.out hbn)
        have N2 := Hid.mk' hBn
        clear hBn hbn K1 Y1 R1 L1
        go_upto_region 14 with (refine wl_store24 (B := wb.heap.size) (L := Nw) (.tmp 10) (.tmp 67) rfl rfl rfl rfl hNw.out (by rfl) BZ.out ?_)
        generalize put24 (wb.alloc (.cells (mk zm) 24)) wb.heap.size Nw = wc at *
        generalize wb.heap.size = pn at *
        clear BZ
        go_upto_region 16 with fail
        go_wp2_with (first | refine wl_load24 (B := pn) (.tmp 10) rfl rfl rfl hNw.out N2.out ?_ | refine wl_load24 (B := w.heap.size) (.tmp 3) rfl rfl rfl hL K2.out ?_ | refine wl_load24 (B := p) (.tmp 9) rfl rfl rfl hMd Y2.out ?_ | fail)
        refine (CX.out _ R2.out).mono ?_
        rintro e wd ⟨rfl, hbb⟩
        have K3 := Hid.mk' (K2.out.keep hbb)
        have Y3 := Hid.mk' (Y2.out.keep hbb)
        have R3 := Hid.mk' (R2.out.keep hbb)
        have N3 := Hid.mk' (N2.out.keep hbb)
        have L3 := Hid.mk' (bT L2.out hbb)
        clear hbb K2 Y2 R2 L2 N2 CX
        have BZ := Hid.mk' (Blk.new wd 24 (mk zm))
        obtain ⟨hBn, hbn⟩ := boxed24 (w := wd) (L := (L.set 4 v4)) hWl.out
        have K4 := Hid.mk' (K3.out.keep hbn)
        have Y4 := Hid.mk' (Y3.out.keep hbn)
        have R4 := Hid.mk' (R3.out.keep hbn)
        have N4 := Hid.mk' (N3.out.keep hbn)
        have L4 := Hid.mk' (bT L3.out hbn)
        have G4 := Hid.mk' hBn
        have HKP0 : Hid (w.heap.size ≤ wd.heap.size) := L3.out.size
        clear hBn hbn K3 Y3 R3 L3 N3
        go_upto_region 17 with (refine wl_store24 (B := wd.heap.size) (L := (L.set 4 v4)) (.tmp 12) (.tmp 81) rfl rfl rfl rfl hWl.out (by rfl) BZ.out ?_)
        generalize put24 (wd.alloc (.cells (mk zm) 24)) wd.heap.size (L.set 4 v4) = we at *
        have HKP : Hid (w.heap.size ≤ wd.heap.size) := HKP0.out
        generalize wd.heap.size = pg at *
        clear BZ
        have BZ := Hid.mk' (Blk.new we 24 (mk zm))
        obtain ⟨hBn, hbn⟩ := boxed24 (w := we) (L := L) hL
        have hlo := bAlloc (Below.refl _ we) (.cells (mk zm) 24)
        have K4a := Hid.mk' (K4.out.keep hlo)
        have K5 := Hid.mk' (K4.out.keep hbn)
        have Y5 := Hid.mk' (Y4.out.keep hbn)
        have R5 := Hid.mk' (R4.out.keep hbn)
        have N5 := Hid.mk' (N4.out.keep hbn)
        have G5 := Hid.mk' (G4.out.keep hbn)
        have L5 := Hid.mk' (bT L4.out hbn)
        have W5 := Hid.mk' hBn
        have HPW : Hid (pg < we.heap.size) := G4.out.lt
        have HKG : Hid (w.heap.size ≤ pg) := HKP.out
        clear hBn hbn hlo Y4 R4 L4 N4 G4
        go_upto_region 18 with (first | refine wl_load24 (B := w.heap.size) (.tmp 3) rfl rfl rfl hL K4.out ?_ | refine wl_store24 (B := we.heap.size) (L := L) (.tmp 13) (.tmp 82) rfl rfl rfl rfl hL (by rfl) BZ.out ?_)
        generalize put24 (we.alloc (.cells (mk zm) 24)) we.heap.size L = wf at *
        generalize we.heap.size = pw at *
        clear BZ K4 K4a
        have c4 : wf.cell? ⟨p, 4, none⟩ = some (.int .i64 y) := Y5.out.mkAt hy
        have hxe : (x != y) = true := by simpa using hxy
        have hxe2 : (x == y) = false := by simpa using hxy
        have hee := fun W => eq24 W (L.set 4 v4) hWl.out
        have hf0 := fun W => fld0 hVl.out W
        have hix : ∀ W, (Instr.index 22 (.agg (mk (V.take 26))) (.int .i64 4)).run Try.prog W = .ok (.int .i64 v4) W := fun W => ix22 (M := V.take 26) (i := 4) (x := v4) (by rw [List.length_take, hVl.out]; rfl) (by rw [List.getElem?_take, if_pos (by decide)]; exact hv4) W
        obtain ⟨l4, hl4⟩ : ∃ v, L[4]? = some v := ⟨_, List.getElem?_eq_getElem (by omega)⟩
        generalize V.take 26 = Vt at *
        go_upto_region 19 with fail
        go_wp2_with (first | refine wl_load24 (B := pn) (.tmp 10) rfl rfl rfl hNw.out N5.out ?_ | fail)
        refine (CV.out _ R5.out).mono ?_
        rintro e wg ⟨rfl, hbb⟩
        have G6 := Hid.mk' (G5.out.keep hbb)
        have W6 := Hid.mk' (W5.out.keep hbb)
        have L6 := Hid.mk' (bT L5.out hbb)
        have c5 : wg.cell? ⟨pw, 4, none⟩ = some (.int .i64 l4) := W6.out.mkAt hl4
        have f5 := W6.out.frozen 4
        have I6 := Hid.mk' (W6.out.mkSet (k := 4) v4)
        have J6 := Hid.mk' (G6.out.off (j := 4) (B := pw) (by have := HPW.out; omega) (.int .i64 v4))
        have M6 : Hid (Below w.heap.size w (wg.setCell ⟨pw, 4, none⟩ (.int .i64 v4))) := L6.out.setCell (show w.heap.size ≤ pw by have h1 := HPW.out; have h2 := HKG.out; omega) _
        clear hbb K5 Y5 R5 N5 G5 W5 L5 CV c4 G6 W6 L6 hl4 hv4
        go_upto_region 20 with fail
        generalize wg.setCell ⟨pw, 4, none⟩ (.int .i64 v4) = wh at *
        clear c5 f5
        generalize L.set 4 v4 = Wt at *
        go_wp2_with (first | refine wl_load24 (B := pg) (.tmp 12) rfl rfl rfl hWl.out J6.out ?_ | refine wl_load24 (B := pw) (.tmp 13) rfl rfl rfl hWl.out I6.out ?_)
        go_ret
        exact ⟨rfl, M6.out⟩
end Go.Proofs.Ytdoheblkhnmmiaa
