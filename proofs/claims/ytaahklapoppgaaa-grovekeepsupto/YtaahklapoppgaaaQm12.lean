/- slices.Clone of edits; the program's copyEdits. -/
import Derived.Test.YtaahklapoppgaaaQm11
namespace Go.Proofs.Ytaahklapoppgaaa
open Go.RowKit

set_option maxRecDepth 8000
def ClP (n : Nat) (E : List Er) (w : World) (e : Ending) (w' : World) : Prop := ∃ v, e = .returned v ∧ w'.ownsRow w.heap.size 77 3 v n (ecs E) ∧ Below w.heap.size w w'
set_option maxHeartbeats 1000000 in
theorem cloneE_any (eo : Option Addr) (en ec : Nat) (E : List Er) (w : World) (HE : Hid (Edz w eo E)) (hn : E.length = en) (hc : eo = none → ec = 0) (heb : en * 56 ≤ 140737488355328) :
    Calls Try.prog 71 #[.slice eo en ec] w fun e w' => ClP en E w e w' := by
  obtain ⟨i8, hi8, hz8, hs8, hb8⟩ := info_parts info38
  have q38 : ∀ (w : World) (a : Option Addr) (n c n' c' : Nat), (binOp .eql 38 (.slice a n c) (.slice none n' c')).run Try.prog w = .ok (.bool a.isNone) w := fun w a n c n' c' => Lib.run_eql_slice_nil w _ _ a n c n' c' Try.underlying38
  have HS := mkH (HE.out.row.srv (c := ec) hn hc)
  cases eo with
  | none =>
    have hE : E = [] := by
      cases hE : E with
      | nil => rfl
      | cons r E' =>
        obtain ⟨g, o, h0, _⟩ := HE.out.row 0 r (by rw [hE]; rfl)
        cases h0
    subst hE
    have hn0 : en = 0 := by simpa using hn.symm
    subst hn0
    go_enter Try.func71, Try.ntmps71
    go_wp2
    go_ret
    exact ⟨_, rfl, ⟨rfl, .inl ⟨rfl, rfl⟩⟩, Below.refl _ _⟩
  | some a =>
    have HN := mkH hn
    clear hn
    have SA : Hid (Srv (w.alloc (.cells #[] 77)) (.slice (some a) en ec) en (ecs E)) := by
      rcases HS.out with ⟨h1, -, -⟩ | ⟨ad, c, h1, h2⟩
      · cases h1
      · exact .inr ⟨ad, c, h1, fun j t hj => cell_keep (h2 j t hj) (bAlloc (Below.refl _ _) _)⟩
    go_enter Try.func71, Try.ntmps71
    go_wp2_with (at_builtin; refine append_srv rfl (.tmp 5) (.tmp 6) 38 rfl w.heap.size 77 i8 _ 3 56 Try.underlying38 hi8 hz8 hs8 hb8 rfl (by decide) (.slice (some ⟨w.heap.size, 0, none⟩) 0 0) 0 [] rfl (World.ownsRow_made w #[] 0 (Nat.le_refl _) (Nat.zero_le _) rfl) (.slice (some a) en ec) en (ecs E) rfl SA.out (by rw [ecs_len, HN.out]) (ecs_one E) (by unfold maxLen; omega) (by omega) (by simp) ?_)
    intro v1 w1 hown hgrow _
    have HW1 : Hid (w1.ownsRow w.heap.size 77 3 v1 en (ecs E)) := by unfold Hid; simpa using hown
    have L1 : Hid (Below w.heap.size w w1) := ((Below.refl _ w).alloc (Nat.le_refl _) _).grown hgrow (by simp) (by intro k hk; simp [Value.ownBlock] at hk; omega)
    clear hown hgrow
    go_wp2
    go_ret
    exact ⟨v1, rfl, HW1.out, L1.out⟩
theorem blk_c3 {W : World} {B t : Nat} {a b c : Value} (h : Blk W B t #[a, b, c]) : W.cell? ⟨B, 1, none⟩ = some b ∧ W.cell? ⟨B, 2, none⟩ = some c := ⟨h.cell rfl, h.cell rfl⟩
theorem ecs_put {F Y : List Er} {r r' : Er} {u1 u2 : Value} (h2 : r'.cs.toList = (r.cs.toList.set 1 u1).set 2 u2) : ((ecs (F ++ r :: Y)).set (F.length * 3 + 1) u1).set (F.length * 3 + 2) u2 = ecs (F ++ r' :: Y) := by
  have e : ∀ x : Er, ecs (F ++ x :: Y) = ecs F ++ (x.cs.toList ++ ecs Y) := fun x => by rw [ecs_append]; rfl
  rw [e, e, h2]
  have hl := ecs_len F
  rw [List.set_append_right _ _ (by omega), List.set_append_right _ _ (by omega), hl, show F.length * 3 + 1 - F.length * 3 = 1 by omega, show F.length * 3 + 2 - F.length * 3 = 2 by omega]
  rfl
set_option maxHeartbeats 8000000 in
set_option linter.unusedSimpArgs false in
theorem copyEdits_any (eo : Option Addr) (en ec : Nat) (E : List Er) (w : World) (HE : Hid (Edz w eo E)) (hn : E.length = en) (hc : eo = none → ec = 0) (heb : en * 56 ≤ 140737488355328) :
    Calls Try.prog 53 #[.slice eo en ec] w fun e w' => LstP (E.map Er.d) w e w' := by
  have HN := mkH hn
  have CC := mkH (cloneE_any eo en ec E w HE hn hc heb)
  clear hn hc
  go_enter Try.func53, Try.ntmps53
  go_wp2_with fail
  refine CC.out.mono ?_
  rintro e w1 ⟨v, rfl, hO, hB⟩
  have R0 : Hid (Rws w w1 (⟨77, 3, v, en, ecs E⟩ :: rowsE [])) := (Rws.nil w).new hB hO
  obtain ⟨va, vc, rfl⟩ := own_shape hO
  clear hO hB CC
  go_wp2_with fail
  go_loopg [4, 5, 10] en (fun m x4 x5 x10 wx => ∃ (i : Nat) (F : List Er), x10 = .int .i64 (i : Int) ∧ i + m = en ∧ Hid (F.length = i) ∧ Hid (F.map Er.d = (E.map Er.d).take i) ∧ Hid (∀ r ∈ F, r.o ≤ 140737488355328 ∧ r.n ≤ 140737488355328) ∧ Hid (Rws w wx (⟨77, 3, .slice va en vc, en, ecs (F ++ E.drop i)⟩ :: rowsE F)))
  case atStart => exact ⟨0, [], rfl, by omega, rfl, rfl, (fun r hr => by cases hr), R0.out⟩
  case round =>
    obtain ⟨i, F, rfl, him, KL, KD, KBn, KR⟩ := hrel
    obtain ⟨go, hgo⟩ : ∃ g, g = gk - 1 := ⟨_, rfl⟩
    by_cases hi : i < en
    · have hi' : (i : Int) < (en : Int) := by omega
      have hi0 : (0 : Int) ≤ (i : Int) := by omega
      obtain ⟨r, hr⟩ : ∃ r, E[i]? = some r := ⟨_, List.getElem?_eq_getElem (by have := HN.out; omega)⟩
      have HDr : Hid (E.drop i = r :: E.drop (i + 1)) := by
        obtain ⟨h1, h2⟩ := List.getElem?_eq_some_iff.1 hr
        unfold Hid
        rw [List.drop_eq_getElem_cons h1, h2]
      have HMt := mkH (map_take hr)
      have HET := mkH (HE.out.txs i r hr)
      have KO := KR.out.own 0 _ rfl
      dsimp only at KO
      obtain ⟨g, cap, hv, -, -⟩ := own_some KO (by omega)
      simp only [Value.slice.injEq] at hv
      obtain ⟨rfl, -, rfl⟩ := hv
      obtain ⟨a', c', e', hEd, -⟩ := own_edr KO
      simp only [Value.slice.injEq] at e'
      obtain ⟨rfl, -, -⟩ := e'
      obtain ⟨g', o', e1, h3⟩ := hEd.ed3 (k := i) (r := r) (by rw [List.getElem?_append_right (by have := KL.out; omega), KL.out, Nat.sub_self, HDr.out]; rfl)
      have e1' : g' = g ∧ o' = 0 := by simp at e1; exact ⟨e1.1.symm, e1.2.symm⟩
      obtain ⟨rfl, rfl⟩ := e1'
      rw [Nat.zero_add] at h3
      have t0 := h3.e0
      have t1 := h3.e1
      have t2 := h3.e2
      have HG : Hid (g' < wr.heap.size) := h3.lt
      have CL1 := mkH (fun W (hW : Below w.heap.size w W) => clone_any r.p1 r.o r.c1 r.O W HET.out.b1 (HET.out.t1.keep hW))
      have CL2 := mkH (fun W (hW : Below w.heap.size w W) => clone_any r.p2 r.n r.c2 r.N W HET.out.b2 (HET.out.t2.keep hW))
      have HB1 := mkH HET.out.b1
      have HB2 := mkH HET.out.b2
      have HLO := mkH HET.out.t1.len
      have HLN := mkH HET.out.t2.len
      obtain ⟨ra, rp1, ro, rc1, rO, rp2, rn, rc2, rN⟩ := r
      dsimp only at t0 t1 t2 CL1 CL2 HB1 HB2 HLO HLN
      obtain ⟨q, hq⟩ : ∃ q, wr.heap.size = q := ⟨_, rfl⟩
      generalize hW2 : wr.alloc (.cells #[.int .i64 ra, .slice rp1 ro rc1, .slice rp2 rn rc2] 77) = W2
      have KX : Hid (Blk W2 q 77 #[.int .i64 ra, .slice rp1 ro rc1, .slice rp2 rn rc2]) := by subst hW2; rw [← hq]; exact Blk.new wr 77 _
      have R2 : Hid (Rws w W2 (⟨77, 3, .slice (some ⟨g', 0, none⟩) en vc, en, ecs (F ++ E.drop i)⟩ :: rowsE F)) := by subst hW2; exact KR.out.alloc _
      have HQ : Hid (g' < q) := by unfold Hid; rw [← hq]; exact HG.out
      have HQ2 : Hid (q < W2.heap.size) := KX.out.lt
      clear hr KO hEd e1 h3 KR
      go_upto_region 5 with fail
      clear hW2 t0 t1 t2
      have KXd : Hid (Blk W2.drew q 77 #[.int .i64 ra, .slice rp1 ro rc1, .slice rp2 rn rc2]) := KX.out
      have R2d : Hid (Rws w W2.drew (⟨77, 3, .slice (some ⟨g', 0, none⟩) en vc, en, ecs (F ++ E.drop i)⟩ :: rowsE F)) := R2.out.drew
      clear KX R2
      refine wp_region_held (S := fun w' => Blk w' q 77 #[.int .i64 ra, .slice rp1 ro rc1, .slice rp2 rn rc2]) (by kernel_rfl) ?_
      change wpAnyH _ _ _ _ _ _ _ _ (World.drew _)
      generalize W2.drew = V3 at *
      refine tk 0 (.slice (some ⟨g', 0, none⟩) en vc) KXd.out ?_
      refine tk 1 (.int .i64 (i : Int)) KXd.out ?_
      refine tk 2 (.slice (some ⟨g', 0, none⟩) en vc) KXd.out ?_
      refine tk 3 (.int .i64 (i : Int)) KXd.out ?_
      try simp only [Act.put, jj1, jj2, jj3, jj4, jj5, jj6]
      refine tk 4 (.pointer (some ⟨q, 1, none⟩)) KXd.out ?_
      refine ta 5 (.slice rp1 ro rc1) rfl (Or.inl ⟨by rfl, fun w9 h9 => by obtain ⟨h1, h2⟩ := blk_c3 h9; go_simp⟩) KXd.out ?_
      refine tk 7 (.pointer (some ⟨q, 2, none⟩)) KXd.out ?_
      refine ta 8 (.slice rp2 rn rc2) rfl (Or.inl ⟨by rfl, fun w9 h9 => by obtain ⟨h1, h2⟩ := blk_c3 h9; go_simp⟩) KXd.out ?_
      try simp only [Act.put, jj1, jj2, jj3, jj4, jj5, jj6]
      refine wpAnyH_all (rs := [6]) (by kernel_rfl) (by simp) (AllH.cons rfl (fun K hK => ?_) AllH.nil)
      go_simp
      refine (CL1.out V3 R2d.out.bel).mono ?_
      rintro e w5 ⟨v5, rfl, hO5, hB5⟩
      obtain ⟨p5, d5, rfl⟩ := own_shape hO5
      have R5 := mkH (R2d.out.new hB5 hO5)
      have KX5 := mkH (KXd.out.keep hB5)
      clear hO5 hB5 CL1
      dsimp only
      refine hK _ _ ⟨KX5.out, ?_⟩
      clear hK K
      try simp only [Act.put, jj1, jj2, jj3, jj4, jj5, jj6]
      refine wpAnyH_all (rs := [9]) (by kernel_rfl) (by simp) (AllH.cons rfl (fun K hK => ?_) AllH.nil)
      go_simp
      refine (CL2.out w5 R5.out.bel).mono ?_
      rintro e w6 ⟨v6, rfl, hO6, hB6⟩
      obtain ⟨p6, d6, rfl⟩ := own_shape hO6
      have R6 := mkH (R5.out.new hB6 hO6)
      have KX6 := mkH (KX5.out.keep hB6)
      have HO6 : Hid (w6.ownsRow w.heap.size 77 3 (.slice (some ⟨g', 0, none⟩) en vc) en (ecs (F ++ E.drop i))) := R6.out.own 0 _ rfl
      clear hO6 hB6 CL2
      dsimp only
      refine hK _ _ ⟨KX6.out, ?_⟩
      clear hK K
      try simp only [Act.put, jj1, jj2, jj3, jj4, jj5, jj6]
      refine tk 10 (.pointer (some ⟨g', i * 3, none⟩)) KX6.out ?_
      refine tk 11 (.pointer (some ⟨g', i * 3 + 1, none⟩)) KX6.out ?_
      try simp only [Act.put, jj1, jj2, jj3, jj4, jj5, jj6]
      refine wpAnyH_all (rs := [12]) (by kernel_rfl) (by simp) (AllH.cons rfl (fun K hK => ?_) AllH.nil)
      obtain ⟨u1, hu1⟩ : ∃ u, w6.cell? ⟨g', i * 3 + 1, none⟩ = some u := ⟨_, by rw [HO6.out.cellAt (i * 3 + 1) (by omega)]; exact List.getElem?_eq_getElem (by have := HO6.out.1; omega)⟩
      have f0 : w6.frozen? ⟨g', i * 3 + 1, none⟩ = false := HO6.out.frozenAt _
      have R7 := mkH (R6.out.store (i := 0) rfl (i * 3 + 1) (.slice p5 ro d5))
      have KX7 := mkH (KX6.out.off (B := g') (j := i * 3 + 1) (by have := HQ.out; omega) (.slice p5 ro d5))
      have HO7 : Hid ((w6.setCell ⟨g', i * 3 + 1, none⟩ (.slice p5 ro d5)).ownsRow w.heap.size 77 3 (.slice (some ⟨g', 0, none⟩) en vc) en ((ecs (F ++ E.drop i)).set (i * 3 + 1) (.slice p5 ro d5))) := R7.out.own 0 _ rfl
      go_simp
      clear hu1 f0
      generalize w6.setCell ⟨g', i * 3 + 1, none⟩ (.slice p5 ro d5) = w7 at *
      refine hK _ _ ⟨KX7.out, ?_⟩
      clear hK K
      refine tk 13 (.pointer (some ⟨g', i * 3, none⟩)) KX7.out ?_
      refine tk 14 (.pointer (some ⟨g', i * 3 + 2, none⟩)) KX7.out ?_
      try simp only [Act.put, jj1, jj2, jj3, jj4, jj5, jj6]
      refine wpAnyH_all (rs := [15]) (by kernel_rfl) (by simp) (AllH.cons rfl (fun K hK => ?_) AllH.nil)
      obtain ⟨u1, hu1⟩ : ∃ u, w7.cell? ⟨g', i * 3 + 2, none⟩ = some u := ⟨_, by rw [HO7.out.cellAt (i * 3 + 2) (by omega)]; exact List.getElem?_eq_getElem (by have := HO7.out.1; omega)⟩
      have f0 : w7.frozen? ⟨g', i * 3 + 2, none⟩ = false := HO7.out.frozenAt _
      have R8 := mkH (R7.out.store (i := 0) rfl (i * 3 + 2) (.slice p6 rn d6))
      have KX8 := mkH (KX7.out.off (B := g') (j := i * 3 + 2) (by have := HQ.out; omega) (.slice p6 rn d6))
      go_simp
      clear hu1 f0
      generalize w7.setCell ⟨g', i * 3 + 2, none⟩ (.slice p6 rn d6) = w8 at *
      refine hK _ _ ⟨KX8.out, ?_⟩
      clear hK K
      try simp only [Act.put, jj1, jj2, jj3, jj4, jj5, jj6]
      refine wpAnyH_done (by kernel_rfl) ?_ _
      have hrow := R8.out
      have hput := ecs_put (F := F) (Y := E.drop (i + 1)) (r := ⟨ra, rp1, ro, rc1, rO, rp2, rn, rc2, rN⟩) (r' := ⟨ra, p5, ro, d5, rO, p6, rn, d6, rN⟩) (u1 := .slice p5 ro d5) (u2 := .slice p6 rn d6) rfl
      rw [KL.out] at hput
      have R9 : Hid (Rws w w8 (⟨77, 3, .slice (some ⟨g', 0, none⟩) en vc, en, ecs ((F ++ [⟨ra, p5, ro, d5, rO, p6, rn, d6, rN⟩]) ++ E.drop (i + 1))⟩ :: rowsE (F ++ [⟨ra, p5, ro, d5, rO, p6, rn, d6, rN⟩]))) := by
        unfold Hid
        rw [rowsE_snoc, List.append_assoc F, show [(⟨ra, p5, ro, d5, rO, p6, rn, d6, rN⟩ : Er)] ++ E.drop (i + 1) = ⟨ra, p5, ro, d5, rO, p6, rn, d6, rN⟩ :: E.drop (i + 1) from rfl, ← hput, ← HDr.out]
        exact hrow
      clear hrow hput R2d R5 R6 R7 R8 KX6 KX7 KX8 KXd KX5 HO6 HO7
      have hw1 : IntKind.i64.wrap ((i : Int) + 1) = ((i + 1 : Nat) : Int) := by rw [IntKind.wrap_i64]; omega
      go_wp2
      go_roundg go
      case measure => omega
      case rel =>
        refine ⟨i + 1, F ++ [(⟨ra, p5, ro, d5, rO, p6, rn, d6, rN⟩ : Er)], by go_num, by omega, by rw [List.length_append, KL.out]; exact rfl, ?_, fun x hx => ?_, R9.out⟩
        · rw [HMt.out, List.map_append, KD.out]; rfl
        · rcases List.mem_append.1 hx with hx | hx
          · exact KBn.out x hx
          · simp at hx; subst hx; exact ⟨HB1.out, HB2.out⟩
    · have hi' : ¬ (i : Int) < (en : Int) := by omega
      obtain rfl : i = en := by omega
      have HX : Hid (E.drop i = []) := List.drop_eq_nil_of_le (by have := HN.out; omega)
      have HD : Hid (F.map Er.d = E.map Er.d) := by unfold Hid; rw [KD.out, List.take_of_length_le (by rw [List.length_map]; have := HN.out; omega)]
      go_wp2
      go_ret
      refine ⟨_, F, rfl, HD.out, ?_, KBn.out⟩
      have := KR.out
      rw [HX.out, List.append_nil] at this
      rw [KL.out]
      exact this
end Go.Proofs.Ytaahklapoppgaaa

/- The program's copyGrove. -/
namespace Go.Proofs.Ytaahklapoppgaaa
open Go.RowKit

set_option maxRecDepth 8000
theorem info63b : (Try.prog.info? 63).map (fun i => (i.zero, i.size, i.bytes)) = some (some (.agg zr.cs.toArray), 58, 480) := by kernel_rfl
theorem run_roomN (n m : Nat) (hn : n ≤ m) (hm : m ≤ 100000) : ∃ CS : List Value, CS.length = m * 58 ∧ ∀ W : World, (Instr.makeSlice 22 (.int .i64 (n : Int)) (.int .i64 (m : Int))).run Try.prog W = .ok (.slice (some ⟨W.heap.size, 0, none⟩) n m) (W.alloc (.cells CS.toArray 63)) := by
  obtain ⟨i0, hi, hz0, hz1, hz2⟩ := info_parts info63b
  refine ⟨(madeCells (Value.agg zr.cs.toArray).cells (m * 58)).toList, by simp [madeCells], fun W => ?_⟩
  have := run_make (P := Try.prog) W 22 63 i0 _ Try.underlying22 hi hz0 .i64 .i64 (n : Int) (m : Int) (by omega) (by omega) (by rw [hz2]; omega) (by omega)
  rw [hz1, show (n : Int).toNat = n by omega, show (m : Int).toNat = m by omega] at this
  rw [this]
/-- a history of one's own, as a call gives it -/
structure Hst (lo hi : Nat) (W : World) (B : Nat) (H : List Nr) (X : List Value) (S : List (Nat × Nat)) : Prop where
  row : Nrow W B H X
  gow : Gow lo hi W B H S
  l0 : lo ≤ B
  h0 : B < hi
  top : hi ≤ W.heap.size
theorem Hst.keep {lo hi B : Nat} {W W' : World} {H : List Nr} {X : List Value} {S : List (Nat × Nat)} (h : Hst lo hi W B H X S) (hb : Below W.heap.size W W') : Hst lo hi W' B H X S := ⟨h.row.keep hb, h.gow.keep hb, h.l0, h.h0, Nat.le_trans h.top hb.size⟩
theorem Hst.kept {lo hi a b B : Nat} {W W' : World} {H : List Nr} {X : List Value} {S : List (Nat × Nat)} (h : Hst lo hi W B H X S) (hk : Kept a b W W') (hd : b ≤ lo ∨ hi ≤ a) : Hst lo hi W' B H X S :=
  ⟨by have h1 := h.row; unfold Nrow Blk at h1 ⊢; rw [hk.block B (by have := h.h0; have := h.top; omega) (by have := h.l0; have := h.h0; omega)]; exact h1, h.gow.kept hk hd, h.l0, h.h0, Nat.le_trans h.top hk.size⟩
theorem Hst.grz {lo hi B : Nat} {W : World} {H : List Nr} {X : List Value} {S : List (Nat × Nat)} (h : Hst lo hi W B H X S) : Grz W (some ⟨B, 0, none⟩) H := h.gow.grz h.row
/-- what a call that makes a history gives -/
def CgP (D : List Nd) (now : Int) (more : Nat) (w : World) (e : Ending) (w' : World) : Prop := ∃ B H X S, e = .returned (.agg #[.slice (some ⟨B, 0, none⟩) D.length (D.length + more), .int .i64 now]) ∧ H.map Nr.d = D ∧ X.length = more * 58 ∧ Hst w.heap.size w'.heap.size w' B H X S ∧ Below w.heap.size w w'
theorem nd_ext {r r' : Nr} (h1 : r'.par = r.par) (h2 : r'.nxt = r.nxt) (h3 : r'.E.map Er.d = r.E.map Er.d) (h4 : r'.cur = r.cur) (h5 : r'.was = r.was) (h6 : r'.made = r.made) : r'.d = r.d := by
  unfold Nr.d; rw [h1, h2, h3, h4, h5, h6]
set_option maxHeartbeats 8000000 in
theorem copyGrove_any (g o n c more : Nat) (now : Int) (G : List Nr) (w : World) (HG : Hid (Grz w (some ⟨g, o, none⟩) G)) (hn : G.length = n) (hb : n ≤ 4097) (hm : more ≤ 1) :
    Calls Try.prog 54 #[.agg #[.slice (some ⟨g, o, none⟩) n c, .int .i64 now], .int .i64 (more : Int)] w fun e w' => CgP (G.map Nr.d) now more w e w' := by
  have HN := mkH hn
  obtain ⟨CS, hCS, hmk⟩ := run_roomN n (n + more) (by omega) (by omega)
  generalize hW1 : (w.alloc (.cells #[.slice (some ⟨g, o, none⟩) n c, .int .i64 now] 24)).alloc (.cells #[.slice none 0 0, .int .i64 0] 24) = W1
  have L1 : Hid (Below w.heap.size w W1) := by subst hW1; exact bAlloc (bAlloc (Below.refl _ _) _) _
  have K1 : Hid (Blk W1 w.heap.size 24 #[.slice (some ⟨g, o, none⟩) n c, .int .i64 now]) := by subst hW1; exact (Blk.new w 24 _).keep (bAlloc (Below.refl _ _) _)
  have K2 : Hid (Blk W1 (w.heap.size + 1) 24 #[.slice none 0 0, .int .i64 0]) := by
    subst hW1
    have := Blk.new (w.alloc (.cells #[.slice (some ⟨g, o, none⟩) n c, .int .i64 now] 24)) 24 #[.slice none 0 0, .int .i64 0]
    rwa [World.size_alloc] at this
  obtain ⟨B, hB⟩ : ∃ B, W1.heap.size = B := ⟨_, rfl⟩
  have HB2 : Hid (w.heap.size + 1 < B) := by unfold Hid; rw [← hB]; exact K2.out.lt
  generalize hW2 : W1.alloc (.cells CS.toArray 63) = W2
  have L2 : Hid (Below w.heap.size w W2) := by subst hW2; exact bAlloc L1.out _
  have K3 : Hid (Blk W2 w.heap.size 24 #[.slice (some ⟨g, o, none⟩) n c, .int .i64 now]) := by subst hW2; exact K1.out.keep (bAlloc (Below.refl _ _) _)
  have K4 : Hid (Blk W2 (w.heap.size + 1) 24 #[.slice none 0 0, .int .i64 0]) := by subst hW2; exact K2.out.keep (bAlloc (Below.refl _ _) _)
  have K5 : Hid (Blk W2 B 63 CS.toArray) := by subst hW2; rw [← hB]; exact Blk.new W1 63 _
  have HS2 : Hid (W2.heap.size = B + 1) := by subst hW2; unfold Hid; rw [← hB]; simp
  have a1 : W1.cell? ⟨w.heap.size, 0, none⟩ = some (.slice (some ⟨g, o, none⟩) n c) := K1.out.cell rfl
  have a2 : W2.cell? ⟨w.heap.size, 0, none⟩ = some (.slice (some ⟨g, o, none⟩) n c) := K3.out.cell rfl
  have hw0 : IntKind.i64.wrap ((n : Int) + (more : Int)) = (n : Int) + (more : Int) := by rw [IntKind.wrap_i64]; omega
  have hmk' : ∀ W : World, (Instr.makeSlice 22 (.int .i64 (n : Int)) (.int .i64 ((n : Int) + (more : Int)))).run Try.prog W = .ok (.slice (some ⟨W.heap.size, 0, none⟩) n (n + more)) (W.alloc (.cells CS.toArray 63)) := fun W => by
    have := hmk W
    rwa [Int.natCast_add] at this
  clear hmk
  have hcp := fun ty => copy63 W2 ty B n (n + more) ⟨g, o, none⟩ c (ncs G) (by rw [ncs_len HG.out.ok, hn]) ((HG.out.keep L2.out).src) (fun j hj => there_blk K5.out j (by rw [hCS]; have : n * 58 ≤ (n + more) * 58 := Nat.mul_le_mul_right _ (by omega); omega)) (ncs_one G)
  have HCS := mkH hCS
  clear hn hCS
  go_enter Try.func54, Try.ntmps54
  go_upto_region 3 with fail
  obtain ⟨W3, hW3⟩ : ∃ W3, W3 = W2.setCells B 0 (ncs G) := ⟨_, rfl⟩
  have G3 : Hid (W2.grownBy W3 (some B)) := by unfold Hid; rw [hW3]; exact grown_setCells _ _ _
  have K6 : Hid (∃ X, X.length = more * 58 ∧ Nrow W3 B ([] ++ G) X) := by
    obtain ⟨X0, X, e1, e2⟩ : ∃ X0 X, CS = X0 ++ X ∧ X0.length = n * 58 := ⟨CS.take (n * 58), CS.drop (n * 58), (List.take_append_drop _ _).symm, by rw [List.length_take, HCS.out]; have : n * 58 ≤ (n + more) * 58 := Nat.mul_le_mul_right _ (by omega); omega⟩
    refine ⟨X, ?_, ?_⟩
    · have := HCS.out
      rw [e1, List.length_append, e2] at this
      rw [Nat.add_mul] at this; omega
    · have h5 := K5.out
      rw [e1] at h5
      have := blk_setCells (ncs G) [] X0 X (by rw [e2, ncs_len HG.out.ok, HN.out]) (by simpa using h5)
      unfold Nrow
      rw [hW3]
      simpa using this
  rw [← hW3]
  obtain ⟨X, hX, hrow⟩ := K6.out
  have HX := mkH hX
  have R0 := mkH hrow
  have L3 : Hid (Below w.heap.size w W3) := L2.out.grown G3.out L2.out.size (fun k hk => by injection hk with hk; have := HB2.out; omega)
  have K7 : Hid (Blk W3 w.heap.size 24 #[.slice (some ⟨g, o, none⟩) n c, .int .i64 now]) := K3.out.grown G3.out (fun e => by injection e with e; have := HB2.out; omega)
  have K8 : Hid (Blk W3 (w.heap.size + 1) 24 #[.slice none 0 0, .int .i64 0]) := K4.out.grown G3.out (fun e => by injection e with e; have := HB2.out; omega)
  have HS3 : Hid (B + 1 ≤ W3.heap.size) := by have := HS2.out; have := G3.out.size; unfold Hid; omega
  clear hW3 hX hrow K6 G3 hW1 hW2 K1 K2 K3 K4 K5 L1 L2 a1 a2 hcp hmk' HS2 HCS hB
  go_wp2_with fail
  go_loopg [6, 22] n (fun m x6 x22 wx => ∃ (i : Nat) (H : List Nr) (S : List (Nat × Nat)), x22 = .int .i64 (i : Int) ∧ i + m = n ∧ Hid (H.length = i) ∧ Hid (H.map Nr.d = (G.map Nr.d).take i) ∧ Hid (Gow (B + 1) wx.heap.size wx B H S) ∧ Hid (Nrow wx B (H ++ G.drop i) X) ∧ Hid (Below w.heap.size w wx) ∧ Hid (Blk wx w.heap.size 24 #[.slice (some ⟨g, o, none⟩) n c, .int .i64 now]) ∧ Hid (Blk wx (w.heap.size + 1) 24 #[.slice none 0 0, .int .i64 0]) ∧ Hid (B + 1 ≤ wx.heap.size))
  case atStart => exact ⟨0, [], [], rfl, by omega, rfl, rfl, Gow.nil _ _ _ _, R0.out, L3.out, K7.out, K8.out, HS3.out⟩
  case round =>
    obtain ⟨i, H, S, rfl, him, KL, KD, KG, KR, KB, KK, KZ, KS⟩ := hrel
    obtain ⟨go, hgo⟩ : ∃ g, g = gk - 1 := ⟨_, rfl⟩
    by_cases hi : i < n
    · have hi' : (i : Int) < (n : Int) := by omega
      have hi0 : (0 : Int) ≤ (i : Int) := by omega
      obtain ⟨r, hr⟩ : ∃ r, G[i]? = some r := ⟨_, List.getElem?_eq_getElem (by have := HN.out; omega)⟩
      have hz := HG.out.nds i r hr
      have HZ := mkH hz
      have HDr : Hid (G.drop i = r :: G.drop (i + 1)) := by
        obtain ⟨h1, h2⟩ := List.getElem?_eq_some_iff.1 hr
        unfold Hid
        rw [List.drop_eq_getElem_cons h1, h2]
      have HMt : Hid ((G.map Nr.d).take (i + 1) = (G.map Nr.d).take i ++ [r.d]) := by
        have hd : (G.map Nr.d)[i]? = some r.d := by rw [List.getElem?_map, hr]; rfl
        obtain ⟨h1, h2⟩ := List.getElem?_eq_some_iff.1 hd
        unfold Hid
        rw [List.take_succ_eq_append_getElem h1, h2]
      have HOk : Hid (Ok58 (H ++ G.drop i)) := fun x hx => by
        rcases List.mem_append.1 hx with hx | hx
        · exact KG.out.ok x hx
        · exact HG.out.ok x (List.mem_of_mem_drop hx)
      have HAt : Hid ((H ++ G.drop i)[i]? = some r) := by
        unfold Hid
        rw [List.getElem?_append_right (by have := KL.out; omega), KL.out, Nat.sub_self, HDr.out]; rfl
      have t2 := (KR.out.nc HOk.out HAt.out hz.ww.len).c2
      have CE := mkH (copyEdits_any r.ea r.en r.ec r.E wr (hz.ez.keep KB.out) hz.len hz.nil hz.big)
      have hw1 : IntKind.i64.wrap ((i : Int) + 1) = ((i + 1 : Nat) : Int) := by rw [IntKind.wrap_i64]; omega
      obtain ⟨ea, en, ec, he1, he2, he3⟩ : ∃ ea en ec, r.ea = ea ∧ r.en = en ∧ r.ec = ec := ⟨_, _, _, rfl, rfl, rfl⟩
      rw [he1, he2, he3] at t2 CE
      have HE1 := mkH he1
      have HE2 := mkH he2
      have HE3 := mkH he3
      clear hr hz he1 he2 he3
      go_wp2_with fail
      refine CE.out.mono ?_
      rintro e w5 ⟨v5, F, rfl, hF, hL⟩
      obtain ⟨va, vc, rfl, -, -⟩ := hL.edz
      have hB5 := hL.bel
      have R5 := mkH (KR.out.keep hB5)
      have G5 := mkH (KG.out.keep hB5)
      have L5 := mkH (bT KB.out hB5)
      have K5 := mkH (KK.out.keep hB5)
      have Z5 := mkH (KZ.out.keep hB5)
      have LL := mkH (Ls.of hL)
      have HF := mkH hF
      have HFl : Hid (F.length = en) := by
        have := congrArg List.length hF
        rw [List.length_map, List.length_map, HZ.out.len, HE2.out] at this
        exact this
      obtain ⟨fl, hfl⟩ : ∃ fl, F.length = fl := ⟨_, rfl⟩
      rw [hfl] at LL HFl
      have HFL := mkH hfl
      rw [hfl]
      obtain ⟨s0, hs0⟩ : ∃ s, wr.heap.size = s := ⟨_, rfl⟩
      have HS0 := mkH hs0
      have HS5 : Hid (s0 ≤ w5.heap.size) := by unfold Hid; rw [← hs0]; exact hB5.size
      have KS' : Hid (B + 1 ≤ s0) := by unfold Hid; rw [← hs0]; exact KS.out
      rw [hs0] at LL G5
      have t5 : w5.cell? ⟨B, i * 58 + 2, none⟩ = some (.slice ea en ec) := by
        have := (R5.out.nc HOk.out HAt.out HZ.out.ww.len).c2
        rwa [HE1.out, HE2.out, HE3.out] at this
      have f5 : w5.frozen? ⟨B, i * 58 + 2, none⟩ = false := Blk.frozen R5.out _
      have P6 := mkH (R5.out.put (r' := { r with ea := va, en := fl, ec := vc, E := F }) (a := [.int .i64 r.par, .int .i64 r.nxt]) (old := [.slice r.ea r.en r.ec]) (vs := [.slice va fl vc]) (b := .int .i64 r.cur :: (ml r.was ++ ml r.made)) HOk.out HAt.out rfl rfl rfl)
      have Q6 : Hid (w5.grownBy (w5.setCell ⟨B, i * 58 + 2, none⟩ (.slice va fl vc)) (some B)) := grown_set _ _ _ _
      clear hF hL hB5 CE KR KG KB KK KZ KS hfl hs0
      dsimp only
      go_wp2_with fail
      obtain ⟨w6, hw6⟩ : ∃ w6, w6 = w5.setCell ⟨B, i * 58 + 2, none⟩ (.slice va fl vc) := ⟨_, rfl⟩
      have P7 : Hid (Nrow w6 B ((H ++ G.drop i).set i { r with ea := va, en := fl, ec := vc, E := F }) X) := by unfold Hid; rw [hw6]; exact P6.out
      rw [← hw6] at Q6 ⊢
      clear hw6 P6 t5 f5
      have Q7 : Hid (Gow (B + 1) w6.heap.size w6 B (H ++ [{ r with ea := va, en := fl, ec := vc, E := F }]) (S ++ [(s0, w5.heap.size)])) := by
        have h1 := G5.out.at Q6.out
        have hk : Kept B (B + 1) w5 w6 := Kept.one Q6.out
        exact h1.snoc (p := (s0, w5.heap.size)) ⟨LL.out.kept hk (.inl KS'.out), HFL.out, by show fl * 56 ≤ _; have h9 := HZ.out.big; rw [HE2.out] at h9; rw [HFl.out]; exact h9, HZ.out.ww, HZ.out.wm⟩ (Nat.le_refl _) HS5.out Q6.out.size KS'.out (.inl KS'.out)
      have E7 : Hid ((H ++ G.drop i).set i { r with ea := va, en := fl, ec := vc, E := F } = (H ++ [{ r with ea := va, en := fl, ec := vc, E := F }]) ++ G.drop (i + 1)) := by
        unfold Hid
        rw [HDr.out, List.set_append_right _ _ (by have := KL.out; omega), KL.out, Nat.sub_self, List.set_cons_zero, List.append_assoc]
        rfl
      go_roundg go
      case measure => omega
      case rel =>
        refine ⟨i + 1, H ++ [({ r with ea := va, en := fl, ec := vc, E := F } : Nr)], S ++ [(s0, w5.heap.size)], by go_num, by omega, by rw [List.length_append, KL.out]; rfl, ?_, Q7.out, ?_, L5.out.grown Q6.out L5.out.size (fun k hk => by injection hk with hk; have := HB2.out; omega), K5.out.grown Q6.out (fun e => by injection e with e; have := HB2.out; omega), Z5.out.grown Q6.out (fun e => by injection e with e; have := HB2.out; omega), (show B + 1 ≤ w6.heap.size by have := KS'.out; have := HS5.out; have := Q6.out.size; omega)⟩
        · rw [HMt.out, List.map_append, KD.out]
          have e9 : ({ r with ea := va, en := fl, ec := vc, E := F } : Nr).d = r.d := nd_ext (r := r) rfl rfl HF.out rfl rfl rfl
          rw [List.map_cons, e9]; rfl
        · rw [← E7.out]; exact P7.out
    · have hi' : ¬ (i : Int) < (n : Int) := by omega
      obtain rfl : i = n := by omega
      have HXd : Hid (G.drop i = []) := List.drop_eq_nil_of_le (by have := HN.out; omega)
      have HD : Hid (H.map Nr.d = G.map Nr.d) := by unfold Hid; rw [KD.out, List.take_of_length_le (by rw [List.length_map]; have := HN.out; omega)]
      have RF : Hid (Nrow wr B H X) := by have := KR.out; rw [HXd.out, List.append_nil] at this; exact this
      have b1 : wr.cell? ⟨w.heap.size, 1, none⟩ = some (.int .i64 now) := KK.out.cell rfl
      have z0 : wr.cell? ⟨w.heap.size + 1, 0, none⟩ = some (.slice none 0 0) := KZ.out.cell rfl
      have z1 : wr.cell? ⟨w.heap.size + 1, 1, none⟩ = some (.int .i64 0) := KZ.out.cell rfl
      have fz : ∀ j, wr.frozen? ⟨w.heap.size + 1, j, none⟩ = false := fun j => KZ.out.frozen j
      have fz0 := fz 0
      have fz1 := fz 1
      have K9 := mkH ((KZ.out.set (j := 0) (.slice (some ⟨B, 0, none⟩) i (i + more))).set (j := 1) (.int .i64 now))
      have G9 : Hid (wr.grownBy ((wr.setCell ⟨w.heap.size + 1, 0, none⟩ (.slice (some ⟨B, 0, none⟩) i (i + more))).setCell ⟨w.heap.size + 1, 1, none⟩ (.int .i64 now)) (some (w.heap.size + 1))) := (grown_set _ _ _ _).trans (grown_set _ _ _ _)
      clear fz KR
      go_wp2
      generalize (wr.setCell ⟨w.heap.size + 1, 0, none⟩ (.slice (some ⟨B, 0, none⟩) i (i + more))).setCell ⟨w.heap.size + 1, 1, none⟩ (.int .i64 now) = w9 at *
      have e0 := K9.out.cell (j := 0) rfl
      have e1 := K9.out.cell (j := 1) rfl
      have hlen : (G.map Nr.d).length = i := by rw [List.length_map, HN.out]
      have hk9 := Kept.one G9.out
      refine bodyPost_ret (v := .agg #[.slice (some ⟨B, 0, none⟩) i (i + more), .int .i64 now]) (by simp [results, Try.results54, go_sem, e0, e1]) rfl ⟨B, H, X, S, by rw [hlen], HD.out, HX.out, ⟨?_, ?_, by have := HB2.out; omega, by have := KS.out; have := G9.out.size; omega, Nat.le_refl _⟩, KB.out.grown G9.out KB.out.size (fun k hk => by injection hk with hk; omega)⟩
      · exact Blk.grown RF.out G9.out (fun e => by injection e with e; have := HB2.out; omega)
      · exact (KG.out.kept hk9 (.inl (by have := HB2.out; omega))).wide (by have := HB2.out; omega) G9.out.size
end Go.Proofs.Ytaahklapoppgaaa

