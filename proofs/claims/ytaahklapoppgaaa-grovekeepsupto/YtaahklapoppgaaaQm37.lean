/- The reference's SameEdits, SameNode, Same, SameCrossing. -/
import Derived.Test.YtaahklapoppgaaaQm33
import Derived.Test.YtaahklapoppgaaaQm25
import Derived.Test.YtaahklapoppgaaaQm35
import Derived.Test.YtaahklapoppgaaaQm31
import Derived.Test.YtaahklapoppgaaaQm36
namespace Go.Proofs.Ytaahklapoppgaaa
open Go.RowKit

set_option maxRecDepth 8000
set_option maxHeartbeats 8000000 in
set_option linter.unusedSimpArgs false in
theorem same_yes (eo : Option Addr) (en ec : Nat) (E : List Er) (fo : Option Addr) (fn fc : Nat) (F : List Er) (w : World) (HE : Hid (Edz w eo E)) (HF : Hid (Edz w fo F)) (hn : E.length = en) (hfn : F.length = fn) (hD : E.map Er.d = F.map Er.d) (heb : en ≤ 140737488355328) :
    Calls Try.prog 30 #[.slice eo en ec, .slice fo fn fc] w fun e w' => e = .returned (.bool true) ∧ Below w.heap.size w w' := by
  obtain rfl : en = fn := by
    have := congrArg List.length hD
    simp at this; omega
  have HN := mkH hn
  have HFN := mkH hfn
  have HD := mkH hD
  clear hn hfn hD
  go_enter Try.func30, Try.ntmps30
  go_wp2_with fail
  go_loopg [5] en (fun m x5 wx => ∃ i : Nat, x5 = .int .i64 (i : Int) ∧ i + m = en ∧ Hid (Below w.heap.size w wx))
  case atStart => exact ⟨0, rfl, by omega, Below.refl _ _⟩
  case round =>
    obtain ⟨i, rfl, him, KB⟩ := hrel
    obtain ⟨go, hgo⟩ : ∃ g, g = gk - 1 := ⟨_, rfl⟩
    by_cases hi : i < en
    · have hi' : (i : Int) < (en : Int) := by omega
      have hi0 : (0 : Int) ≤ (i : Int) := by omega
      have hw8 : IntKind.i64.wrap ((i : Int) + 1) = ((i + 1 : Nat) : Int) := by rw [IntKind.wrap_i64]; omega
      obtain ⟨r, hr⟩ : ∃ r, E[i]? = some r := ⟨_, List.getElem?_eq_getElem (by have := HN.out; omega)⟩
      obtain ⟨q, hq⟩ : ∃ q, F[i]? = some q := ⟨_, List.getElem?_eq_getElem (by have := HFN.out; omega)⟩
      have hrq : r.d = q.d := by
        have h1 : (E.map Er.d)[i]? = some r.d := by rw [List.getElem?_map, hr]; rfl
        have h2 : (F.map Er.d)[i]? = some q.d := by rw [List.getElem?_map, hq]; rfl
        rw [HD.out, h2] at h1
        exact (Option.some.inj h1).symm
      obtain ⟨g, o, rfl, h3⟩ := HE.out.row.ed3 hr
      obtain ⟨g2, o2, rfl, h32⟩ := HF.out.row.ed3 hq
      have LD : Hid (Below w.heap.size w wr.drew) := KB.out.drew
      have hE1 := (HE.out.txs i r hr).keep LD.out
      have hE2 := (HF.out.txs i q hq).keep LD.out
      have h4 := h3.keep LD.out
      have h42 := h32.keep LD.out
      obtain ⟨ra, rp1, ro, rc1, rO, rp2, rn, rc2, rN⟩ := r
      obtain ⟨qa, qp1, qo, qc1, qO, qp2, qn, qc2, qN⟩ := q
      dsimp only [Er.d, Ed.mk.injEq] at hrq h4 h42 hE1 hE2
      have hrq' := Ed.mk.inj hrq
      obtain ⟨rfl, rfl, rfl⟩ := hrq'
      have t0 := h4.e0
      have t1 := h4.e1
      have t2 := h4.e2
      have s0 := h42.e0
      have s1 := h42.e1
      have s2 := h42.e2
      have v1 := conv_tx hE1.t1
      have v2 := conv_tx hE1.t2
      have v3 := conv_tx hE2.t1
      have v4 := conv_tx hE2.t2
      dsimp only at v1 v2 v3 v4
      have q1 := fun W => ne9_no rO W
      have q2 := fun W => ne9_no rN W
      clear hr hq hrq h3 h32 h4 h42 hE1 hE2 KB
      go_upto_region 6 with fail
      refine wp_region_held (S := fun w' => w' = wr.drew) (by kernel_rfl) ?_
      change wpAnyH _ _ _ _ _ _ _ _ (World.drew _)
      generalize wr.drew = V3 at *
      refine tk 0 (.slice (some ⟨g, o, none⟩) en ec) rfl ?_
      refine tk 1 (.int .i64 (i : Int)) rfl ?_
      refine tk 2 (.pointer (some ⟨g, o + i * 3, none⟩)) rfl ?_
      refine tk 3 (.pointer (some ⟨g, o + i * 3, none⟩)) rfl ?_
      try simp only [Act.put, jj1, jj2, jj3, jj4, jj5, jj6]
      refine ta 4 (.int .i64 ra) rfl (Or.inl ⟨by rfl, fun w9 h9 => by subst h9; go_simp⟩) rfl ?_
      refine tk 5 (.slice (some ⟨g2, o2, none⟩) en fc) rfl ?_
      refine tk 6 (.int .i64 (i : Int)) rfl ?_
      refine tk 7 (.pointer (some ⟨g2, o2 + i * 3, none⟩)) rfl ?_
      try simp only [Act.put, jj1, jj2, jj3, jj4, jj5, jj6]
      refine tk 8 (.pointer (some ⟨g2, o2 + i * 3, none⟩)) rfl ?_
      refine ta 9 (.int .i64 ra) rfl (Or.inl ⟨by rfl, fun w9 h9 => by subst h9; go_simp⟩) rfl ?_
      refine tk 10 (.bool false) rfl ?_
      refine tk 11 (.bool false) rfl ?_
      try simp only [Act.put, jj1, jj2, jj3, jj4, jj5, jj6]
      refine tk 12 (.slice (some ⟨g, o, none⟩) en ec) rfl ?_
      refine tk 13 (.int .i64 (i : Int)) rfl ?_
      refine tk 14 (.pointer (some ⟨g, o + i * 3, none⟩)) rfl ?_
      refine tk 15 (.pointer (some ⟨g, o + i * 3 + 1, none⟩)) rfl ?_
      try simp only [Act.put, jj1, jj2, jj3, jj4, jj5, jj6]
      refine ta 16 (.slice rp1 ro rc1) rfl (Or.inl ⟨by rfl, fun w9 h9 => by subst h9; go_simp⟩) rfl ?_
      refine ta 17 (.string ⟨rO.toArray⟩) rfl (Or.inl ⟨by rfl, fun w9 h9 => by subst h9; go_simp⟩) rfl ?_
      refine tk 18 (.slice (some ⟨g2, o2, none⟩) en fc) rfl ?_
      refine tk 19 (.int .i64 (i : Int)) rfl ?_
      try simp only [Act.put, jj1, jj2, jj3, jj4, jj5, jj6]
      refine tk 20 (.pointer (some ⟨g2, o2 + i * 3, none⟩)) rfl ?_
      refine tk 21 (.pointer (some ⟨g2, o2 + i * 3 + 1, none⟩)) rfl ?_
      refine ta 22 (.slice qp1 qo qc1) rfl (Or.inl ⟨by rfl, fun w9 h9 => by subst h9; go_simp⟩) rfl ?_
      refine ta 23 (.string ⟨rO.toArray⟩) rfl (Or.inl ⟨by rfl, fun w9 h9 => by subst h9; go_simp⟩) rfl ?_
      try simp only [Act.put, jj1, jj2, jj3, jj4, jj5, jj6]
      refine tk 24 (.bool false) rfl ?_
      refine tk 25 (.bool false) rfl ?_
      refine tk 26 (.bool false) rfl ?_
      refine tk 27 (.slice (some ⟨g, o, none⟩) en ec) rfl ?_
      try simp only [Act.put, jj1, jj2, jj3, jj4, jj5, jj6]
      refine tk 28 (.int .i64 (i : Int)) rfl ?_
      refine tk 29 (.pointer (some ⟨g, o + i * 3, none⟩)) rfl ?_
      refine tk 30 (.pointer (some ⟨g, o + i * 3 + 2, none⟩)) rfl ?_
      refine ta 31 (.slice rp2 rn rc2) rfl (Or.inl ⟨by rfl, fun w9 h9 => by subst h9; go_simp⟩) rfl ?_
      try simp only [Act.put, jj1, jj2, jj3, jj4, jj5, jj6]
      refine ta 32 (.string ⟨rN.toArray⟩) rfl (Or.inl ⟨by rfl, fun w9 h9 => by subst h9; go_simp⟩) rfl ?_
      refine tk 33 (.slice (some ⟨g2, o2, none⟩) en fc) rfl ?_
      refine tk 34 (.int .i64 (i : Int)) rfl ?_
      refine tk 35 (.pointer (some ⟨g2, o2 + i * 3, none⟩)) rfl ?_
      try simp only [Act.put, jj1, jj2, jj3, jj4, jj5, jj6]
      refine tk 36 (.pointer (some ⟨g2, o2 + i * 3 + 2, none⟩)) rfl ?_
      refine ta 37 (.slice qp2 qn qc2) rfl (Or.inl ⟨by rfl, fun w9 h9 => by subst h9; go_simp⟩) rfl ?_
      refine ta 38 (.string ⟨rN.toArray⟩) rfl (Or.inl ⟨by rfl, fun w9 h9 => by subst h9; go_simp⟩) rfl ?_
      refine tk 39 (.bool false) rfl ?_
      try simp only [Act.put, jj1, jj2, jj3, jj4, jj5, jj6]
      refine tk 40 (.bool false) rfl ?_
      try simp only [Act.put, jj1, jj2, jj3, jj4, jj5, jj6]
      refine wpAnyH_done (by kernel_rfl) ?_ _
      clear t0 t1 t2 s0 s1 s2 v1 v2 v3 v4 q1 q2
      go_wp2
      go_roundg go
      case measure => omega
      case rel => exact ⟨i + 1, by go_num, by omega, LD.out⟩
    · have hi' : ¬ (i : Int) < (en : Int) := by omega
      clear hgo
      go_wp2
      go_ret
      exact ⟨rfl, KB.out⟩
end Go.Proofs.Ytaahklapoppgaaa

/- The reference's SameNode, Same, SameCrossing; the law's sameInts. -/
namespace Go.Proofs.Ytaahklapoppgaaa
open Go.RowKit

set_option maxRecDepth 8000
theorem wl_bing {ops : Array Oper} {rest : List Oper} {op : Oper} {a : Act} {w : World} {Q : Exit → Act → World → Prop} {v : Value} (hw : Region.wanted op (yielded ops a.tmps) = true) (b : BinOp) (t t2 : TypeId) (x y : Operand) (ho : op.op = .binOp b t x y t2) {u1 u2 : Array Value} (hx : a.eval x = .agg u1) (hy : a.eval y = .agg u2) (hgt : Try.prog.eqGuardType Try.prog.depth t = false) (hrun : (binOp b t (.agg u1) (.agg u2)).run Try.prog w = .ok v w) (hr : wpList Try.prog ops Q rest (a.put op.dst v) w) : wpList Try.prog ops Q (op :: rest) a w := by
  simp only [wpList, hw, if_true]
  refine .inl ?_
  unfold Oper.wp execOp
  have hg : (eqGuard b t x y (.agg u1) (.agg u2)).run Try.prog w = .ok () w := run_eqGuard_agg _ _ _ _ _ _ _ hgt
  simp only [ho, hx, hy]
  simp only [Sem.run_bind, hg, hrun, Result.andThen_ok, Sem.run_pure]
  exact hr
set_option maxHeartbeats 8000000 in
theorem snode_yes (r s : Nr) (w : World) (HR : Hid (Nz w r)) (HS : Hid (Nz w s)) (hd : r.d = s.d) : Calls Try.prog 40 #[.agg (nd r), .agg (nd s)] w fun e w' => e = .returned (.bool true) ∧ Below w.heap.size w w' := by
  obtain ⟨h1, h2, h3, h4, h5, h6⟩ := Nd.mk.inj hd
  have C := fun W (hW : Below w.heap.size w W) => same_yes r.ea r.en r.ec r.E s.ea s.en s.ec s.E W (HR.out.ez.keep hW) (HS.out.ez.keep hW) HR.out.len HS.out.len h3 (by have := HR.out.big; omega)
  have hwl := HR.out.ww.len
  have hml := HR.out.wm.len
  have hwl2 := HS.out.ww.len
  obtain ⟨W0, hW0⟩ : ∃ x, w.alloc (.cells (nd r) 63) = x := ⟨_, rfl⟩
  obtain ⟨W1, hW1⟩ : ∃ x, W0.alloc (.cells (nd s) 63) = x := ⟨_, rfl⟩
  obtain ⟨b, hb⟩ : ∃ b, w.heap.size = b := ⟨_, rfl⟩
  obtain ⟨b2, hb2⟩ : ∃ b, W0.heap.size = b := ⟨_, rfl⟩
  have N1 : Hid (Nb W1 b r) := by
    unfold Hid
    rw [← hW1, ← hb]
    refine Nb.keep (Nb.of ?_ hwl) (bAlloc (Below.refl _ _) _)
    rw [← hW0]
    exact Blk.new w 63 _
  have N2 : Hid (Nb W1 b2 s) := by unfold Hid; rw [← hW1, ← hb2]; exact Nb.of (Blk.new W0 63 _) hwl2
  have L1 : Hid (Below w.heap.size w W1) := by unfold Hid; rw [← hW1, ← hW0]; exact bAlloc (bAlloc (Below.refl _ _) _) _
  have C1 := mkH (C W1 L1.out)
  clear C
  have c0 := N1.out.c0
  have c1 := N1.out.c1
  have c2 := N1.out.c2
  have c3 := N1.out.c3
  have M1 := mkH N1.out.m1
  have M2 := mkH N1.out.m2
  have d0 := N2.out.c0
  have d1 := N2.out.c1
  have d2 := N2.out.c2
  have d3 := N2.out.c3
  have P1 := mkH N2.out.m1
  have P2 := mkH N2.out.m2
  rw [← h1] at d0
  rw [← h2] at d1
  rw [← h4] at d3
  rw [← h5] at P1
  rw [← h6] at P2
  have eq1 := fun w => eql41 w r.was r.was hwl hwl
  have eq2 := fun w => eql41 w r.made r.made hml hml
  rw [decide_eq_true rfl] at eq1 eq2
  have EQ1 := mkH eq1
  have EQ2 := mkH eq2
  clear eq1 eq2 h1 h2 h3 h4 h5 h6 hd HR HS N1 N2 hwl2
  obtain ⟨nr, hnr⟩ : ∃ x, nd r = x := ⟨_, rfl⟩
  obtain ⟨ns, hns⟩ : ∃ x, nd s = x := ⟨_, rfl⟩
  rw [hnr] at hW0
  rw [hns] at hW1
  rw [hnr, hns]
  clear hnr hns
  obtain ⟨par, nxt, ea, en, ec, E, cur, was, made⟩ := r
  obtain ⟨par', nxt', ea', en', ec', E', cur', was', made'⟩ := s
  dsimp only at *
  go_enter Try.func40, Try.ntmps40
  go_upto_region 1 with fail
  clear hW0 hW1 hb hb2
  go_wp2_with (first | refine wl_ld41g (B := b) (o := 4) (.tmp 25) (by first | rfl | simp [Region.wanted, yielded]) rfl rfl hwl M1.out ?_ | refine wl_ld41g (B := b2) (o := 4) (.tmp 27) (by first | rfl | simp [Region.wanted, yielded]) rfl rfl hwl P1.out ?_ | refine wl_ld41g (B := b) (o := 31) (.tmp 32) (by first | rfl | simp [Region.wanted, yielded]) rfl rfl hml M2.out ?_ | refine wl_ld41g (B := b2) (o := 31) (.tmp 34) (by first | rfl | simp [Region.wanted, yielded]) rfl rfl hml P2.out ?_ | refine wl_bing (by first | rfl | simp [Region.wanted, yielded]) .eql 41 41 (.tmp 26) (.tmp 28) rfl rfl rfl Try.eqGuardType41 (EQ1.out _) ?_ | refine wl_bing (by first | rfl | simp [Region.wanted, yielded]) .eql 41 41 (.tmp 33) (.tmp 35) rfl rfl rfl Try.eqGuardType41 (EQ2.out _) ?_ | fail)
  refine C1.out.mono ?_
  rintro e w5 ⟨rfl, hb5⟩
  have L5 := mkH (bT L1.out hb5)
  clear hb5 C1 c0 c1 c2 c3 d0 d1 d2 d3 M1 M2 P1 P2 EQ1 EQ2
  dsimp only
  go_wp2
  go_ret
  exact ⟨rfl, L5.out⟩
set_option maxHeartbeats 8000000 in
set_option linter.unusedSimpArgs false in
theorem sameG_yes (ao : Option Addr) (n c : Nat) (now : Int) (G : List Nr) (bo : Option Addr) (k d : Nat) (H : List Nr) (w : World) (HG : Hid (Grz w ao G)) (HH : Hid (Grz w bo H)) (hn : G.length = n) (hk : H.length = k) (hd : G.map Nr.d = H.map Nr.d) (hb : n ≤ 281474976710656) :
    Calls Try.prog 11 #[.agg #[.slice ao n c, .int .i64 now], .agg #[.slice bo k d, .int .i64 now]] w fun e w' => e = .returned (.bool true) ∧ Below w.heap.size w w' := by
  obtain rfl : n = k := by have := congrArg List.length hd; simp at this; omega
  obtain ⟨W1, hW1⟩ : ∃ x, (w.alloc (.cells #[.slice ao n c, .int .i64 now] 24)).alloc (.cells #[.slice bo n d, .int .i64 now] 24) = x := ⟨_, rfl⟩
  have L1 : Hid (Below w.heap.size w W1) := by unfold Hid; rw [← hW1]; exact bAlloc (bAlloc (Below.refl _ _) _) _
  obtain ⟨b, hb1⟩ : ∃ b, w.heap.size = b := ⟨_, rfl⟩
  have K1 : Hid (Blk W1 b 24 #[.slice ao n c, .int .i64 now]) := by unfold Hid; rw [← hW1, ← hb1]; exact (Blk.new w 24 _).keep (bAlloc (Below.refl _ _) _)
  have K2 : Hid (Blk W1 (b + 1) 24 #[.slice bo n d, .int .i64 now]) := by
    unfold Hid
    rw [← hW1, ← hb1]
    have := Blk.new (w.alloc (.cells #[.slice ao n c, .int .i64 now] 24)) 24 #[.slice bo n d, .int .i64 now]
    rwa [World.size_alloc] at this
  have a1 : W1.cell? ⟨b, 0, none⟩ = some (.slice ao n c) := K1.out.cell rfl
  have a2 : W1.cell? ⟨b, 1, none⟩ = some (.int .i64 now) := K1.out.cell rfl
  have b1 : W1.cell? ⟨b + 1, 0, none⟩ = some (.slice bo n d) := K2.out.cell rfl
  have b2 : W1.cell? ⟨b + 1, 1, none⟩ = some (.int .i64 now) := K2.out.cell rfl
  have HN := mkH hn
  have HK := mkH hk
  have HD := mkH hd
  clear hn hk hd
  go_enter Try.func11, Try.ntmps11
  go_upto_region 1 with fail
  clear hW1 hb1
  go_wp2_with fail
  clear a2 b2
  go_loopg [5] n (fun m x5 wx => ∃ i : Nat, x5 = .int .i64 (i : Int) ∧ i + m = n ∧ Hid (Below W1.heap.size W1 wx))
  case atStart => exact ⟨0, rfl, by omega, Below.refl _ _⟩
  case round =>
    obtain ⟨i, rfl, him, KB⟩ := hrel
    obtain ⟨go, hgo⟩ : ∃ g, g = gk - 1 := ⟨_, rfl⟩
    have a3 := cell_keep a1 KB.out
    by_cases hi : i < n
    · have hi' : (i : Int) < (n : Int) := by omega
      have hi0 : (0 : Int) ≤ (i : Int) := by omega
      have hw8 : IntKind.i64.wrap ((i : Int) + 1) = ((i + 1 : Nat) : Int) := by rw [IntKind.wrap_i64]; omega
      obtain ⟨r, hr⟩ : ∃ r, G[i]? = some r := ⟨_, List.getElem?_eq_getElem (by have := HN.out; omega)⟩
      obtain ⟨s, hs⟩ : ∃ r, H[i]? = some r := ⟨_, List.getElem?_eq_getElem (by have := HK.out; omega)⟩
      have hrs : r.d = s.d := by
        have e1 : (G.map Nr.d)[i]? = some r.d := by rw [List.getElem?_map, hr]; rfl
        have e2 : (H.map Nr.d)[i]? = some s.d := by rw [List.getElem?_map, hs]; rfl
        rw [HD.out, e2] at e1
        exact (Option.some.inj e1).symm
      obtain ⟨g, o, rfl, n1⟩ := HG.out.at hr
      obtain ⟨g2, o2, rfl, n2⟩ := HH.out.at hs
      have R1 := mkH (range_keep n1.all L1.out)
      have R2 := mkH (range_keep n2.all L1.out)
      have hl1 := (HG.out.nds i r hr).cl
      have hl2 := (HH.out.nds i s hs).cl
      have CN := mkH (fun W (hW : Below w.heap.size w W) => snode_yes r s W ((HG.out.nds i r hr).keep hW) ((HH.out.nds i s hs).keep hW) hrs)
      have LD : Hid (Below W1.heap.size W1 wr.drew) := KB.out.drew
      clear hr hs hrs n1 n2 KB
      go_upto_region 6 with fail
      clear a3
      refine wp_region_held (S := fun w' => Below W1.heap.size W1 w') (by kernel_rfl) ?_
      change wpAnyH _ _ _ _ _ _ _ _ (World.drew _)
      generalize wr.drew = V3 at *
      refine tk 0 (.pointer (some ⟨b, 0, none⟩)) LD.out ?_
      refine ta 1 (.slice (some ⟨g, o, none⟩) n c) rfl (Or.inl ⟨by rfl, fun w9 h9 => by have h1 := cell_keep a1 h9; have h2 := cell_keep b1 h9; go_simp⟩) LD.out ?_
      refine tk 2 (.int .i64 (i : Int)) LD.out ?_
      refine tk 3 (.pointer (some ⟨g, o + i * 58, none⟩)) LD.out ?_
      try simp only [Act.put, jj1, jj2, jj3, jj4, jj5, jj6]
      refine ta 4 (.agg (nd r)) rfl (yi63 rfl (.tmp 30) rfl rfl hl1 (fun _ h => range_keep R1.out h)) LD.out ?_
      refine tk 5 (.pointer (some ⟨b + 1, 0, none⟩)) LD.out ?_
      refine ta 6 (.slice (some ⟨g2, o2, none⟩) n d) rfl (Or.inl ⟨by rfl, fun w9 h9 => by have h1 := cell_keep a1 h9; have h2 := cell_keep b1 h9; go_simp⟩) LD.out ?_
      refine tk 7 (.int .i64 (i : Int)) LD.out ?_
      try simp only [Act.put, jj1, jj2, jj3, jj4, jj5, jj6]
      refine tk 8 (.pointer (some ⟨g2, o2 + i * 58, none⟩)) LD.out ?_
      refine ta 9 (.agg (nd s)) rfl (yi63 rfl (.tmp 35) rfl rfl hl2 (fun _ h => range_keep R2.out h)) LD.out ?_
      try simp only [Act.put, jj1, jj2, jj3, jj4, jj5, jj6]
      refine wpAnyH_all (rs := [10]) (by kernel_rfl) (by simp) (AllH.cons rfl (fun K hK => ?_) AllH.nil)
      go_simp
      refine (CN.out V3 (bT L1.out LD.out)).mono ?_
      rintro e w5 ⟨rfl, hb5⟩
      have L5 := mkH (bT LD.out hb5)
      clear hb5
      dsimp only
      refine hK _ _ ⟨L5.out, ?_⟩
      clear hK K
      refine tk 11 (.bool false) L5.out ?_
      try simp only [Act.put, jj1, jj2, jj3, jj4, jj5, jj6]
      refine wpAnyH_done (by kernel_rfl) ?_ _
      clear hl1 hl2 R1 R2 CN
      go_wp2
      go_roundg go
      case measure => omega
      case rel => exact ⟨i + 1, by go_num, by omega, L5.out⟩
    · have hi' : ¬ (i : Int) < (n : Int) := by omega
      clear hgo
      go_wp2
      go_ret
      exact ⟨rfl, bT L1.out KB.out⟩
set_option maxHeartbeats 8000000 in
theorem scross_yes (ea : Option Addr) (en ec : Nat) (E : List Er) (fa : Option Addr) (fn fc : Nat) (F : List Er) (cur : Int) (m : List Int) (hm : m.length = 27) (w : World) (HE : Hid (Edz w ea E)) (HF : Hid (Edz w fa F)) (hn : E.length = en) (hfn : F.length = fn) (hD : E.map Er.d = F.map Er.d) (heb : en ≤ 140737488355328) :
    Calls Try.prog 27 #[.agg (cxa (.slice ea en ec) cur m), .agg (cxa (.slice fa fn fc) cur m)] w fun e w' => e = .returned (.bool true) ∧ Below w.heap.size w w' := by
  have C := fun W (hW : Below w.heap.size w W) => same_yes ea en ec E fa fn fc F W (HE.out.keep hW) (HF.out.keep hW) hn hfn hD heb
  obtain ⟨W0, hW0⟩ : ∃ x, w.alloc (.cells (cxa (.slice ea en ec) cur m) 50) = x := ⟨_, rfl⟩
  obtain ⟨W1, hW1⟩ : ∃ x, W0.alloc (.cells (cxa (.slice fa fn fc) cur m) 50) = x := ⟨_, rfl⟩
  obtain ⟨b, hb⟩ : ∃ b, w.heap.size = b := ⟨_, rfl⟩
  obtain ⟨b2, hb2⟩ : ∃ b, W0.heap.size = b := ⟨_, rfl⟩
  have N1 : Hid (W1.rangeAt b 0 (cx (.slice ea en ec) cur m)) := by
    unfold Hid
    rw [← hW1, ← hb]
    refine range_keep ?_ (bAlloc (Below.refl _ _) _)
    rw [← hW0]
    exact range_blk (Blk.new w 50 _)
  have N2 : Hid (W1.rangeAt b2 0 (cx (.slice fa fn fc) cur m)) := by unfold Hid; rw [← hW1, ← hb2]; exact range_blk (Blk.new W0 50 _)
  have L1 : Hid (Below w.heap.size w W1) := by unfold Hid; rw [← hW1, ← hW0]; exact bAlloc (bAlloc (Below.refl _ _) _) _
  have C1 := mkH (C W1 L1.out)
  clear C
  have c0 : W1.cell? ⟨b, 0, none⟩ = some (.slice ea en ec) := N1.out 0 _ rfl
  have c1 : W1.cell? ⟨b, 1, none⟩ = some (.int .i64 cur) := N1.out 1 _ rfl
  have d0 : W1.cell? ⟨b2, 0, none⟩ = some (.slice fa fn fc) := N2.out 0 _ rfl
  have d1 : W1.cell? ⟨b2, 1, none⟩ = some (.int .i64 cur) := N2.out 1 _ rfl
  have M1 : Hid (W1.rangeAt b 2 (ml m)) := by unfold Hid; have := range_part (pre := [.slice ea en ec, .int .i64 cur]) (mid := ml m) (post := []) (by rw [List.append_nil]; exact N1.out); simpa using this
  have M2 : Hid (W1.rangeAt b2 2 (ml m)) := by unfold Hid; have := range_part (pre := [.slice fa fn fc, .int .i64 cur]) (mid := ml m) (post := []) (by rw [List.append_nil]; exact N2.out); simpa using this
  have eq1 := fun w => eql41 w m m hm hm
  rw [decide_eq_true rfl] at eq1
  have EQ1 := mkH eq1
  clear eq1 N1 N2
  obtain ⟨nr, hnr⟩ : ∃ x, cxa (.slice ea en ec) cur m = x := ⟨_, rfl⟩
  obtain ⟨ns, hns⟩ : ∃ x, cxa (.slice fa fn fc) cur m = x := ⟨_, rfl⟩
  rw [hnr] at hW0
  rw [hns] at hW1
  rw [hnr, hns]
  clear hnr hns hn hfn hD
  go_enter Try.func27, Try.ntmps27
  go_upto_region 1 with fail
  clear hW0 hW1 hb hb2
  go_wp2_with (first | refine wl_ld41g (B := b) (o := 2) (.tmp 11) (by first | rfl | simp [Region.wanted, yielded]) rfl rfl hm M1.out ?_ | refine wl_ld41g (B := b2) (o := 2) (.tmp 13) (by first | rfl | simp [Region.wanted, yielded]) rfl rfl hm M2.out ?_ | refine wl_bing (by first | rfl | simp [Region.wanted, yielded]) .eql 41 41 (.tmp 12) (.tmp 14) rfl rfl rfl Try.eqGuardType41 (EQ1.out _) ?_ | fail)
  refine C1.out.mono ?_
  rintro e w5 ⟨rfl, hb5⟩
  have L5 := mkH (bT L1.out hb5)
  clear hb5 C1 c0 c1 d0 d1 M1 M2 EQ1
  dsimp only
  go_wp2
  go_ret
  exact ⟨rfl, L5.out⟩
set_option maxHeartbeats 4000000 in
set_option linter.unusedSimpArgs false in
theorem sameI_yes (p q : Option Addr) (L : List Nat) (c d b1 b2 : Nat) (w : World) (H1 : Hid (w.ownsRow b1 3 1 (.slice p L.length c) L.length (iv L))) (H2 : Hid (w.ownsRow b2 3 1 (.slice q L.length d) L.length (iv L))) (hl : Hid (L.length ≤ 4097)) :
    Calls Try.prog 18 #[.slice p L.length c, .slice q L.length d] w fun e w' => e = .returned (.bool true) ∧ Below w.heap.size w w' := by
  obtain ⟨n, hn⟩ : ∃ n, L.length = n := ⟨_, rfl⟩
  rw [hn] at H1 H2 hl
  rw [hn]
  have HN := mkH hn
  clear hn
  go_enter Try.func18, Try.ntmps18
  go_wp2_with fail
  go_loopg [5] n (fun m x5 wx => ∃ i : Nat, x5 = .int .i64 (i : Int) ∧ i + m = n ∧ Hid (Below w.heap.size w wx))
  case atStart => exact ⟨0, rfl, by omega, Below.refl _ _⟩
  case round =>
    obtain ⟨i, rfl, him, KB⟩ := hrel
    obtain ⟨go, hgo⟩ : ∃ g, g = gk - 1 := ⟨_, rfl⟩
    by_cases hi : i < n
    · have hi' : (i : Int) < (n : Int) := by omega
      have hi0 : (0 : Int) ≤ (i : Int) := by omega
      have hw8 : IntKind.i64.wrap ((i : Int) + 1) = ((i + 1 : Nat) : Int) := by rw [IntKind.wrap_i64]; have := hl.out; omega
      obtain ⟨x, hx⟩ : ∃ r, L[i]? = some r := ⟨_, List.getElem?_eq_getElem (by have := HN.out; omega)⟩
      have LD : Hid (Below w.heap.size w wr.drew) := KB.out.drew
      have O1 := own_keep H1.out LD.out
      have O2 := own_keep H2.out LD.out
      obtain ⟨g, rfl, -⟩ := own_pos H1.out (by omega)
      obtain ⟨g2, rfl, -⟩ := own_pos H2.out (by omega)
      have t0 : wr.drew.cell? ⟨g, i, none⟩ = some (.int .i64 (x : Int)) := by rw [O1.cellAt i (by omega)]; exact iv_at hx
      have t1 : wr.drew.cell? ⟨g2, i, none⟩ = some (.int .i64 (x : Int)) := by rw [O2.cellAt i (by omega)]; exact iv_at hx
      clear hx O1 O2 KB
      go_upto_region 6 with fail
      refine wp_region_held (S := fun w' => w' = wr.drew) (by kernel_rfl) ?_
      change wpAnyH _ _ _ _ _ _ _ _ (World.drew _)
      generalize wr.drew = V3 at *
      refine tk 0 (.slice (some ⟨g, 0, none⟩) n c) rfl ?_
      refine tk 1 (.int .i64 (i : Int)) rfl ?_
      try simp only [Act.put, jj1, jj2, jj3, jj4, jj5, jj6]
      refine tk 2 (.pointer (some ⟨g, i, none⟩)) rfl ?_
      refine ta 3 (.int .i64 (x : Int)) rfl (Or.inl ⟨by rfl, fun w9 h9 => by subst h9; go_simp⟩) rfl ?_
      refine tk 4 (.slice (some ⟨g2, 0, none⟩) n d) rfl ?_
      refine tk 5 (.int .i64 (i : Int)) rfl ?_
      try simp only [Act.put, jj1, jj2, jj3, jj4, jj5, jj6]
      refine tk 6 (.pointer (some ⟨g2, i, none⟩)) rfl ?_
      refine ta 7 (.int .i64 (x : Int)) rfl (Or.inl ⟨by rfl, fun w9 h9 => by subst h9; go_simp⟩) rfl ?_
      refine tk 8 (.bool false) rfl ?_
      try simp only [Act.put, jj1, jj2, jj3, jj4, jj5, jj6]
      refine wpAnyH_done (by kernel_rfl) ?_ _
      clear t0 t1
      go_wp2
      go_roundg go
      case measure => omega
      case rel => exact ⟨i + 1, by go_num, by omega, LD.out⟩
    · have hi' : ¬ (i : Int) < (n : Int) := by omega
      clear hgo
      go_wp2
      go_ret
      exact ⟨rfl, KB.out⟩
end Go.Proofs.Ytaahklapoppgaaa

/- GroveChecks, walked. -/
namespace Go.Proofs.Ytaahklapoppgaaa
open Go.RowKit

set_option maxRecDepth 8000
theorem rnewA (w : World) : Calls Try.prog 13 #[] w fun e w' => NeP w e w' := by
  refine (rnew_any w).mono ?_
  rintro e w' ⟨B, H, X, S, rfl, hH, -, hst, hb⟩
  have hl : H.length = 1 := by have := congrArg List.length hH; simpa using this
  exact ⟨B, rfl, ⟨H, hH, hl, Nat.le_refl _, hst.grz⟩, hb⟩
theorem pt_len (D : List Nd) (now f t : Int) : (ptU D now f t).length ≤ 4097 ∧ (ptD D now f t).length ≤ 4097 := by
  unfold ptU ptD
  by_cases h : Right D now ∧ InR D.length f t
  · rw [tb_t h, if_pos rfl, if_pos rfl]
    obtain ⟨hr, hi⟩ := h
    have h1 := hi.1
    have h2 := hi.2
    obtain ⟨-, -, l1, l2, -⟩ := path_in (G := D) (i := f.toNat) (j := t.toNat) hr.low (by omega) (by omega)
    have := hr.sz.1
    omega
  · rw [tb_f h, if_neg (by simp), if_neg (by simp)]
    simp
set_option maxHeartbeats 16000000 in
theorem groveChecks_walk (ao : Option Addr) (n c : Nat) (now f t : Int) (G : List Nr) (w : World) (HG : Hid (Grz w ao G)) (hn : G.length = n) (hc : n ≤ c) :
    Calls Try.prog 3 #[.agg #[.slice ao n c, .int .i64 now], .int .i64 f, .int .i64 t] w fun e w' => e = .returned (.bool true) ∧ Below w.heap.size w w' := by
  have C14 := fun W (hW : Below w.heap.size w W) => rcheck_any ao n c now G W (HG.out.keep hW) hn
  have C17 := fun W (hW : Below w.heap.size w W) => check_any ao n c now G W (HG.out.keep hW) hn hc
  have C15 := fun W (hW : Below w.heap.size w W) => rpath_any ao n c now f t G W (HG.out.keep hW) hn
  have C16 := fun W (hW : Below w.heap.size w W) => path_any ao n c now f t G W (HG.out.keep hW) hn hc
  have hl := pt_len (G.map Nr.d) now f t
  generalize ptU (G.map Nr.d) now f t = U at *
  generalize ptD (G.map Nr.d) now f t = D at *
  generalize ptE (G.map Nr.d) now f t = z at *
  generalize ti (Right (G.map Nr.d) now) 0 180 = y at *
  have D14 := mkH C14
  have D15 := mkH C15
  have D16 := mkH C16
  have D17 := mkH C17
  have HLU := mkH hl.1
  have HLD := mkH hl.2
  clear C14 C15 C16 C17 hl hn HG
  obtain ⟨W1, hW1⟩ : ∃ x, w.alloc (.cells #[.slice ao n c, .int .i64 now] 24) = x := ⟨_, rfl⟩
  obtain ⟨b, hb⟩ : ∃ b, w.heap.size = b := ⟨_, rfl⟩
  have L1 : Hid (Below w.heap.size w W1) := by unfold Hid; rw [← hW1]; exact bAlloc (Below.refl _ _) _
  have K1 : Hid (Blk W1 b 24 #[.slice ao n c, .int .i64 now]) := by unfold Hid; rw [← hW1, ← hb]; exact Blk.new w 24 _
  go_enter Try.func3, Try.ntmps3
  go_wp2_with fail
  clear hW1 hb
  refine (awake_any _).mono ?_
  rintro e w2 ⟨rfl, hb2⟩
  have L2 := mkH (bT L1.out hb2)
  have K2 := mkH (K1.out.keep hb2)
  clear hb2 L1 K1
  dsimp only
  go_wp2_with fail
  refine (newA _).mono ?_
  rintro e w3 ⟨B3, rfl, h3, hb3⟩
  have H3 := mkH h3
  have L3 := mkH (bT L2.out hb3)
  have K3 := mkH (K2.out.keep hb3)
  clear h3 hb3 L2 K2
  dsimp only
  go_wp2_with fail
  refine (rnewA _).mono ?_
  rintro e w4 ⟨B4, rfl, h4, hb4⟩
  have H3' := mkH (H3.out.keep hb4)
  have H4 := mkH h4
  have L4 := mkH (bT L3.out hb4)
  have K4 := mkH (K3.out.keep hb4)
  clear h4 hb4 L3 K3 H3
  dsimp only
  go_wp2_with fail
  obtain ⟨HH3, i1, i2, i3, i4⟩ := H3'.out
  obtain ⟨HH4, j1, j2, j3, j4⟩ := H4.out
  refine (sameG_yes _ 1 1 0 HH3 _ 1 1 HH4 w4 i4 j4 i2 j2 (i1.trans j1.symm) (by omega)).mono ?_
  rintro e w5 ⟨rfl, hb5⟩
  have L5 := mkH (bT L4.out hb5)
  have K5 := mkH (K4.out.keep hb5)
  have a5 : w5.cell? ⟨b, 0, none⟩ = some (.slice ao n c) := K5.out.cell rfl
  have b5 : w5.cell? ⟨b, 1, none⟩ = some (.int .i64 now) := K5.out.cell rfl
  clear hb5 L4 K4 H3' H4 i1 i2 i3 i4 j1 j2 j3 j4
  dsimp only
  go_wp2_with fail
  refine (D14.out w5 L5.out).mono ?_
  rintro e w6 ⟨rfl, hb6⟩
  have L6 := mkH (bT L5.out hb6)
  have K6 := mkH (K5.out.keep hb6)
  have a6 : w6.cell? ⟨b, 0, none⟩ = some (.slice ao n c) := K6.out.cell rfl
  have b6 : w6.cell? ⟨b, 1, none⟩ = some (.int .i64 now) := K6.out.cell rfl
  clear hb6 L5 K5 a5 b5
  dsimp only
  go_wp2_with fail
  refine (D15.out w6 L6.out).mono ?_
  rintro e w7 ⟨pa, ca, pb, cb, rfl, o1, o2, hb7⟩
  have L7 := mkH (bT L6.out hb7)
  have K7 := mkH (K6.out.keep hb7)
  have a7 : w7.cell? ⟨b, 0, none⟩ = some (.slice ao n c) := K7.out.cell rfl
  have b7 : w7.cell? ⟨b, 1, none⟩ = some (.int .i64 now) := K7.out.cell rfl
  have O1 := mkH o1
  have O2 := mkH o2
  clear o1 o2 hb7 L6 K6 a6 b6
  dsimp only
  go_wp2_with fail
  refine (D16.out w7 L7.out).mono ?_
  rintro e w8 ⟨qa, da, qb, db, rfl, o3, o4, hb8⟩
  have L8 := mkH (bT L7.out hb8)
  have K8 := mkH (K7.out.keep hb8)
  have a8 : w8.cell? ⟨b, 0, none⟩ = some (.slice ao n c) := K8.out.cell rfl
  have b8 : w8.cell? ⟨b, 1, none⟩ = some (.int .i64 now) := K8.out.cell rfl
  have O3 := mkH o3
  have O4 := mkH o4
  have O1b := mkH (own_keep O1.out hb8)
  have O2b := mkH (own_keep O2.out hb8)
  clear o3 o4 hb8 L7 K7 a7 b7 O1 O2
  dsimp only
  go_wp2_with fail
  refine (D17.out w8 L8.out).mono ?_
  rintro e w9 ⟨rfl, hb9⟩
  have L9 := mkH (bT L8.out hb9)
  have P1 := mkH (own_keep O1b.out hb9)
  have P2 := mkH (own_keep O2b.out hb9)
  have P3 := mkH (own_keep O3.out hb9)
  have P4 := mkH (own_keep O4.out hb9)
  clear hb9 L8 K8 a8 b8 O1b O2b O3 O4
  dsimp only
  go_wp2_with fail
  refine (sameI_yes qa pa U da ca _ _ w9 P3.out P1.out HLU.out).mono ?_
  rintro e w10 ⟨rfl, hb10⟩
  have L10 := mkH (bT L9.out hb10)
  have P5 := mkH (own_keep P2.out hb10)
  have P6 := mkH (own_keep P4.out hb10)
  clear hb10 L9 P1 P2 P3 P4
  dsimp only
  go_wp2_with fail
  refine (sameI_yes qb pb D db cb _ _ w10 P6.out P5.out HLD.out).mono ?_
  rintro e w11 ⟨rfl, hb11⟩
  have L11 := mkH (bT L10.out hb11)
  clear hb11 L10 P5 P6
  dsimp only
  go_wp2
  go_ret
  exact ⟨rfl, L11.out⟩
end Go.Proofs.Ytaahklapoppgaaa

