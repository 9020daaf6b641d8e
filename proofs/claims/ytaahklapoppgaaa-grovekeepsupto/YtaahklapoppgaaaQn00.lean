/- The reference's Edits: a list of edits in memory of its own. -/
import Derived.Test.YtaahklapoppgaaaQm18
import Derived.Test.YtaahklapoppgaaaQm11
namespace Go.Proofs.Ytaahklapoppgaaa
open Go.RowKit

set_option maxRecDepth 8000
theorem st_tx {w : World} {cc : Bool} {o : Oper} {a : Act} {K : Act → World → Prop} {Q : Exit → Act → World → Prop} {E : Prop} (hcc : cc = true) (d s : Operand)
    (ho : o.op = .call { callee := .builtin .append, args := #[d, s], argTypes := #[70, 70] }) (v u : Value) (hd : a.eval d = v) (hs : a.eval s = u) {v' : Value} {w' : World}
    (hr : (Builtin.append_ #[70, 70] o.type #[v, u]).run Try.prog w = .ok v' w') (h : K (a.put o.dst v') w') : if cc = true then Oper.wp Try.prog o a w K Q else E := by
  rw [if_pos hcc]
  unfold Oper.wp execOp
  simp only [ho, resolve, invoke, builtin, Sem.run_bind, Sem.run_pure, Result.andThen_ok, List.map_toArray, List.map_cons, List.map_nil, hd, hs, hr]
  exact h
/-- one new text -/
structure E1 (V W : World) (x : Value) (n : Nat) (X : List UInt8) : Prop where
  a : W.ownsRow V.heap.size 5 1 x n (bv X)
  bel : Below V.heap.size V W
/-- two, apart -/
structure E2 (V W : World) (x : Value) (n : Nat) (X : List UInt8) (y : Value) (m : Nat) (Y : List UInt8) : Prop where
  a : W.ownsRow V.heap.size 5 1 x n (bv X)
  b : W.ownsRow V.heap.size 5 1 y m (bv Y)
  far : Far x y
  bel : Below V.heap.size V W
theorem E2.swap {V W : World} {x y : Value} {n m : Nat} {X Y : List UInt8} (h : E2 V W x n X y m Y) : E2 V W y m Y x n X := ⟨h.b, h.a, h.far.symm, h.bel⟩
theorem E1.new {V W : World} (hb : Below V.heap.size V W) {g : Nat} (hg : g = W.heap.size) : E1 V (W.alloc (.cells #[] 5)) (.slice (some ⟨g, 0, none⟩) 0 0) 0 [] := by
  subst hg
  exact ⟨World.ownsRow_made W #[] 0 hb.size (Nat.zero_le _) rfl, bAlloc hb _⟩
theorem E1.add {V W : World} {x : Value} {n : Nat} {X : List UInt8} (h : E1 V W x n X) {g : Nat} (hg : g = W.heap.size) : E2 V (W.alloc (.cells #[] 5)) x n X (.slice (some ⟨g, 0, none⟩) 0 0) 0 [] := by
  have h2 := E1.new h.bel hg
  refine ⟨own_keep h.a (bAlloc (Below.refl _ _) _), h2.a, fun k h1 h3 => ?_, h2.bel⟩
  have := (h.a.lt k h1).2
  simp [Value.ownBlock] at h3
  omega
theorem E1.grow {V W : World} {x : Value} (h : E1 V W x 0 []) {p : Option Addr} {n c : Nat} {l : List UInt8} (hT : Tx V p n c l) (hn : n ≤ 140737488355328) (ty : Nat) : ∃ x' W', (Builtin.append_ #[70, 70] ty #[x, .slice p n c]).run Try.prog W = .ok x' W' ∧ E1 V W' x' n l := by
  obtain ⟨x', W', h1, h2, h3, -⟩ := run_bg ty V.heap.size x 0 [] h.a (.slice p n c) n (bv l) (hT.keep h.bel).srv (by rw [bv_length]; exact hT.len) (bv_one l) (by omega) (.inl hn) h.bel.size
  exact ⟨x', W', h1, by simpa using h2, h.bel.grown h3 h.bel.size (fun k hk => (h.a.lt k hk).1)⟩
theorem E2.grow {V W : World} {x y : Value} {m : Nat} {Y : List UInt8} (h : E2 V W x 0 [] y m Y) {p : Option Addr} {n c : Nat} {l : List UInt8} (hT : Tx V p n c l) (hn : n ≤ 140737488355328) (ty : Nat) : ∃ x' W', (Builtin.append_ #[70, 70] ty #[x, .slice p n c]).run Try.prog W = .ok x' W' ∧ E2 V W' x' n l y m Y := by
  obtain ⟨x', W', h1, h2, h3, h4⟩ := run_bg ty V.heap.size x 0 [] h.a (.slice p n c) n (bv l) (hT.keep h.bel).srv (by rw [bv_length]; exact hT.len) (bv_one l) (by omega) (.inl hn) h.bel.size
  refine ⟨x', W', h1, by simpa using h2, own_same h.b (fun k hk hlt => h3.block k hlt (fun e => h.far k e.symm hk)), fun k e1 e2 => ?_, h.bel.grown h3 h.bel.size (fun k hk => (h.a.lt k hk).1)⟩
  rcases h4 with e | ⟨q, e, hq⟩
  · exact h.far k (by rw [← e]; exact e1) e2
  · rw [e1] at e
    injection e with e
    have := (h.b.lt k e2).2
    omega
theorem E2.oe {V W : World} {p1 p2 : Option Addr} {n c1 m c2 : Nat} {X Y : List UInt8} (h : E2 V W (.slice p1 n c1) n X (.slice p2 m c2) m Y) (a : Int) (h1 : n ≤ 140737488355328) (h2 : m ≤ 140737488355328) : Oe W V.heap.size ⟨a, p1, n, c1, X, p2, m, c2, Y⟩ := ⟨h.a, h.b, h.far, h1, h2⟩
set_option maxHeartbeats 8000000 in
set_option linter.unusedSimpArgs false in
theorem redits_any (eo : Option Addr) (en ec : Nat) (E : List Er) (w : World) (HE : Hid (Edz w eo E)) (hn : E.length = en) (heb : en * 56 ≤ 140737488355328) :
    Calls Try.prog 51 #[.slice eo en ec] w fun e w' => LstP (E.map Er.d) w e w' := by
  have HN := mkH hn
  clear hn
  go_enter Try.func51, Try.ntmps51
  go_wp2_with fail
  go_loopg [3, 4] en (fun m x3 x4 wx => ∃ (i : Nat) (F : List Er), x4 = .int .i64 (i : Int) ∧ i + m = en ∧ Hid (F.map Er.d = (E.map Er.d).take i) ∧ Hid (F.length = i) ∧ Hid (Lst w wx x3 F))
  case atStart => exact ⟨0, [], rfl, by omega, rfl, rfl, Lst.nil w⟩
  case round =>
    obtain ⟨i, F, rfl, him, HF, HL, KL⟩ := hrel
    obtain ⟨go, hgo⟩ : ∃ g, g = gk - 1 := ⟨_, rfl⟩
    by_cases hi : i < en
    · have hi' : (i : Int) < (en : Int) := by omega
      have hi0 : (0 : Int) ≤ (i : Int) := by omega
      have hw1 : IntKind.i64.wrap ((i : Int) + 1) = ((i + 1 : Nat) : Int) := by rw [IntKind.wrap_i64]; omega
      obtain ⟨r, hr⟩ : ∃ r, E[i]? = some r := ⟨_, List.getElem?_eq_getElem (by have := HN.out; omega)⟩
      have hit : (E.map Er.d).take (i + 1) = (E.map Er.d).take i ++ [r.d] := by
        have hd : (E.map Er.d)[i]? = some r.d := by rw [List.getElem?_map, hr]; rfl
        obtain ⟨h1, h2⟩ := List.getElem?_eq_some_iff.1 hd
        rw [List.take_succ_eq_append_getElem h1, h2]
      obtain ⟨g, o, rfl, h3⟩ := HE.out.row.ed3 hr
      have hEt0 := HE.out.txs i r hr
      have HG : Hid (g < w.heap.size) := h3.lt
      have LD := bT KL.out.bel (Below.refl _ _).drew
      have h4 := h3.keep LD
      have hT := hEt0.keep LD
      obtain ⟨ra, rp1, ro, rc1, rO, rp2, rn, rc2, rN⟩ := r
      have TO : Hid (Tx wr.drew rp1 ro rc1 rO) := hT.t1
      have TN : Hid (Tx wr.drew rp2 rn rc2 rN) := hT.t2
      have BO : Hid (ro ≤ 140737488355328) := hT.b1
      have BN : Hid (rn ≤ 140737488355328) := hT.b2
      dsimp only [Er.d] at h4 hit
      have KE : Hid (Ed3 wr.drew g (o + i * 3) ra rp1 ro rc1 rp2 rn rc2) := h4
      have KD : Hid (Lst w wr.drew u3 F) := KL.out.keep (Below.refl _ _).drew
      have HIT := mkH hit
      clear hr h3 h4 hEt0 hT hit KL LD
      go_upto_region 5 with fail
      refine wp_region_held (S := fun w' => Ed3 w' g (o + i * 3) ra rp1 ro rc1 rp2 rn rc2) (by kernel_rfl) ?_
      change wpAnyH _ _ _ _ _ _ _ _ (World.drew _)
      generalize wr.drew = V3 at *
      refine tk 0 u3 KE.out ?_
      refine tk 1 (.slice (some ⟨g, o, none⟩) en ec) KE.out ?_
      refine tk 2 (.int .i64 (i : Int)) KE.out ?_
      refine tk 3 (.pointer (some ⟨g, o + i * 3, none⟩)) KE.out ?_
      try simp only [Act.put, jj1, jj2, jj3, jj4, jj5, jj6]
      refine tk 4 (.pointer (some ⟨g, o + i * 3, none⟩)) KE.out ?_
      refine ta 5 (.int .i64 ra) rfl (Or.inl ⟨by rfl, fun w9 h9 => by have h5 := h9.e0; have h6 := h9.e1; have h7 := h9.e2; go_simp⟩) KE.out ?_
      refine tk 7 (.slice (some ⟨g, o, none⟩) en ec) KE.out ?_
      refine tk 8 (.int .i64 (i : Int)) KE.out ?_
      try simp only [Act.put, jj1, jj2, jj3, jj4, jj5, jj6]
      refine tk 9 (.pointer (some ⟨g, o + i * 3, none⟩)) KE.out ?_
      refine tk 10 (.pointer (some ⟨g, o + i * 3 + 1, none⟩)) KE.out ?_
      refine ta 11 (.slice rp1 ro rc1) rfl (Or.inl ⟨by rfl, fun w9 h9 => by have h5 := h9.e0; have h6 := h9.e1; have h7 := h9.e2; go_simp⟩) KE.out ?_
      refine tk 14 (.slice (some ⟨g, o, none⟩) en ec) KE.out ?_
      try simp only [Act.put, jj1, jj2, jj3, jj4, jj5, jj6]
      refine tk 15 (.int .i64 (i : Int)) KE.out ?_
      refine tk 16 (.pointer (some ⟨g, o + i * 3, none⟩)) KE.out ?_
      refine tk 17 (.pointer (some ⟨g, o + i * 3 + 2, none⟩)) KE.out ?_
      refine ta 18 (.slice rp2 rn rc2) rfl (Or.inl ⟨by rfl, fun w9 h9 => by have h5 := h9.e0; have h6 := h9.e1; have h7 := h9.e2; go_simp⟩) KE.out ?_
      try simp only [Act.put, jj1, jj2, jj3, jj4, jj5, jj6]
      refine wpAnyH_all (rs := [6, 13]) (by kernel_rfl) (by simp) (AllH.cons rfl (fun K hK => ?_) (AllH.cons rfl (fun K hK => ?_) AllH.nil))
      · skip
        go_simp
        obtain ⟨ga, hga⟩ : ∃ x, x = V3.heap.size := ⟨_, rfl⟩
        have Sga := mkH (E1.new (V := V3) (W := V3) (Below.refl _ _) hga)
        rw [← hga]
        clear hga
        generalize V3.alloc (.cells #[] 5) = wga at *
        refine hK _ _ ⟨(KE.out.keep Sga.out.bel), ?_⟩
        clear hK K
        try simp only [Act.put, jj1, jj2, jj3, jj4, jj5, jj6]
        refine wpAnyH_all (rs := [12, 13]) (by kernel_rfl) (by simp) (AllH.cons rfl (fun K hK => ?_) (AllH.cons rfl (fun K hK => ?_) AllH.nil))
        · skip
          obtain ⟨vxa, wxa, hrxa, hsxa⟩ := (Sga.out).grow TO.out BO.out 70
          have Sxa := mkH hsxa
          obtain ⟨pxa, cxa, rfl⟩ := own_shape hsxa.a
          refine st_tx rfl _ _ rfl _ _ rfl rfl hrxa ?_
          clear hrxa hsxa
          refine hK _ _ ⟨(KE.out.keep Sxa.out.bel), ?_⟩
          clear hK K
          try simp only [Act.put, jj1, jj2, jj3, jj4, jj5, jj6]
          refine wpAnyH_all (rs := [13]) (by kernel_rfl) (by simp) (AllH.cons rfl (fun K hK => ?_) AllH.nil)
          go_simp
          obtain ⟨gb, hgb⟩ : ∃ x, x = wxa.heap.size := ⟨_, rfl⟩
          have Sgb := mkH (Sxa.out.add hgb)
          rw [← hgb]
          clear hgb
          generalize wxa.alloc (.cells #[] 5) = wgb at *
          refine hK _ _ ⟨(KE.out.keep Sgb.out.bel), ?_⟩
          clear hK K
          try simp only [Act.put, jj1, jj2, jj3, jj4, jj5, jj6]
          refine wpAnyH_all (rs := [19]) (by kernel_rfl) (by simp) (AllH.cons rfl (fun K hK => ?_) AllH.nil)
          obtain ⟨vxb, wxb, hrxb, hsxb⟩ := (Sgb.out.swap).grow TN.out BN.out 70
          replace hsxb := hsxb.swap
          have Sxb := mkH hsxb
          obtain ⟨pxb, cxb, rfl⟩ := own_shape hsxb.b
          refine st_tx rfl _ _ rfl _ _ rfl rfl hrxb ?_
          clear hrxb hsxb
          refine hK _ _ ⟨(KE.out.keep Sxb.out.bel), ?_⟩
          clear hK K
          try simp only [Act.put, jj1, jj2, jj3, jj4, jj5, jj6]
          refine tk 20 (.agg #[.int .i64 ra, .slice pxa ro cxa, .slice pxb rn cxb]) (KE.out.keep Sxb.out.bel) ?_
          try simp only [Act.put, jj1, jj2, jj3, jj4, jj5, jj6]
          refine wpAnyH_all (rs := [21]) (by kernel_rfl) (by simp) (AllH.cons rfl (fun K hK => ?_) AllH.nil)
          go_simp
          have B6 : Hid (Below V3.heap.size V3 (wxb.alloc (.cells #[.int .i64 ra, .slice pxa ro cxa, .slice pxb rn cxb] 77))) := bT Sxb.out.bel (bAlloc (Below.refl _ _) _)
          have O6 : Hid (Oe (wxb.alloc (.cells #[.int .i64 ra, .slice pxa ro cxa, .slice pxb rn cxb] 77)) V3.heap.size ⟨ra, pxa, ro, cxa, rO, pxb, rn, cxb, rN⟩) := (Sxb.out.oe ra BO.out BN.out).keep (bAlloc (Below.refl _ _) _)
          have C6 : Hid (∀ (j : Nat) (u : Value), (Er.cs ⟨ra, pxa, ro, cxa, rO, pxb, rn, cxb, rN⟩).toList[j]? = some u → (wxb.alloc (.cells #[.int .i64 ra, .slice pxa ro cxa, .slice pxb rn cxb] 77)).cell? ((⟨wxb.heap.size, 0, none⟩ : Addr).add j) = some u) := fun j u hj => lit_cells wxb _ 77 j u hj
          obtain ⟨g5, hg5⟩ : ∃ g5, g5 = wxb.heap.size := ⟨_, rfl⟩
          rw [← hg5] at C6 ⊢
          clear hg5
          generalize wxb.alloc (.cells #[.int .i64 ra, .slice pxa ro cxa, .slice pxb rn cxb] 77) = w6 at *
          refine hK _ _ ⟨(KE.out.keep B6.out), ?_⟩
          clear hK K
          try simp only [Act.put, jj1, jj2, jj3, jj4, jj5, jj6]
          refine wpAnyH_all (rs := [22]) (by kernel_rfl) (by simp) (AllH.cons rfl (fun K hK => ?_) AllH.nil)
          obtain ⟨v', w7, hr7, ho7, hg7, hf7⟩ := app_ed w.heap.size _ _ _ (own_keep KD.out.own B6.out) ⟨g5, 0, none⟩ ⟨ra, pxa, ro, cxa, rO, pxb, rn, cxb, rN⟩ C6.out (by have := HL.out; omega) (Nat.le_trans KD.out.bel.size B6.out.size)
          have L7 := mkH (KD.out.snoc B6.out O6.out hg7 ho7 hf7)
          have KE7 := mkH (ed3_row (KE.out.keep B6.out) hg7 (fun k hk => (KD.out.own.lt k hk).1) HG.out)
          refine st_ed rfl _ _ rfl _ _ rfl rfl (fun ty => hr7 ty 1) ?_
          clear hr7 ho7 hg7 hf7
          refine hK _ _ ⟨KE7.out, ?_⟩
          clear hK K
          refine tk 23 (v') KE7.out ?_
          try simp only [Act.put, jj1, jj2, jj3, jj4, jj5, jj6]
          refine wpAnyH_done (by kernel_rfl) ?_ _
          go_wp2
          go_roundg go
          case measure => omega
          case rel => exact ⟨i + 1, _, by go_num, by omega, by unfold Hid; rw [List.map_append, HF.out, HIT.out]; rfl, by unfold Hid; rw [List.length_append, HL.out]; rfl, L7.out⟩
        · skip
          go_simp
          obtain ⟨gb, hgb⟩ : ∃ x, x = wga.heap.size := ⟨_, rfl⟩
          have Sgb := mkH (Sga.out.add hgb)
          rw [← hgb]
          clear hgb
          generalize wga.alloc (.cells #[] 5) = wgb at *
          refine hK _ _ ⟨(KE.out.keep Sgb.out.bel), ?_⟩
          clear hK K
          try simp only [Act.put, jj1, jj2, jj3, jj4, jj5, jj6]
          refine wpAnyH_all (rs := [12]) (by kernel_rfl) (by simp) (AllH.cons rfl (fun K hK => ?_) AllH.nil)
          obtain ⟨vxa, wxa, hrxa, hsxa⟩ := (Sgb.out).grow TO.out BO.out 70
          have Sxa := mkH hsxa
          obtain ⟨pxa, cxa, rfl⟩ := own_shape hsxa.a
          refine st_tx rfl _ _ rfl _ _ rfl rfl hrxa ?_
          clear hrxa hsxa
          refine hK _ _ ⟨(KE.out.keep Sxa.out.bel), ?_⟩
          clear hK K
          try simp only [Act.put, jj1, jj2, jj3, jj4, jj5, jj6]
          refine wpAnyH_all (rs := [19]) (by kernel_rfl) (by simp) (AllH.cons rfl (fun K hK => ?_) AllH.nil)
          obtain ⟨vxb, wxb, hrxb, hsxb⟩ := (Sxa.out.swap).grow TN.out BN.out 70
          replace hsxb := hsxb.swap
          have Sxb := mkH hsxb
          obtain ⟨pxb, cxb, rfl⟩ := own_shape hsxb.b
          refine st_tx rfl _ _ rfl _ _ rfl rfl hrxb ?_
          clear hrxb hsxb
          refine hK _ _ ⟨(KE.out.keep Sxb.out.bel), ?_⟩
          clear hK K
          refine tk 20 (.agg #[.int .i64 ra, .slice pxa ro cxa, .slice pxb rn cxb]) (KE.out.keep Sxb.out.bel) ?_
          try simp only [Act.put, jj1, jj2, jj3, jj4, jj5, jj6]
          refine wpAnyH_all (rs := [21]) (by kernel_rfl) (by simp) (AllH.cons rfl (fun K hK => ?_) AllH.nil)
          go_simp
          have B6 : Hid (Below V3.heap.size V3 (wxb.alloc (.cells #[.int .i64 ra, .slice pxa ro cxa, .slice pxb rn cxb] 77))) := bT Sxb.out.bel (bAlloc (Below.refl _ _) _)
          have O6 : Hid (Oe (wxb.alloc (.cells #[.int .i64 ra, .slice pxa ro cxa, .slice pxb rn cxb] 77)) V3.heap.size ⟨ra, pxa, ro, cxa, rO, pxb, rn, cxb, rN⟩) := (Sxb.out.oe ra BO.out BN.out).keep (bAlloc (Below.refl _ _) _)
          have C6 : Hid (∀ (j : Nat) (u : Value), (Er.cs ⟨ra, pxa, ro, cxa, rO, pxb, rn, cxb, rN⟩).toList[j]? = some u → (wxb.alloc (.cells #[.int .i64 ra, .slice pxa ro cxa, .slice pxb rn cxb] 77)).cell? ((⟨wxb.heap.size, 0, none⟩ : Addr).add j) = some u) := fun j u hj => lit_cells wxb _ 77 j u hj
          obtain ⟨g5, hg5⟩ : ∃ g5, g5 = wxb.heap.size := ⟨_, rfl⟩
          rw [← hg5] at C6 ⊢
          clear hg5
          generalize wxb.alloc (.cells #[.int .i64 ra, .slice pxa ro cxa, .slice pxb rn cxb] 77) = w6 at *
          refine hK _ _ ⟨(KE.out.keep B6.out), ?_⟩
          clear hK K
          try simp only [Act.put, jj1, jj2, jj3, jj4, jj5, jj6]
          refine wpAnyH_all (rs := [22]) (by kernel_rfl) (by simp) (AllH.cons rfl (fun K hK => ?_) AllH.nil)
          obtain ⟨v', w7, hr7, ho7, hg7, hf7⟩ := app_ed w.heap.size _ _ _ (own_keep KD.out.own B6.out) ⟨g5, 0, none⟩ ⟨ra, pxa, ro, cxa, rO, pxb, rn, cxb, rN⟩ C6.out (by have := HL.out; omega) (Nat.le_trans KD.out.bel.size B6.out.size)
          have L7 := mkH (KD.out.snoc B6.out O6.out hg7 ho7 hf7)
          have KE7 := mkH (ed3_row (KE.out.keep B6.out) hg7 (fun k hk => (KD.out.own.lt k hk).1) HG.out)
          refine st_ed rfl _ _ rfl _ _ rfl rfl (fun ty => hr7 ty 1) ?_
          clear hr7 ho7 hg7 hf7
          refine hK _ _ ⟨KE7.out, ?_⟩
          clear hK K
          refine tk 23 (v') KE7.out ?_
          try simp only [Act.put, jj1, jj2, jj3, jj4, jj5, jj6]
          refine wpAnyH_done (by kernel_rfl) ?_ _
          go_wp2
          go_roundg go
          case measure => omega
          case rel => exact ⟨i + 1, _, by go_num, by omega, by unfold Hid; rw [List.map_append, HF.out, HIT.out]; rfl, by unfold Hid; rw [List.length_append, HL.out]; rfl, L7.out⟩
      · skip
        go_simp
        obtain ⟨gb, hgb⟩ : ∃ x, x = V3.heap.size := ⟨_, rfl⟩
        have Sgb := mkH (E1.new (V := V3) (W := V3) (Below.refl _ _) hgb)
        rw [← hgb]
        clear hgb
        generalize V3.alloc (.cells #[] 5) = wgb at *
        refine hK _ _ ⟨(KE.out.keep Sgb.out.bel), ?_⟩
        clear hK K
        try simp only [Act.put, jj1, jj2, jj3, jj4, jj5, jj6]
        refine wpAnyH_all (rs := [6]) (by kernel_rfl) (by simp) (AllH.cons rfl (fun K hK => ?_) AllH.nil)
        go_simp
        obtain ⟨ga, hga⟩ : ∃ x, x = wgb.heap.size := ⟨_, rfl⟩
        have Sga := mkH (Sgb.out.add hga)
        replace Sga := mkH (Sga.out.swap)
        rw [← hga]
        clear hga
        generalize wgb.alloc (.cells #[] 5) = wga at *
        refine hK _ _ ⟨(KE.out.keep Sga.out.bel), ?_⟩
        clear hK K
        try simp only [Act.put, jj1, jj2, jj3, jj4, jj5, jj6]
        refine wpAnyH_all (rs := [12]) (by kernel_rfl) (by simp) (AllH.cons rfl (fun K hK => ?_) AllH.nil)
        obtain ⟨vxa, wxa, hrxa, hsxa⟩ := (Sga.out).grow TO.out BO.out 70
        have Sxa := mkH hsxa
        obtain ⟨pxa, cxa, rfl⟩ := own_shape hsxa.a
        refine st_tx rfl _ _ rfl _ _ rfl rfl hrxa ?_
        clear hrxa hsxa
        refine hK _ _ ⟨(KE.out.keep Sxa.out.bel), ?_⟩
        clear hK K
        try simp only [Act.put, jj1, jj2, jj3, jj4, jj5, jj6]
        refine wpAnyH_all (rs := [19]) (by kernel_rfl) (by simp) (AllH.cons rfl (fun K hK => ?_) AllH.nil)
        obtain ⟨vxb, wxb, hrxb, hsxb⟩ := (Sxa.out.swap).grow TN.out BN.out 70
        replace hsxb := hsxb.swap
        have Sxb := mkH hsxb
        obtain ⟨pxb, cxb, rfl⟩ := own_shape hsxb.b
        refine st_tx rfl _ _ rfl _ _ rfl rfl hrxb ?_
        clear hrxb hsxb
        refine hK _ _ ⟨(KE.out.keep Sxb.out.bel), ?_⟩
        clear hK K
        try simp only [Act.put, jj1, jj2, jj3, jj4, jj5, jj6]
        refine tk 20 (.agg #[.int .i64 ra, .slice pxa ro cxa, .slice pxb rn cxb]) (KE.out.keep Sxb.out.bel) ?_
        try simp only [Act.put, jj1, jj2, jj3, jj4, jj5, jj6]
        refine wpAnyH_all (rs := [21]) (by kernel_rfl) (by simp) (AllH.cons rfl (fun K hK => ?_) AllH.nil)
        go_simp
        have B6 : Hid (Below V3.heap.size V3 (wxb.alloc (.cells #[.int .i64 ra, .slice pxa ro cxa, .slice pxb rn cxb] 77))) := bT Sxb.out.bel (bAlloc (Below.refl _ _) _)
        have O6 : Hid (Oe (wxb.alloc (.cells #[.int .i64 ra, .slice pxa ro cxa, .slice pxb rn cxb] 77)) V3.heap.size ⟨ra, pxa, ro, cxa, rO, pxb, rn, cxb, rN⟩) := (Sxb.out.oe ra BO.out BN.out).keep (bAlloc (Below.refl _ _) _)
        have C6 : Hid (∀ (j : Nat) (u : Value), (Er.cs ⟨ra, pxa, ro, cxa, rO, pxb, rn, cxb, rN⟩).toList[j]? = some u → (wxb.alloc (.cells #[.int .i64 ra, .slice pxa ro cxa, .slice pxb rn cxb] 77)).cell? ((⟨wxb.heap.size, 0, none⟩ : Addr).add j) = some u) := fun j u hj => lit_cells wxb _ 77 j u hj
        obtain ⟨g5, hg5⟩ : ∃ g5, g5 = wxb.heap.size := ⟨_, rfl⟩
        rw [← hg5] at C6 ⊢
        clear hg5
        generalize wxb.alloc (.cells #[.int .i64 ra, .slice pxa ro cxa, .slice pxb rn cxb] 77) = w6 at *
        refine hK _ _ ⟨(KE.out.keep B6.out), ?_⟩
        clear hK K
        try simp only [Act.put, jj1, jj2, jj3, jj4, jj5, jj6]
        refine wpAnyH_all (rs := [22]) (by kernel_rfl) (by simp) (AllH.cons rfl (fun K hK => ?_) AllH.nil)
        obtain ⟨v', w7, hr7, ho7, hg7, hf7⟩ := app_ed w.heap.size _ _ _ (own_keep KD.out.own B6.out) ⟨g5, 0, none⟩ ⟨ra, pxa, ro, cxa, rO, pxb, rn, cxb, rN⟩ C6.out (by have := HL.out; omega) (Nat.le_trans KD.out.bel.size B6.out.size)
        have L7 := mkH (KD.out.snoc B6.out O6.out hg7 ho7 hf7)
        have KE7 := mkH (ed3_row (KE.out.keep B6.out) hg7 (fun k hk => (KD.out.own.lt k hk).1) HG.out)
        refine st_ed rfl _ _ rfl _ _ rfl rfl (fun ty => hr7 ty 1) ?_
        clear hr7 ho7 hg7 hf7
        refine hK _ _ ⟨KE7.out, ?_⟩
        clear hK K
        refine tk 23 (v') KE7.out ?_
        try simp only [Act.put, jj1, jj2, jj3, jj4, jj5, jj6]
        refine wpAnyH_done (by kernel_rfl) ?_ _
        go_wp2
        go_roundg go
        case measure => omega
        case rel => exact ⟨i + 1, _, by go_num, by omega, by unfold Hid; rw [List.map_append, HF.out, HIT.out]; rfl, by unfold Hid; rw [List.length_append, HL.out]; rfl, L7.out⟩
    · have hi' : ¬ (i : Int) < (en : Int) := by omega
      have HF2 : Hid (F.map Er.d = E.map Er.d) := by unfold Hid; rw [HF.out, List.take_of_length_le (by rw [List.length_map]; have := HN.out; omega)]
      clear hgo HF
      go_wp2
      go_ret
      exact ⟨_, F, rfl, HF2.out, KL.out⟩
end Go.Proofs.Ytaahklapoppgaaa
