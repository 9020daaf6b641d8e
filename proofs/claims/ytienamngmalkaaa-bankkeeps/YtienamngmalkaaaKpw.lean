/- BankKeeps, walked. -/
import Derived.Test.YtienamngmalkaaaBsk
import Derived.Test.YtienamngmalkaaaOt0
import Derived.Test.YtienamngmalkaaaGtw
namespace Go.Proofs.Ytienamngmalkaaa
open Go.RowKit

set_option maxRecDepth 8000
theorem marked_z (z : Int) (x : UInt8) (hz : (x.toNat : Int) = z) (lo : Nat) (s l : Bool) (a : Option Addr) (n c : Nat) (t : List UInt8) (w : World) (HO : Hid (w.ownsRow lo 5 1 (.slice a n c) n (bv t))) (hlo : lo ≤ w.heap.size) (hn : n ≤ 140737488355000) :
    Calls Try.prog 22 #[.agg #[.bool s, .bool l, .slice a n c], .int .u8 z] w fun e W' => MkP lo s l (.slice a n c) n w e W' := by
  subst hz
  exact marked_any lo s l a n c t x w HO hlo hn
theorem pre_of {W : World} {base n c : Nat} {p : Option Addr} {l m : List UInt8} (h : W.ownsRow base 5 1 (.slice p (n + 2) c) (n + 2) (bv (l ++ m))) (hl : m.length = 2) : W.ownsRow base 5 1 (.slice p n c) n (bv l) := by
  obtain ⟨g, cap, e, h1, _⟩ := own_some h (by omega)
  simp at e
  obtain ⟨rfl, rfl⟩ := e
  have h1 := h.1
  rw [bv_length, List.length_append] at h1
  have e : bv (l ++ m) = bv l ++ bv m := by simp [bv]
  rw [e] at h
  exact own_prefix h (by rw [bv_length]; omega) (by omega)
theorem mark_at {W : World} {base g n c : Nat} {l : List UInt8} {x y : UInt8} (h : W.ownsRow base 5 1 (.slice (some ⟨g, 0, none⟩) (n + 2) c) (n + 2) (bv (l ++ [x, y]))) : W.cell? ⟨g, n, none⟩ = some (.int .u8 (x.toNat : Int)) ∧ W.cell? ⟨g, n + 1, none⟩ = some (.int .u8 (y.toNat : Int)) := by
  have h1 := h.1
  rw [bv_length, List.length_append] at h1
  have hl : l.length = n := by simp at h1; omega
  have e : ∀ j, j < 2 → (bv (l ++ [x, y]))[n + j]? = (bv [x, y])[j]? := fun j hj => by
    have e : bv (l ++ [x, y]) = bv l ++ bv [x, y] := by simp [bv]
    rw [e, List.getElem?_append_right (by rw [bv_length]; omega), bv_length]; congr 1; omega
  exact ⟨by rw [h.cellAt _ (by omega)]; exact e 0 (by omega), by rw [h.cellAt _ (by omega)]; exact e 1 (by omega)⟩
theorem size5 (w : World) : (sizeOf 5).run Try.prog w = .ok 1 w := by kernel_rfl
theorem elem22 : Try.prog.elem 22 = 5 := by kernel_rfl
theorem so_h (g n c hi : Nat) {z : Int} (hhi : hi ≤ c) (hz : z = (hi : Int)) : ∀ W, (Instr.sliceAt 22 (.slice (some ⟨g, 0, none⟩) n c) none (some (.int .i64 z)) none).run Try.prog W = .ok (.slice (some ⟨g, 0, none⟩) hi c) W := fun W => by
  subst hz
  rw [run_sliceAt_slice W 22 _ _ _ _ Try.underlying22, run_slice_h W 22 _ n c Try.underlying22 .i64 (hi : Int) (by omega) (by omega), elem22, size5]
  show Result.ok (sliced (some ⟨g, 0, none⟩) 0 (hi : Int).toNat c 1) W = _
  unfold sliced
  simp [Addr.add]
theorem Bs0.off {lo hi g B e : Nat} {W W' : World} {M : List Rg} {Q : List Ct} {cs : Array Value} (h : Bs0 lo hi W g M Q) (hB : Blk W B e cs) (he : e ≠ 5) (he2 : 28 ≠ e) (hg : W.grownBy W' (some B)) : Bs0 lo hi W' g M Q :=
  ⟨⟨h.ws.len, h.ws.fl, h.ws.box.grown hg (by simpa using blk_ne h.ws.box hB he2), h.ws.gin, fun i x hi => by
    obtain ⟨r, c, _, _, rfl⟩ := rows_in hi
    exact own_type (h.ws.own i _ hi) hB he hg, h.ws.up, h.ws.bnd⟩, h.far, Nat.le_trans h.sz hg.size⟩
theorem Bst.rd {lo hi m g k : Nat} {A W : World} {M : List Rg} {Q : List Ct} {r : Rg} {c : Ct} (h : Bst lo hi m A W g M Q) (hr : M[k]? = some r) (hc : Q[k]? = some c) (hb : c.t.length ≤ 140737488351232) : Rd W r c := by
  obtain ⟨e1, e2, e3⟩ := h.fl.2 k r c hr hc
  exact ⟨e1, e2, row_tx (h.row hr hc) (by omega), by omega⟩
set_option linter.unusedSimpArgs false in
set_option maxHeartbeats 64000000 in
theorem bankKeeps_walk (L : List Rg) (P : List Ct) (x : Nat) (how : Int) (r : Rg) (c : Ct) (w : World) (hx : x < 256) (R0 : Hid (Rdb w L P)) (R1 : Hid (Rd w r c)) :
    Calls Try.prog 8 #[.agg (bk L), .agg #[.int .u8 (x : Int), .int .i64 how, .bool r.s, .bool r.l, .slice r.a r.n r.c]] w fun e w' => e = .returned (.bool true) ∧ Below w.heap.size w w' := by
  have hz := z28
  have hbz := b28
  obtain ⟨rs, rgl, ra, rn, rc⟩ := r
  obtain ⟨cs, cl, ct⟩ := c
  have er1 : rs = cs := R1.out.s
  have er2 : rgl = cl := R1.out.l
  subst er1 er2
  have HT : Hid (Tx w ra rn rc ct) := R1.out.t
  have hrn : rn ≤ 140737488351232 := R1.out.n
  have hlen := Hid.mk' HT.out.len
  have hP := R0.out.2.1
  have hL := R0.out.1
  have HPs := Hid.mk' (rdb_short R0.out)
  dsimp only
  clear R1
  have hxI : (x : Int) < 256 := by omega
  obtain ⟨fc, hfc⟩ : ∃ f : Array Value, f = #[.int .u8 (x : Int), .int .i64 how, .bool rs, .bool rgl, .slice ra rn rc] := ⟨_, rfl⟩
  generalize hW2 : (w.alloc (.cells (bk L) 28)).alloc (.cells #[.int .u8 (x : Int), .int .i64 how, .bool rs, .bool rgl, .slice ra rn rc] 40) = W2
  have B0 : Hid (Blk W2 w.heap.size 28 (bk L)) := by rw [← hW2]; exact (Blk.new w 28 _).keep (bAlloc (Below.refl _ _) _)
  have B1 : Hid (Blk W2 (w.heap.size + 1) 40 fc) := by
    rw [← hW2, hfc]
    have := Blk.new (w.alloc (.cells (bk L) 28)) 40 #[.int .u8 (x : Int), .int .i64 how, .bool rs, .bool rgl, .slice ra rn rc]
    rwa [World.size_alloc] at this
  have BE : Hid (Below w.heap.size w W2) := by rw [← hW2]; exact bAlloc (bAlloc (Below.refl _ _) _) _
  have CA := Hid.mk' (awake_any W2)
  have HF := Hid.mk' hfc
  clear hfc
  go_enter Try.func8, Try.ntmps8
  go_wp2_with fail
  clear hW2
  refine CA.out.mono ?_
  rintro e w1 ⟨rfl, hb3⟩
  have K0 := Hid.mk' (B0.out.keep hb3)
  have K1 := Hid.mk' (B1.out.keep hb3)
  have BW := Hid.mk' (bT BE.out hb3)
  clear hb3 CA B0 B1 BE
  have FC := Hid.mk' (fun W (h : Blk W (w.heap.size + 1) 40 fc) => (show W.cell? ⟨w.heap.size + 1, 0, none⟩ = some (.int .u8 (x : Int)) ∧ W.cell? ⟨w.heap.size + 1, 1, none⟩ = some (.int .i64 how) ∧ W.cell? ⟨w.heap.size + 1, 2, none⟩ = some (.bool rs) ∧ W.cell? ⟨w.heap.size + 1, 3, none⟩ = some (.bool rgl) ∧ W.cell? ⟨w.heap.size + 1, 4, none⟩ = some (.slice ra rn rc) from by rw [HF.out] at h; exact ⟨h.cell rfl, h.cell rfl, h.cell rfl, h.cell rfl, h.cell rfl⟩))
  have RW : Hid (Rdb w1 L P) := R0.out.keep BW.out
  have TW : Hid (Tx w1 ra rn rc ct) := HT.out.keep BW.out
  obtain ⟨f0, f1, f2, f3, f4⟩ := FC.out w1 K1.out
  by_cases hbig : 5000 < rn
  · have hd1 : (5000 : Int) < (rn : Int) := by omega
    go_wp2
    go_ret
    exact ⟨rfl, BW.out⟩
  have hd1 : ¬ (5000 : Int) < (rn : Int) := by omega
  have hr5 : rn ≤ 5000 := by omega
  clear hbig
  go_upto_region 5 with fail
  clear f0 f1 f2 f3 f4 hd1
  go_cut [5, 6] from 34 to 38 (fun x5 x6 wx => ∃ g5 g6 NN a2 c2, x5 = .pointer (some ⟨g5, 0, none⟩) ∧ x6 = .pointer (some ⟨g6, 0, none⟩) ∧ Hid (R5 w1 wx g5 g6 NN P rs rgl a2 rn c2 ct))
  case first =>
    have S0 : Hid (Below w1.heap.size w1 w1.drew) := (Below.refl _ _).drew
    refine wp_region_held (S := fun w' => Below w1.heap.size w1 w') (by kernel_rfl) ?_
    change wpAnyH _ _ _ _ _ _ _ _ (World.drew _)
    generalize w1.drew = U0 at *
    refine wpAnyH_take (i := 0) (v := .agg (bk L)) rfl (by kernel_rfl) (by kernel_rfl) (by kernel_rfl) (fun _ _ _ h => h) (yi28 rfl (.tmp 2) rfl rfl hL (fun _ h => K0.out.keep h)) S0.out ?_
    try simp only [Act.put, List.getElem_toArray, List.getElem_cons_zero, List.getElem_cons_succ, List.setIfInBounds_toArray, List.set_cons_zero, List.set_cons_succ]
    refine wpAnyH_take (i := 2) (v := .pointer (some ⟨w.heap.size + 1, 2, none⟩)) rfl (by kernel_rfl) (by kernel_rfl) (by kernel_rfl) (fun _ _ _ h => h) (Yields.yieldsIf (Or.inl ⟨by rfl, fun w => by go_simp⟩)) S0.out ?_
    try simp only [Act.put, List.getElem_toArray, List.getElem_cons_zero, List.getElem_cons_succ, List.setIfInBounds_toArray, List.set_cons_zero, List.set_cons_succ]
    refine wpAnyH_take (i := 3) (v := .agg #[.bool rs, .bool rgl, .slice ra rn rc]) rfl (by kernel_rfl) (by kernel_rfl) (by kernel_rfl) (fun _ _ _ h => h) (Or.inl ⟨by rfl, fun w9 h9 => by obtain ⟨f0, f1, f2, f3, f4⟩ := FC.out w9 (K1.out.keep h9); go_simp⟩) S0.out ?_
    try simp only [Act.put, List.getElem_toArray, List.getElem_cons_zero, List.getElem_cons_succ, List.setIfInBounds_toArray, List.set_cons_zero, List.set_cons_succ]
    refine wpAnyH_all (rs := [1, 5, 6]) (by kernel_rfl) (by simp) (AllH.cons rfl (fun K hK => ?_) (AllH.cons rfl (fun K hK => ?_) (AllH.cons rfl (fun K hK => ?_) AllH.nil)))
    · skip
      go_simp
      refine (all_any L P U0 (RW.out.keep S0.out)).mono ?_
      rintro e U1 ⟨NN, rfl, hN⟩
      have hNl := hN.len
      have FN := Hid.mk' hN.fl
      have hb := hN.own.bel
      have S1 := Hid.mk' (bT S0.out hb)
      have O1 := Hid.mk' (rwz_of (w1 := w1) hN.own S0.out.size)
      clear hN hb
      dsimp only
      refine hK _ _ ⟨S1.out, ?_⟩
      clear hK K
      try simp only [Act.put, List.getElem_toArray, List.getElem_cons_zero, List.getElem_cons_succ, List.setIfInBounds_toArray, List.set_cons_zero, List.set_cons_succ]
      refine wpAnyH_all (rs := [4, 5, 6]) (by kernel_rfl) (by simp) (AllH.cons rfl (fun K hK => ?_) (AllH.cons rfl (fun K hK => ?_) (AllH.cons rfl (fun K hK => ?_) AllH.nil)))
      · skip
        go_simp
        refine (copy_any rs rgl ra rn rc ct U1 (TW.out.keep S1.out) (by omega)).mono ?_
        rintro e U2 ⟨a2, c2, rfl, hO, hb⟩
        have S2 := Hid.mk' (bT S1.out hb)
        have O2 := Hid.mk' (O1.out.keep hb)
        have T2 : Hid (U2.ownsRow w1.heap.size 5 1 (.slice a2 rn c2) rn (bv ct)) := own_lower hO S1.out.size
        clear hO hb
        dsimp only
        refine hK _ _ ⟨S2.out, ?_⟩
        clear hK K
        try simp only [Act.put, List.getElem_toArray, List.getElem_cons_zero, List.getElem_cons_succ, List.setIfInBounds_toArray, List.set_cons_zero, List.set_cons_succ]
        refine wpAnyH_all (rs := [5, 6]) (by kernel_rfl) (by simp) (AllH.cons rfl (fun K hK => ?_) (AllH.cons rfl (fun K hK => ?_) AllH.nil))
        · skip
          go_simp
          have hb := bAlloc (Below.refl _ U2) (.cells (bk zb) 28)
          have S3 := Hid.mk' (bT S2.out hb)
          have O3 := Hid.mk' (O2.out.keep hb)
          have T3 := Hid.mk' (own_keep T2.out hb)
          have G3 : Hid (Blk (U2.alloc (.cells (bk zb) 28)) U2.heap.size 28 (bk zb)) := Blk.new _ _ _
          clear hb
          obtain ⟨g5, hg5⟩ : ∃ q, q = U2.heap.size := ⟨_, rfl⟩
          have Zg5 : Hid (w1.heap.size ≤ g5) := by have h1 := S2.out.size; unfold Hid; omega
          rw [← hg5] at G3 ⊢
          generalize U2.alloc (.cells (bk zb) 28) = U3 at *
          clear hg5
          refine hK _ _ ⟨S3.out, ?_⟩
          clear hK K
          try simp only [Act.put, List.getElem_toArray, List.getElem_cons_zero, List.getElem_cons_succ, List.setIfInBounds_toArray, List.set_cons_zero, List.set_cons_succ]
          refine wpAnyH_all (rs := [6]) (by kernel_rfl) (by simp) (AllH.cons rfl (fun K hK => ?_) AllH.nil)
          go_simp
          have hb := bAlloc (Below.refl _ U3) (.cells #[.bool false, .bool false, .slice none 0 0] 24)
          have S4 := Hid.mk' (bT S3.out hb)
          have O4 := Hid.mk' (O3.out.keep hb)
          have T4 := Hid.mk' (own_keep T3.out hb)
          have G4 := Hid.mk' (G3.out.keep hb)
          have H4 : Hid (Blk (U3.alloc (.cells #[.bool false, .bool false, .slice none 0 0] 24)) U3.heap.size 24 #[.bool false, .bool false, .slice none 0 0]) := Blk.new _ _ _
          clear hb
          obtain ⟨g6, hg6⟩ : ∃ q, q = U3.heap.size := ⟨_, rfl⟩
          have Zg6 : Hid (w1.heap.size ≤ g6) := by have h1 := S3.out.size; unfold Hid; omega
          rw [← hg6] at H4 ⊢
          generalize U3.alloc (.cells #[.bool false, .bool false, .slice none 0 0] 24) = U4 at *
          clear hg6
          refine hK _ _ ⟨S4.out, ?_⟩
          clear hK K
          try simp only [Act.put, List.getElem_toArray, List.getElem_cons_zero, List.getElem_cons_succ, List.setIfInBounds_toArray, List.set_cons_zero, List.set_cons_succ]
          refine wpAnyH_all (rs := [7]) (by kernel_rfl) (by simp) (AllH.cons rfl (fun K hK => ?_) AllH.nil)
          refine st28 rfl (.tmp 5) (.tmp 35) rfl rfl rfl hNl rfl G4.out ?_
          have gg := grown_put28 U4 g5 NN
          have S5 : Hid (Below w1.heap.size w1 (put28 U4 g5 NN)) := below_put28 S4.out Zg5.out NN
          have O5 := Hid.mk' (O4.out.off G4.out (by decide) gg)
          have T5 := Hid.mk' (own_type T4.out G4.out (by decide) gg)
          have H5 := Hid.mk' (H4.out.grown gg (by simpa using blk_ne H4.out G4.out (by decide)))
          have G5 := Hid.mk' (Blk.put28 hNl rfl G4.out)
          clear gg
          generalize put28 U4 g5 NN = U5 at *
          refine hK _ _ ⟨S5.out, ?_⟩
          clear hK K
          try simp only [Act.put, List.getElem_toArray, List.getElem_cons_zero, List.getElem_cons_succ, List.setIfInBounds_toArray, List.set_cons_zero, List.set_cons_succ]
          refine wpAnyH_all (rs := [8]) (by kernel_rfl) (by simp) (AllH.cons rfl (fun K hK => ?_) AllH.nil)
          have s0 : U5.cell? ⟨g6, 0, none⟩ = some (.bool false) := H5.out.cell rfl
          have s1 : U5.cell? ⟨g6, 1, none⟩ = some (.bool false) := H5.out.cell rfl
          have s2 : U5.cell? ⟨g6, 2, none⟩ = some (.slice none 0 0) := H5.out.cell rfl
          have fz := H5.out.frozen
          have gg : U5.grownBy (((U5.setCell ⟨g6, 0, none⟩ (.bool rs)).setCell ⟨g6, 1, none⟩ (.bool rgl)).setCell ⟨g6, 2, none⟩ (.slice a2 rn c2)) (some g6) := putr_grown U5 g6 0 rs rgl (.slice a2 rn c2)
          have S6 : Hid (Below w1.heap.size w1 (((U5.setCell ⟨g6, 0, none⟩ (.bool rs)).setCell ⟨g6, 1, none⟩ (.bool rgl)).setCell ⟨g6, 2, none⟩ (.slice a2 rn c2))) := below_putr (k := 0) S5.out Zg6.out rs rgl (.slice a2 rn c2)
          have O6 := Hid.mk' (O5.out.off H5.out (by decide) gg)
          have T6 := Hid.mk' (own_type T5.out H5.out (by decide) gg)
          have G6 := Hid.mk' (G5.out.grown gg (by simpa using blk_ne G5.out H5.out (by decide)))
          have H6 : Hid (Blk (((U5.setCell ⟨g6, 0, none⟩ (.bool rs)).setCell ⟨g6, 1, none⟩ (.bool rgl)).setCell ⟨g6, 2, none⟩ (.slice a2 rn c2)) g6 24 #[.bool rs, .bool rgl, .slice a2 rn c2]) := ((H5.out.set (j := 0) (.bool rs)).set (j := 1) (.bool rgl)).set (j := 2) (.slice a2 rn c2)
          go_simp
          clear gg s0 s1 s2 fz
          generalize (((U5.setCell ⟨g6, 0, none⟩ (.bool rs)).setCell ⟨g6, 1, none⟩ (.bool rgl)).setCell ⟨g6, 2, none⟩ (.slice a2 rn c2)) = U6 at *
          refine hK _ _ ⟨S6.out, ?_⟩
          clear hK K
          try simp only [Act.put, List.getElem_toArray, List.getElem_cons_zero, List.getElem_cons_succ, List.setIfInBounds_toArray, List.set_cons_zero, List.set_cons_succ]
          refine wpAnyH_done (by kernel_rfl) ?_ _
          go_wp2_with fail
          go_meet
          exact ⟨g5, g6, NN, a2, c2, rfl, rfl, ⟨S6.out, G6.out, H6.out, Zg5.out, Zg6.out, hNl, FN.out, O6.out, T6.out⟩⟩
        · skip
          go_simp
          have hb := bAlloc (Below.refl _ U2) (.cells #[.bool false, .bool false, .slice none 0 0] 24)
          have S3 := Hid.mk' (bT S2.out hb)
          have O3 := Hid.mk' (O2.out.keep hb)
          have T3 := Hid.mk' (own_keep T2.out hb)
          have H3 : Hid (Blk (U2.alloc (.cells #[.bool false, .bool false, .slice none 0 0] 24)) U2.heap.size 24 #[.bool false, .bool false, .slice none 0 0]) := Blk.new _ _ _
          clear hb
          obtain ⟨g6, hg6⟩ : ∃ q, q = U2.heap.size := ⟨_, rfl⟩
          have Zg6 : Hid (w1.heap.size ≤ g6) := by have h1 := S2.out.size; unfold Hid; omega
          rw [← hg6] at H3 ⊢
          generalize U2.alloc (.cells #[.bool false, .bool false, .slice none 0 0] 24) = U3 at *
          clear hg6
          refine hK _ _ ⟨S3.out, ?_⟩
          clear hK K
          try simp only [Act.put, List.getElem_toArray, List.getElem_cons_zero, List.getElem_cons_succ, List.setIfInBounds_toArray, List.set_cons_zero, List.set_cons_succ]
          refine wpAnyH_all (rs := [5]) (by kernel_rfl) (by simp) (AllH.cons rfl (fun K hK => ?_) AllH.nil)
          go_simp
          have hb := bAlloc (Below.refl _ U3) (.cells (bk zb) 28)
          have S4 := Hid.mk' (bT S3.out hb)
          have O4 := Hid.mk' (O3.out.keep hb)
          have T4 := Hid.mk' (own_keep T3.out hb)
          have H4 := Hid.mk' (H3.out.keep hb)
          have G4 : Hid (Blk (U3.alloc (.cells (bk zb) 28)) U3.heap.size 28 (bk zb)) := Blk.new _ _ _
          clear hb
          obtain ⟨g5, hg5⟩ : ∃ q, q = U3.heap.size := ⟨_, rfl⟩
          have Zg5 : Hid (w1.heap.size ≤ g5) := by have h1 := S3.out.size; unfold Hid; omega
          rw [← hg5] at G4 ⊢
          generalize U3.alloc (.cells (bk zb) 28) = U4 at *
          clear hg5
          refine hK _ _ ⟨S4.out, ?_⟩
          clear hK K
          try simp only [Act.put, List.getElem_toArray, List.getElem_cons_zero, List.getElem_cons_succ, List.setIfInBounds_toArray, List.set_cons_zero, List.set_cons_succ]
          refine wpAnyH_all (rs := [7]) (by kernel_rfl) (by simp) (AllH.cons rfl (fun K hK => ?_) AllH.nil)
          refine st28 rfl (.tmp 5) (.tmp 35) rfl rfl rfl hNl rfl G4.out ?_
          have gg := grown_put28 U4 g5 NN
          have S5 : Hid (Below w1.heap.size w1 (put28 U4 g5 NN)) := below_put28 S4.out Zg5.out NN
          have O5 := Hid.mk' (O4.out.off G4.out (by decide) gg)
          have T5 := Hid.mk' (own_type T4.out G4.out (by decide) gg)
          have H5 := Hid.mk' (H4.out.grown gg (by simpa using blk_ne H4.out G4.out (by decide)))
          have G5 := Hid.mk' (Blk.put28 hNl rfl G4.out)
          clear gg
          generalize put28 U4 g5 NN = U5 at *
          refine hK _ _ ⟨S5.out, ?_⟩
          clear hK K
          try simp only [Act.put, List.getElem_toArray, List.getElem_cons_zero, List.getElem_cons_succ, List.setIfInBounds_toArray, List.set_cons_zero, List.set_cons_succ]
          refine wpAnyH_all (rs := [8]) (by kernel_rfl) (by simp) (AllH.cons rfl (fun K hK => ?_) AllH.nil)
          have s0 : U5.cell? ⟨g6, 0, none⟩ = some (.bool false) := H5.out.cell rfl
          have s1 : U5.cell? ⟨g6, 1, none⟩ = some (.bool false) := H5.out.cell rfl
          have s2 : U5.cell? ⟨g6, 2, none⟩ = some (.slice none 0 0) := H5.out.cell rfl
          have fz := H5.out.frozen
          have gg : U5.grownBy (((U5.setCell ⟨g6, 0, none⟩ (.bool rs)).setCell ⟨g6, 1, none⟩ (.bool rgl)).setCell ⟨g6, 2, none⟩ (.slice a2 rn c2)) (some g6) := putr_grown U5 g6 0 rs rgl (.slice a2 rn c2)
          have S6 : Hid (Below w1.heap.size w1 (((U5.setCell ⟨g6, 0, none⟩ (.bool rs)).setCell ⟨g6, 1, none⟩ (.bool rgl)).setCell ⟨g6, 2, none⟩ (.slice a2 rn c2))) := below_putr (k := 0) S5.out Zg6.out rs rgl (.slice a2 rn c2)
          have O6 := Hid.mk' (O5.out.off H5.out (by decide) gg)
          have T6 := Hid.mk' (own_type T5.out H5.out (by decide) gg)
          have G6 := Hid.mk' (G5.out.grown gg (by simpa using blk_ne G5.out H5.out (by decide)))
          have H6 : Hid (Blk (((U5.setCell ⟨g6, 0, none⟩ (.bool rs)).setCell ⟨g6, 1, none⟩ (.bool rgl)).setCell ⟨g6, 2, none⟩ (.slice a2 rn c2)) g6 24 #[.bool rs, .bool rgl, .slice a2 rn c2]) := ((H5.out.set (j := 0) (.bool rs)).set (j := 1) (.bool rgl)).set (j := 2) (.slice a2 rn c2)
          go_simp
          clear gg s0 s1 s2 fz
          generalize (((U5.setCell ⟨g6, 0, none⟩ (.bool rs)).setCell ⟨g6, 1, none⟩ (.bool rgl)).setCell ⟨g6, 2, none⟩ (.slice a2 rn c2)) = U6 at *
          refine hK _ _ ⟨S6.out, ?_⟩
          clear hK K
          try simp only [Act.put, List.getElem_toArray, List.getElem_cons_zero, List.getElem_cons_succ, List.setIfInBounds_toArray, List.set_cons_zero, List.set_cons_succ]
          refine wpAnyH_done (by kernel_rfl) ?_ _
          go_wp2_with fail
          go_meet
          exact ⟨g5, g6, NN, a2, c2, rfl, rfl, ⟨S6.out, G6.out, H6.out, Zg5.out, Zg6.out, hNl, FN.out, O6.out, T6.out⟩⟩
      · skip
        go_simp
        have hb := bAlloc (Below.refl _ U1) (.cells (bk zb) 28)
        have S2 := Hid.mk' (bT S1.out hb)
        have O2 := Hid.mk' (O1.out.keep hb)
        have G2 : Hid (Blk (U1.alloc (.cells (bk zb) 28)) U1.heap.size 28 (bk zb)) := Blk.new _ _ _
        clear hb
        obtain ⟨g5, hg5⟩ : ∃ q, q = U1.heap.size := ⟨_, rfl⟩
        have Zg5 : Hid (w1.heap.size ≤ g5) := by have h1 := S1.out.size; unfold Hid; omega
        rw [← hg5] at G2 ⊢
        generalize U1.alloc (.cells (bk zb) 28) = U2 at *
        clear hg5
        refine hK _ _ ⟨S2.out, ?_⟩
        clear hK K
        try simp only [Act.put, List.getElem_toArray, List.getElem_cons_zero, List.getElem_cons_succ, List.setIfInBounds_toArray, List.set_cons_zero, List.set_cons_succ]
        refine wpAnyH_all (rs := [4, 6]) (by kernel_rfl) (by simp) (AllH.cons rfl (fun K hK => ?_) (AllH.cons rfl (fun K hK => ?_) AllH.nil))
        · skip
          go_simp
          refine (copy_any rs rgl ra rn rc ct U2 (TW.out.keep S2.out) (by omega)).mono ?_
          rintro e U3 ⟨a2, c2, rfl, hO, hb⟩
          have S3 := Hid.mk' (bT S2.out hb)
          have O3 := Hid.mk' (O2.out.keep hb)
          have G3 := Hid.mk' (G2.out.keep hb)
          have T3 : Hid (U3.ownsRow w1.heap.size 5 1 (.slice a2 rn c2) rn (bv ct)) := own_lower hO S2.out.size
          clear hO hb
          dsimp only
          refine hK _ _ ⟨S3.out, ?_⟩
          clear hK K
          try simp only [Act.put, List.getElem_toArray, List.getElem_cons_zero, List.getElem_cons_succ, List.setIfInBounds_toArray, List.set_cons_zero, List.set_cons_succ]
          refine wpAnyH_all (rs := [6]) (by kernel_rfl) (by simp) (AllH.cons rfl (fun K hK => ?_) AllH.nil)
          go_simp
          have hb := bAlloc (Below.refl _ U3) (.cells #[.bool false, .bool false, .slice none 0 0] 24)
          have S4 := Hid.mk' (bT S3.out hb)
          have O4 := Hid.mk' (O3.out.keep hb)
          have T4 := Hid.mk' (own_keep T3.out hb)
          have G4 := Hid.mk' (G3.out.keep hb)
          have H4 : Hid (Blk (U3.alloc (.cells #[.bool false, .bool false, .slice none 0 0] 24)) U3.heap.size 24 #[.bool false, .bool false, .slice none 0 0]) := Blk.new _ _ _
          clear hb
          obtain ⟨g6, hg6⟩ : ∃ q, q = U3.heap.size := ⟨_, rfl⟩
          have Zg6 : Hid (w1.heap.size ≤ g6) := by have h1 := S3.out.size; unfold Hid; omega
          rw [← hg6] at H4 ⊢
          generalize U3.alloc (.cells #[.bool false, .bool false, .slice none 0 0] 24) = U4 at *
          clear hg6
          refine hK _ _ ⟨S4.out, ?_⟩
          clear hK K
          try simp only [Act.put, List.getElem_toArray, List.getElem_cons_zero, List.getElem_cons_succ, List.setIfInBounds_toArray, List.set_cons_zero, List.set_cons_succ]
          refine wpAnyH_all (rs := [7]) (by kernel_rfl) (by simp) (AllH.cons rfl (fun K hK => ?_) AllH.nil)
          refine st28 rfl (.tmp 5) (.tmp 35) rfl rfl rfl hNl rfl G4.out ?_
          have gg := grown_put28 U4 g5 NN
          have S5 : Hid (Below w1.heap.size w1 (put28 U4 g5 NN)) := below_put28 S4.out Zg5.out NN
          have O5 := Hid.mk' (O4.out.off G4.out (by decide) gg)
          have T5 := Hid.mk' (own_type T4.out G4.out (by decide) gg)
          have H5 := Hid.mk' (H4.out.grown gg (by simpa using blk_ne H4.out G4.out (by decide)))
          have G5 := Hid.mk' (Blk.put28 hNl rfl G4.out)
          clear gg
          generalize put28 U4 g5 NN = U5 at *
          refine hK _ _ ⟨S5.out, ?_⟩
          clear hK K
          try simp only [Act.put, List.getElem_toArray, List.getElem_cons_zero, List.getElem_cons_succ, List.setIfInBounds_toArray, List.set_cons_zero, List.set_cons_succ]
          refine wpAnyH_all (rs := [8]) (by kernel_rfl) (by simp) (AllH.cons rfl (fun K hK => ?_) AllH.nil)
          have s0 : U5.cell? ⟨g6, 0, none⟩ = some (.bool false) := H5.out.cell rfl
          have s1 : U5.cell? ⟨g6, 1, none⟩ = some (.bool false) := H5.out.cell rfl
          have s2 : U5.cell? ⟨g6, 2, none⟩ = some (.slice none 0 0) := H5.out.cell rfl
          have fz := H5.out.frozen
          have gg : U5.grownBy (((U5.setCell ⟨g6, 0, none⟩ (.bool rs)).setCell ⟨g6, 1, none⟩ (.bool rgl)).setCell ⟨g6, 2, none⟩ (.slice a2 rn c2)) (some g6) := putr_grown U5 g6 0 rs rgl (.slice a2 rn c2)
          have S6 : Hid (Below w1.heap.size w1 (((U5.setCell ⟨g6, 0, none⟩ (.bool rs)).setCell ⟨g6, 1, none⟩ (.bool rgl)).setCell ⟨g6, 2, none⟩ (.slice a2 rn c2))) := below_putr (k := 0) S5.out Zg6.out rs rgl (.slice a2 rn c2)
          have O6 := Hid.mk' (O5.out.off H5.out (by decide) gg)
          have T6 := Hid.mk' (own_type T5.out H5.out (by decide) gg)
          have G6 := Hid.mk' (G5.out.grown gg (by simpa using blk_ne G5.out H5.out (by decide)))
          have H6 : Hid (Blk (((U5.setCell ⟨g6, 0, none⟩ (.bool rs)).setCell ⟨g6, 1, none⟩ (.bool rgl)).setCell ⟨g6, 2, none⟩ (.slice a2 rn c2)) g6 24 #[.bool rs, .bool rgl, .slice a2 rn c2]) := ((H5.out.set (j := 0) (.bool rs)).set (j := 1) (.bool rgl)).set (j := 2) (.slice a2 rn c2)
          go_simp
          clear gg s0 s1 s2 fz
          generalize (((U5.setCell ⟨g6, 0, none⟩ (.bool rs)).setCell ⟨g6, 1, none⟩ (.bool rgl)).setCell ⟨g6, 2, none⟩ (.slice a2 rn c2)) = U6 at *
          refine hK _ _ ⟨S6.out, ?_⟩
          clear hK K
          try simp only [Act.put, List.getElem_toArray, List.getElem_cons_zero, List.getElem_cons_succ, List.setIfInBounds_toArray, List.set_cons_zero, List.set_cons_succ]
          refine wpAnyH_done (by kernel_rfl) ?_ _
          go_wp2_with fail
          go_meet
          exact ⟨g5, g6, NN, a2, c2, rfl, rfl, ⟨S6.out, G6.out, H6.out, Zg5.out, Zg6.out, hNl, FN.out, O6.out, T6.out⟩⟩
        · skip
          go_simp
          have hb := bAlloc (Below.refl _ U2) (.cells #[.bool false, .bool false, .slice none 0 0] 24)
          have S3 := Hid.mk' (bT S2.out hb)
          have O3 := Hid.mk' (O2.out.keep hb)
          have G3 := Hid.mk' (G2.out.keep hb)
          have H3 : Hid (Blk (U2.alloc (.cells #[.bool false, .bool false, .slice none 0 0] 24)) U2.heap.size 24 #[.bool false, .bool false, .slice none 0 0]) := Blk.new _ _ _
          clear hb
          obtain ⟨g6, hg6⟩ : ∃ q, q = U2.heap.size := ⟨_, rfl⟩
          have Zg6 : Hid (w1.heap.size ≤ g6) := by have h1 := S2.out.size; unfold Hid; omega
          rw [← hg6] at H3 ⊢
          generalize U2.alloc (.cells #[.bool false, .bool false, .slice none 0 0] 24) = U3 at *
          clear hg6
          refine hK _ _ ⟨S3.out, ?_⟩
          clear hK K
          try simp only [Act.put, List.getElem_toArray, List.getElem_cons_zero, List.getElem_cons_succ, List.setIfInBounds_toArray, List.set_cons_zero, List.set_cons_succ]
          refine wpAnyH_all (rs := [4]) (by kernel_rfl) (by simp) (AllH.cons rfl (fun K hK => ?_) AllH.nil)
          go_simp
          refine (copy_any rs rgl ra rn rc ct U3 (TW.out.keep S3.out) (by omega)).mono ?_
          rintro e U4 ⟨a2, c2, rfl, hO, hb⟩
          have S4 := Hid.mk' (bT S3.out hb)
          have O4 := Hid.mk' (O3.out.keep hb)
          have G4 := Hid.mk' (G3.out.keep hb)
          have H4 := Hid.mk' (H3.out.keep hb)
          have T4 : Hid (U4.ownsRow w1.heap.size 5 1 (.slice a2 rn c2) rn (bv ct)) := own_lower hO S3.out.size
          clear hO hb
          dsimp only
          refine hK _ _ ⟨S4.out, ?_⟩
          clear hK K
          try simp only [Act.put, List.getElem_toArray, List.getElem_cons_zero, List.getElem_cons_succ, List.setIfInBounds_toArray, List.set_cons_zero, List.set_cons_succ]
          refine wpAnyH_all (rs := [7]) (by kernel_rfl) (by simp) (AllH.cons rfl (fun K hK => ?_) AllH.nil)
          refine st28 rfl (.tmp 5) (.tmp 35) rfl rfl rfl hNl rfl G4.out ?_
          have gg := grown_put28 U4 g5 NN
          have S5 : Hid (Below w1.heap.size w1 (put28 U4 g5 NN)) := below_put28 S4.out Zg5.out NN
          have O5 := Hid.mk' (O4.out.off G4.out (by decide) gg)
          have T5 := Hid.mk' (own_type T4.out G4.out (by decide) gg)
          have H5 := Hid.mk' (H4.out.grown gg (by simpa using blk_ne H4.out G4.out (by decide)))
          have G5 := Hid.mk' (Blk.put28 hNl rfl G4.out)
          clear gg
          generalize put28 U4 g5 NN = U5 at *
          refine hK _ _ ⟨S5.out, ?_⟩
          clear hK K
          try simp only [Act.put, List.getElem_toArray, List.getElem_cons_zero, List.getElem_cons_succ, List.setIfInBounds_toArray, List.set_cons_zero, List.set_cons_succ]
          refine wpAnyH_all (rs := [8]) (by kernel_rfl) (by simp) (AllH.cons rfl (fun K hK => ?_) AllH.nil)
          have s0 : U5.cell? ⟨g6, 0, none⟩ = some (.bool false) := H5.out.cell rfl
          have s1 : U5.cell? ⟨g6, 1, none⟩ = some (.bool false) := H5.out.cell rfl
          have s2 : U5.cell? ⟨g6, 2, none⟩ = some (.slice none 0 0) := H5.out.cell rfl
          have fz := H5.out.frozen
          have gg : U5.grownBy (((U5.setCell ⟨g6, 0, none⟩ (.bool rs)).setCell ⟨g6, 1, none⟩ (.bool rgl)).setCell ⟨g6, 2, none⟩ (.slice a2 rn c2)) (some g6) := putr_grown U5 g6 0 rs rgl (.slice a2 rn c2)
          have S6 : Hid (Below w1.heap.size w1 (((U5.setCell ⟨g6, 0, none⟩ (.bool rs)).setCell ⟨g6, 1, none⟩ (.bool rgl)).setCell ⟨g6, 2, none⟩ (.slice a2 rn c2))) := below_putr (k := 0) S5.out Zg6.out rs rgl (.slice a2 rn c2)
          have O6 := Hid.mk' (O5.out.off H5.out (by decide) gg)
          have T6 := Hid.mk' (own_type T5.out H5.out (by decide) gg)
          have G6 := Hid.mk' (G5.out.grown gg (by simpa using blk_ne G5.out H5.out (by decide)))
          have H6 : Hid (Blk (((U5.setCell ⟨g6, 0, none⟩ (.bool rs)).setCell ⟨g6, 1, none⟩ (.bool rgl)).setCell ⟨g6, 2, none⟩ (.slice a2 rn c2)) g6 24 #[.bool rs, .bool rgl, .slice a2 rn c2]) := ((H5.out.set (j := 0) (.bool rs)).set (j := 1) (.bool rgl)).set (j := 2) (.slice a2 rn c2)
          go_simp
          clear gg s0 s1 s2 fz
          generalize (((U5.setCell ⟨g6, 0, none⟩ (.bool rs)).setCell ⟨g6, 1, none⟩ (.bool rgl)).setCell ⟨g6, 2, none⟩ (.slice a2 rn c2)) = U6 at *
          refine hK _ _ ⟨S6.out, ?_⟩
          clear hK K
          try simp only [Act.put, List.getElem_toArray, List.getElem_cons_zero, List.getElem_cons_succ, List.setIfInBounds_toArray, List.set_cons_zero, List.set_cons_succ]
          refine wpAnyH_done (by kernel_rfl) ?_ _
          go_wp2_with fail
          go_meet
          exact ⟨g5, g6, NN, a2, c2, rfl, rfl, ⟨S6.out, G6.out, H6.out, Zg5.out, Zg6.out, hNl, FN.out, O6.out, T6.out⟩⟩
      · skip
        go_simp
        have hb := bAlloc (Below.refl _ U1) (.cells #[.bool false, .bool false, .slice none 0 0] 24)
        have S2 := Hid.mk' (bT S1.out hb)
        have O2 := Hid.mk' (O1.out.keep hb)
        have H2 : Hid (Blk (U1.alloc (.cells #[.bool false, .bool false, .slice none 0 0] 24)) U1.heap.size 24 #[.bool false, .bool false, .slice none 0 0]) := Blk.new _ _ _
        clear hb
        obtain ⟨g6, hg6⟩ : ∃ q, q = U1.heap.size := ⟨_, rfl⟩
        have Zg6 : Hid (w1.heap.size ≤ g6) := by have h1 := S1.out.size; unfold Hid; omega
        rw [← hg6] at H2 ⊢
        generalize U1.alloc (.cells #[.bool false, .bool false, .slice none 0 0] 24) = U2 at *
        clear hg6
        refine hK _ _ ⟨S2.out, ?_⟩
        clear hK K
        try simp only [Act.put, List.getElem_toArray, List.getElem_cons_zero, List.getElem_cons_succ, List.setIfInBounds_toArray, List.set_cons_zero, List.set_cons_succ]
        refine wpAnyH_all (rs := [4, 5]) (by kernel_rfl) (by simp) (AllH.cons rfl (fun K hK => ?_) (AllH.cons rfl (fun K hK => ?_) AllH.nil))
        · skip
          go_simp
          refine (copy_any rs rgl ra rn rc ct U2 (TW.out.keep S2.out) (by omega)).mono ?_
          rintro e U3 ⟨a2, c2, rfl, hO, hb⟩
          have S3 := Hid.mk' (bT S2.out hb)
          have O3 := Hid.mk' (O2.out.keep hb)
          have H3 := Hid.mk' (H2.out.keep hb)
          have T3 : Hid (U3.ownsRow w1.heap.size 5 1 (.slice a2 rn c2) rn (bv ct)) := own_lower hO S2.out.size
          clear hO hb
          dsimp only
          refine hK _ _ ⟨S3.out, ?_⟩
          clear hK K
          try simp only [Act.put, List.getElem_toArray, List.getElem_cons_zero, List.getElem_cons_succ, List.setIfInBounds_toArray, List.set_cons_zero, List.set_cons_succ]
          refine wpAnyH_all (rs := [5]) (by kernel_rfl) (by simp) (AllH.cons rfl (fun K hK => ?_) AllH.nil)
          go_simp
          have hb := bAlloc (Below.refl _ U3) (.cells (bk zb) 28)
          have S4 := Hid.mk' (bT S3.out hb)
          have O4 := Hid.mk' (O3.out.keep hb)
          have T4 := Hid.mk' (own_keep T3.out hb)
          have H4 := Hid.mk' (H3.out.keep hb)
          have G4 : Hid (Blk (U3.alloc (.cells (bk zb) 28)) U3.heap.size 28 (bk zb)) := Blk.new _ _ _
          clear hb
          obtain ⟨g5, hg5⟩ : ∃ q, q = U3.heap.size := ⟨_, rfl⟩
          have Zg5 : Hid (w1.heap.size ≤ g5) := by have h1 := S3.out.size; unfold Hid; omega
          rw [← hg5] at G4 ⊢
          generalize U3.alloc (.cells (bk zb) 28) = U4 at *
          clear hg5
          refine hK _ _ ⟨S4.out, ?_⟩
          clear hK K
          try simp only [Act.put, List.getElem_toArray, List.getElem_cons_zero, List.getElem_cons_succ, List.setIfInBounds_toArray, List.set_cons_zero, List.set_cons_succ]
          refine wpAnyH_all (rs := [7]) (by kernel_rfl) (by simp) (AllH.cons rfl (fun K hK => ?_) AllH.nil)
          refine st28 rfl (.tmp 5) (.tmp 35) rfl rfl rfl hNl rfl G4.out ?_
          have gg := grown_put28 U4 g5 NN
          have S5 : Hid (Below w1.heap.size w1 (put28 U4 g5 NN)) := below_put28 S4.out Zg5.out NN
          have O5 := Hid.mk' (O4.out.off G4.out (by decide) gg)
          have T5 := Hid.mk' (own_type T4.out G4.out (by decide) gg)
          have H5 := Hid.mk' (H4.out.grown gg (by simpa using blk_ne H4.out G4.out (by decide)))
          have G5 := Hid.mk' (Blk.put28 hNl rfl G4.out)
          clear gg
          generalize put28 U4 g5 NN = U5 at *
          refine hK _ _ ⟨S5.out, ?_⟩
          clear hK K
          try simp only [Act.put, List.getElem_toArray, List.getElem_cons_zero, List.getElem_cons_succ, List.setIfInBounds_toArray, List.set_cons_zero, List.set_cons_succ]
          refine wpAnyH_all (rs := [8]) (by kernel_rfl) (by simp) (AllH.cons rfl (fun K hK => ?_) AllH.nil)
          have s0 : U5.cell? ⟨g6, 0, none⟩ = some (.bool false) := H5.out.cell rfl
          have s1 : U5.cell? ⟨g6, 1, none⟩ = some (.bool false) := H5.out.cell rfl
          have s2 : U5.cell? ⟨g6, 2, none⟩ = some (.slice none 0 0) := H5.out.cell rfl
          have fz := H5.out.frozen
          have gg : U5.grownBy (((U5.setCell ⟨g6, 0, none⟩ (.bool rs)).setCell ⟨g6, 1, none⟩ (.bool rgl)).setCell ⟨g6, 2, none⟩ (.slice a2 rn c2)) (some g6) := putr_grown U5 g6 0 rs rgl (.slice a2 rn c2)
          have S6 : Hid (Below w1.heap.size w1 (((U5.setCell ⟨g6, 0, none⟩ (.bool rs)).setCell ⟨g6, 1, none⟩ (.bool rgl)).setCell ⟨g6, 2, none⟩ (.slice a2 rn c2))) := below_putr (k := 0) S5.out Zg6.out rs rgl (.slice a2 rn c2)
          have O6 := Hid.mk' (O5.out.off H5.out (by decide) gg)
          have T6 := Hid.mk' (own_type T5.out H5.out (by decide) gg)
          have G6 := Hid.mk' (G5.out.grown gg (by simpa using blk_ne G5.out H5.out (by decide)))
          have H6 : Hid (Blk (((U5.setCell ⟨g6, 0, none⟩ (.bool rs)).setCell ⟨g6, 1, none⟩ (.bool rgl)).setCell ⟨g6, 2, none⟩ (.slice a2 rn c2)) g6 24 #[.bool rs, .bool rgl, .slice a2 rn c2]) := ((H5.out.set (j := 0) (.bool rs)).set (j := 1) (.bool rgl)).set (j := 2) (.slice a2 rn c2)
          go_simp
          clear gg s0 s1 s2 fz
          generalize (((U5.setCell ⟨g6, 0, none⟩ (.bool rs)).setCell ⟨g6, 1, none⟩ (.bool rgl)).setCell ⟨g6, 2, none⟩ (.slice a2 rn c2)) = U6 at *
          refine hK _ _ ⟨S6.out, ?_⟩
          clear hK K
          try simp only [Act.put, List.getElem_toArray, List.getElem_cons_zero, List.getElem_cons_succ, List.setIfInBounds_toArray, List.set_cons_zero, List.set_cons_succ]
          refine wpAnyH_done (by kernel_rfl) ?_ _
          go_wp2_with fail
          go_meet
          exact ⟨g5, g6, NN, a2, c2, rfl, rfl, ⟨S6.out, G6.out, H6.out, Zg5.out, Zg6.out, hNl, FN.out, O6.out, T6.out⟩⟩
        · skip
          go_simp
          have hb := bAlloc (Below.refl _ U2) (.cells (bk zb) 28)
          have S3 := Hid.mk' (bT S2.out hb)
          have O3 := Hid.mk' (O2.out.keep hb)
          have H3 := Hid.mk' (H2.out.keep hb)
          have G3 : Hid (Blk (U2.alloc (.cells (bk zb) 28)) U2.heap.size 28 (bk zb)) := Blk.new _ _ _
          clear hb
          obtain ⟨g5, hg5⟩ : ∃ q, q = U2.heap.size := ⟨_, rfl⟩
          have Zg5 : Hid (w1.heap.size ≤ g5) := by have h1 := S2.out.size; unfold Hid; omega
          rw [← hg5] at G3 ⊢
          generalize U2.alloc (.cells (bk zb) 28) = U3 at *
          clear hg5
          refine hK _ _ ⟨S3.out, ?_⟩
          clear hK K
          try simp only [Act.put, List.getElem_toArray, List.getElem_cons_zero, List.getElem_cons_succ, List.setIfInBounds_toArray, List.set_cons_zero, List.set_cons_succ]
          refine wpAnyH_all (rs := [4]) (by kernel_rfl) (by simp) (AllH.cons rfl (fun K hK => ?_) AllH.nil)
          go_simp
          refine (copy_any rs rgl ra rn rc ct U3 (TW.out.keep S3.out) (by omega)).mono ?_
          rintro e U4 ⟨a2, c2, rfl, hO, hb⟩
          have S4 := Hid.mk' (bT S3.out hb)
          have O4 := Hid.mk' (O3.out.keep hb)
          have G4 := Hid.mk' (G3.out.keep hb)
          have H4 := Hid.mk' (H3.out.keep hb)
          have T4 : Hid (U4.ownsRow w1.heap.size 5 1 (.slice a2 rn c2) rn (bv ct)) := own_lower hO S3.out.size
          clear hO hb
          dsimp only
          refine hK _ _ ⟨S4.out, ?_⟩
          clear hK K
          try simp only [Act.put, List.getElem_toArray, List.getElem_cons_zero, List.getElem_cons_succ, List.setIfInBounds_toArray, List.set_cons_zero, List.set_cons_succ]
          refine wpAnyH_all (rs := [7]) (by kernel_rfl) (by simp) (AllH.cons rfl (fun K hK => ?_) AllH.nil)
          refine st28 rfl (.tmp 5) (.tmp 35) rfl rfl rfl hNl rfl G4.out ?_
          have gg := grown_put28 U4 g5 NN
          have S5 : Hid (Below w1.heap.size w1 (put28 U4 g5 NN)) := below_put28 S4.out Zg5.out NN
          have O5 := Hid.mk' (O4.out.off G4.out (by decide) gg)
          have T5 := Hid.mk' (own_type T4.out G4.out (by decide) gg)
          have H5 := Hid.mk' (H4.out.grown gg (by simpa using blk_ne H4.out G4.out (by decide)))
          have G5 := Hid.mk' (Blk.put28 hNl rfl G4.out)
          clear gg
          generalize put28 U4 g5 NN = U5 at *
          refine hK _ _ ⟨S5.out, ?_⟩
          clear hK K
          try simp only [Act.put, List.getElem_toArray, List.getElem_cons_zero, List.getElem_cons_succ, List.setIfInBounds_toArray, List.set_cons_zero, List.set_cons_succ]
          refine wpAnyH_all (rs := [8]) (by kernel_rfl) (by simp) (AllH.cons rfl (fun K hK => ?_) AllH.nil)
          have s0 : U5.cell? ⟨g6, 0, none⟩ = some (.bool false) := H5.out.cell rfl
          have s1 : U5.cell? ⟨g6, 1, none⟩ = some (.bool false) := H5.out.cell rfl
          have s2 : U5.cell? ⟨g6, 2, none⟩ = some (.slice none 0 0) := H5.out.cell rfl
          have fz := H5.out.frozen
          have gg : U5.grownBy (((U5.setCell ⟨g6, 0, none⟩ (.bool rs)).setCell ⟨g6, 1, none⟩ (.bool rgl)).setCell ⟨g6, 2, none⟩ (.slice a2 rn c2)) (some g6) := putr_grown U5 g6 0 rs rgl (.slice a2 rn c2)
          have S6 : Hid (Below w1.heap.size w1 (((U5.setCell ⟨g6, 0, none⟩ (.bool rs)).setCell ⟨g6, 1, none⟩ (.bool rgl)).setCell ⟨g6, 2, none⟩ (.slice a2 rn c2))) := below_putr (k := 0) S5.out Zg6.out rs rgl (.slice a2 rn c2)
          have O6 := Hid.mk' (O5.out.off H5.out (by decide) gg)
          have T6 := Hid.mk' (own_type T5.out H5.out (by decide) gg)
          have G6 := Hid.mk' (G5.out.grown gg (by simpa using blk_ne G5.out H5.out (by decide)))
          have H6 : Hid (Blk (((U5.setCell ⟨g6, 0, none⟩ (.bool rs)).setCell ⟨g6, 1, none⟩ (.bool rgl)).setCell ⟨g6, 2, none⟩ (.slice a2 rn c2)) g6 24 #[.bool rs, .bool rgl, .slice a2 rn c2]) := ((H5.out.set (j := 0) (.bool rs)).set (j := 1) (.bool rgl)).set (j := 2) (.slice a2 rn c2)
          go_simp
          clear gg s0 s1 s2 fz
          generalize (((U5.setCell ⟨g6, 0, none⟩ (.bool rs)).setCell ⟨g6, 1, none⟩ (.bool rgl)).setCell ⟨g6, 2, none⟩ (.slice a2 rn c2)) = U6 at *
          refine hK _ _ ⟨S6.out, ?_⟩
          clear hK K
          try simp only [Act.put, List.getElem_toArray, List.getElem_cons_zero, List.getElem_cons_succ, List.setIfInBounds_toArray, List.set_cons_zero, List.set_cons_succ]
          refine wpAnyH_done (by kernel_rfl) ?_ _
          go_wp2_with fail
          go_meet
          exact ⟨g5, g6, NN, a2, c2, rfl, rfl, ⟨S6.out, G6.out, H6.out, Zg5.out, Zg6.out, hNl, FN.out, O6.out, T6.out⟩⟩
    · skip
      go_simp
      have hb := bAlloc (Below.refl _ U0) (.cells (bk zb) 28)
      have S1 := Hid.mk' (bT S0.out hb)
      have G1 : Hid (Blk (U0.alloc (.cells (bk zb) 28)) U0.heap.size 28 (bk zb)) := Blk.new _ _ _
      clear hb
      obtain ⟨g5, hg5⟩ : ∃ q, q = U0.heap.size := ⟨_, rfl⟩
      have Zg5 : Hid (w1.heap.size ≤ g5) := by have h1 := S0.out.size; unfold Hid; omega
      rw [← hg5] at G1 ⊢
      generalize U0.alloc (.cells (bk zb) 28) = U1 at *
      clear hg5
      refine hK _ _ ⟨S1.out, ?_⟩
      clear hK K
      try simp only [Act.put, List.getElem_toArray, List.getElem_cons_zero, List.getElem_cons_succ, List.setIfInBounds_toArray, List.set_cons_zero, List.set_cons_succ]
      refine wpAnyH_all (rs := [1, 6]) (by kernel_rfl) (by simp) (AllH.cons rfl (fun K hK => ?_) (AllH.cons rfl (fun K hK => ?_) AllH.nil))
      · skip
        go_simp
        refine (all_any L P U1 (RW.out.keep S1.out)).mono ?_
        rintro e U2 ⟨NN, rfl, hN⟩
        have hNl := hN.len
        have FN := Hid.mk' hN.fl
        have hb := hN.own.bel
        have S2 := Hid.mk' (bT S1.out hb)
        have G2 := Hid.mk' (G1.out.keep hb)
        have O2 := Hid.mk' (rwz_of (w1 := w1) hN.own S1.out.size)
        clear hN hb
        dsimp only
        refine hK _ _ ⟨S2.out, ?_⟩
        clear hK K
        try simp only [Act.put, List.getElem_toArray, List.getElem_cons_zero, List.getElem_cons_succ, List.setIfInBounds_toArray, List.set_cons_zero, List.set_cons_succ]
        refine wpAnyH_all (rs := [4, 6]) (by kernel_rfl) (by simp) (AllH.cons rfl (fun K hK => ?_) (AllH.cons rfl (fun K hK => ?_) AllH.nil))
        · skip
          go_simp
          refine (copy_any rs rgl ra rn rc ct U2 (TW.out.keep S2.out) (by omega)).mono ?_
          rintro e U3 ⟨a2, c2, rfl, hO, hb⟩
          have S3 := Hid.mk' (bT S2.out hb)
          have O3 := Hid.mk' (O2.out.keep hb)
          have G3 := Hid.mk' (G2.out.keep hb)
          have T3 : Hid (U3.ownsRow w1.heap.size 5 1 (.slice a2 rn c2) rn (bv ct)) := own_lower hO S2.out.size
          clear hO hb
          dsimp only
          refine hK _ _ ⟨S3.out, ?_⟩
          clear hK K
          try simp only [Act.put, List.getElem_toArray, List.getElem_cons_zero, List.getElem_cons_succ, List.setIfInBounds_toArray, List.set_cons_zero, List.set_cons_succ]
          refine wpAnyH_all (rs := [6]) (by kernel_rfl) (by simp) (AllH.cons rfl (fun K hK => ?_) AllH.nil)
          go_simp
          have hb := bAlloc (Below.refl _ U3) (.cells #[.bool false, .bool false, .slice none 0 0] 24)
          have S4 := Hid.mk' (bT S3.out hb)
          have O4 := Hid.mk' (O3.out.keep hb)
          have T4 := Hid.mk' (own_keep T3.out hb)
          have G4 := Hid.mk' (G3.out.keep hb)
          have H4 : Hid (Blk (U3.alloc (.cells #[.bool false, .bool false, .slice none 0 0] 24)) U3.heap.size 24 #[.bool false, .bool false, .slice none 0 0]) := Blk.new _ _ _
          clear hb
          obtain ⟨g6, hg6⟩ : ∃ q, q = U3.heap.size := ⟨_, rfl⟩
          have Zg6 : Hid (w1.heap.size ≤ g6) := by have h1 := S3.out.size; unfold Hid; omega
          rw [← hg6] at H4 ⊢
          generalize U3.alloc (.cells #[.bool false, .bool false, .slice none 0 0] 24) = U4 at *
          clear hg6
          refine hK _ _ ⟨S4.out, ?_⟩
          clear hK K
          try simp only [Act.put, List.getElem_toArray, List.getElem_cons_zero, List.getElem_cons_succ, List.setIfInBounds_toArray, List.set_cons_zero, List.set_cons_succ]
          refine wpAnyH_all (rs := [7]) (by kernel_rfl) (by simp) (AllH.cons rfl (fun K hK => ?_) AllH.nil)
          refine st28 rfl (.tmp 5) (.tmp 35) rfl rfl rfl hNl rfl G4.out ?_
          have gg := grown_put28 U4 g5 NN
          have S5 : Hid (Below w1.heap.size w1 (put28 U4 g5 NN)) := below_put28 S4.out Zg5.out NN
          have O5 := Hid.mk' (O4.out.off G4.out (by decide) gg)
          have T5 := Hid.mk' (own_type T4.out G4.out (by decide) gg)
          have H5 := Hid.mk' (H4.out.grown gg (by simpa using blk_ne H4.out G4.out (by decide)))
          have G5 := Hid.mk' (Blk.put28 hNl rfl G4.out)
          clear gg
          generalize put28 U4 g5 NN = U5 at *
          refine hK _ _ ⟨S5.out, ?_⟩
          clear hK K
          try simp only [Act.put, List.getElem_toArray, List.getElem_cons_zero, List.getElem_cons_succ, List.setIfInBounds_toArray, List.set_cons_zero, List.set_cons_succ]
          refine wpAnyH_all (rs := [8]) (by kernel_rfl) (by simp) (AllH.cons rfl (fun K hK => ?_) AllH.nil)
          have s0 : U5.cell? ⟨g6, 0, none⟩ = some (.bool false) := H5.out.cell rfl
          have s1 : U5.cell? ⟨g6, 1, none⟩ = some (.bool false) := H5.out.cell rfl
          have s2 : U5.cell? ⟨g6, 2, none⟩ = some (.slice none 0 0) := H5.out.cell rfl
          have fz := H5.out.frozen
          have gg : U5.grownBy (((U5.setCell ⟨g6, 0, none⟩ (.bool rs)).setCell ⟨g6, 1, none⟩ (.bool rgl)).setCell ⟨g6, 2, none⟩ (.slice a2 rn c2)) (some g6) := putr_grown U5 g6 0 rs rgl (.slice a2 rn c2)
          have S6 : Hid (Below w1.heap.size w1 (((U5.setCell ⟨g6, 0, none⟩ (.bool rs)).setCell ⟨g6, 1, none⟩ (.bool rgl)).setCell ⟨g6, 2, none⟩ (.slice a2 rn c2))) := below_putr (k := 0) S5.out Zg6.out rs rgl (.slice a2 rn c2)
          have O6 := Hid.mk' (O5.out.off H5.out (by decide) gg)
          have T6 := Hid.mk' (own_type T5.out H5.out (by decide) gg)
          have G6 := Hid.mk' (G5.out.grown gg (by simpa using blk_ne G5.out H5.out (by decide)))
          have H6 : Hid (Blk (((U5.setCell ⟨g6, 0, none⟩ (.bool rs)).setCell ⟨g6, 1, none⟩ (.bool rgl)).setCell ⟨g6, 2, none⟩ (.slice a2 rn c2)) g6 24 #[.bool rs, .bool rgl, .slice a2 rn c2]) := ((H5.out.set (j := 0) (.bool rs)).set (j := 1) (.bool rgl)).set (j := 2) (.slice a2 rn c2)
          go_simp
          clear gg s0 s1 s2 fz
          generalize (((U5.setCell ⟨g6, 0, none⟩ (.bool rs)).setCell ⟨g6, 1, none⟩ (.bool rgl)).setCell ⟨g6, 2, none⟩ (.slice a2 rn c2)) = U6 at *
          refine hK _ _ ⟨S6.out, ?_⟩
          clear hK K
          try simp only [Act.put, List.getElem_toArray, List.getElem_cons_zero, List.getElem_cons_succ, List.setIfInBounds_toArray, List.set_cons_zero, List.set_cons_succ]
          refine wpAnyH_done (by kernel_rfl) ?_ _
          go_wp2_with fail
          go_meet
          exact ⟨g5, g6, NN, a2, c2, rfl, rfl, ⟨S6.out, G6.out, H6.out, Zg5.out, Zg6.out, hNl, FN.out, O6.out, T6.out⟩⟩
        · skip
          go_simp
          have hb := bAlloc (Below.refl _ U2) (.cells #[.bool false, .bool false, .slice none 0 0] 24)
          have S3 := Hid.mk' (bT S2.out hb)
          have O3 := Hid.mk' (O2.out.keep hb)
          have G3 := Hid.mk' (G2.out.keep hb)
          have H3 : Hid (Blk (U2.alloc (.cells #[.bool false, .bool false, .slice none 0 0] 24)) U2.heap.size 24 #[.bool false, .bool false, .slice none 0 0]) := Blk.new _ _ _
          clear hb
          obtain ⟨g6, hg6⟩ : ∃ q, q = U2.heap.size := ⟨_, rfl⟩
          have Zg6 : Hid (w1.heap.size ≤ g6) := by have h1 := S2.out.size; unfold Hid; omega
          rw [← hg6] at H3 ⊢
          generalize U2.alloc (.cells #[.bool false, .bool false, .slice none 0 0] 24) = U3 at *
          clear hg6
          refine hK _ _ ⟨S3.out, ?_⟩
          clear hK K
          try simp only [Act.put, List.getElem_toArray, List.getElem_cons_zero, List.getElem_cons_succ, List.setIfInBounds_toArray, List.set_cons_zero, List.set_cons_succ]
          refine wpAnyH_all (rs := [4]) (by kernel_rfl) (by simp) (AllH.cons rfl (fun K hK => ?_) AllH.nil)
          go_simp
          refine (copy_any rs rgl ra rn rc ct U3 (TW.out.keep S3.out) (by omega)).mono ?_
          rintro e U4 ⟨a2, c2, rfl, hO, hb⟩
          have S4 := Hid.mk' (bT S3.out hb)
          have O4 := Hid.mk' (O3.out.keep hb)
          have G4 := Hid.mk' (G3.out.keep hb)
          have H4 := Hid.mk' (H3.out.keep hb)
          have T4 : Hid (U4.ownsRow w1.heap.size 5 1 (.slice a2 rn c2) rn (bv ct)) := own_lower hO S3.out.size
          clear hO hb
          dsimp only
          refine hK _ _ ⟨S4.out, ?_⟩
          clear hK K
          try simp only [Act.put, List.getElem_toArray, List.getElem_cons_zero, List.getElem_cons_succ, List.setIfInBounds_toArray, List.set_cons_zero, List.set_cons_succ]
          refine wpAnyH_all (rs := [7]) (by kernel_rfl) (by simp) (AllH.cons rfl (fun K hK => ?_) AllH.nil)
          refine st28 rfl (.tmp 5) (.tmp 35) rfl rfl rfl hNl rfl G4.out ?_
          have gg := grown_put28 U4 g5 NN
          have S5 : Hid (Below w1.heap.size w1 (put28 U4 g5 NN)) := below_put28 S4.out Zg5.out NN
          have O5 := Hid.mk' (O4.out.off G4.out (by decide) gg)
          have T5 := Hid.mk' (own_type T4.out G4.out (by decide) gg)
          have H5 := Hid.mk' (H4.out.grown gg (by simpa using blk_ne H4.out G4.out (by decide)))
          have G5 := Hid.mk' (Blk.put28 hNl rfl G4.out)
          clear gg
          generalize put28 U4 g5 NN = U5 at *
          refine hK _ _ ⟨S5.out, ?_⟩
          clear hK K
          try simp only [Act.put, List.getElem_toArray, List.getElem_cons_zero, List.getElem_cons_succ, List.setIfInBounds_toArray, List.set_cons_zero, List.set_cons_succ]
          refine wpAnyH_all (rs := [8]) (by kernel_rfl) (by simp) (AllH.cons rfl (fun K hK => ?_) AllH.nil)
          have s0 : U5.cell? ⟨g6, 0, none⟩ = some (.bool false) := H5.out.cell rfl
          have s1 : U5.cell? ⟨g6, 1, none⟩ = some (.bool false) := H5.out.cell rfl
          have s2 : U5.cell? ⟨g6, 2, none⟩ = some (.slice none 0 0) := H5.out.cell rfl
          have fz := H5.out.frozen
          have gg : U5.grownBy (((U5.setCell ⟨g6, 0, none⟩ (.bool rs)).setCell ⟨g6, 1, none⟩ (.bool rgl)).setCell ⟨g6, 2, none⟩ (.slice a2 rn c2)) (some g6) := putr_grown U5 g6 0 rs rgl (.slice a2 rn c2)
          have S6 : Hid (Below w1.heap.size w1 (((U5.setCell ⟨g6, 0, none⟩ (.bool rs)).setCell ⟨g6, 1, none⟩ (.bool rgl)).setCell ⟨g6, 2, none⟩ (.slice a2 rn c2))) := below_putr (k := 0) S5.out Zg6.out rs rgl (.slice a2 rn c2)
          have O6 := Hid.mk' (O5.out.off H5.out (by decide) gg)
          have T6 := Hid.mk' (own_type T5.out H5.out (by decide) gg)
          have G6 := Hid.mk' (G5.out.grown gg (by simpa using blk_ne G5.out H5.out (by decide)))
          have H6 : Hid (Blk (((U5.setCell ⟨g6, 0, none⟩ (.bool rs)).setCell ⟨g6, 1, none⟩ (.bool rgl)).setCell ⟨g6, 2, none⟩ (.slice a2 rn c2)) g6 24 #[.bool rs, .bool rgl, .slice a2 rn c2]) := ((H5.out.set (j := 0) (.bool rs)).set (j := 1) (.bool rgl)).set (j := 2) (.slice a2 rn c2)
          go_simp
          clear gg s0 s1 s2 fz
          generalize (((U5.setCell ⟨g6, 0, none⟩ (.bool rs)).setCell ⟨g6, 1, none⟩ (.bool rgl)).setCell ⟨g6, 2, none⟩ (.slice a2 rn c2)) = U6 at *
          refine hK _ _ ⟨S6.out, ?_⟩
          clear hK K
          try simp only [Act.put, List.getElem_toArray, List.getElem_cons_zero, List.getElem_cons_succ, List.setIfInBounds_toArray, List.set_cons_zero, List.set_cons_succ]
          refine wpAnyH_done (by kernel_rfl) ?_ _
          go_wp2_with fail
          go_meet
          exact ⟨g5, g6, NN, a2, c2, rfl, rfl, ⟨S6.out, G6.out, H6.out, Zg5.out, Zg6.out, hNl, FN.out, O6.out, T6.out⟩⟩
      · skip
        go_simp
        have hb := bAlloc (Below.refl _ U1) (.cells #[.bool false, .bool false, .slice none 0 0] 24)
        have S2 := Hid.mk' (bT S1.out hb)
        have G2 := Hid.mk' (G1.out.keep hb)
        have H2 : Hid (Blk (U1.alloc (.cells #[.bool false, .bool false, .slice none 0 0] 24)) U1.heap.size 24 #[.bool false, .bool false, .slice none 0 0]) := Blk.new _ _ _
        clear hb
        obtain ⟨g6, hg6⟩ : ∃ q, q = U1.heap.size := ⟨_, rfl⟩
        have Zg6 : Hid (w1.heap.size ≤ g6) := by have h1 := S1.out.size; unfold Hid; omega
        rw [← hg6] at H2 ⊢
        generalize U1.alloc (.cells #[.bool false, .bool false, .slice none 0 0] 24) = U2 at *
        clear hg6
        refine hK _ _ ⟨S2.out, ?_⟩
        clear hK K
        try simp only [Act.put, List.getElem_toArray, List.getElem_cons_zero, List.getElem_cons_succ, List.setIfInBounds_toArray, List.set_cons_zero, List.set_cons_succ]
        refine wpAnyH_all (rs := [1]) (by kernel_rfl) (by simp) (AllH.cons rfl (fun K hK => ?_) AllH.nil)
        go_simp
        refine (all_any L P U2 (RW.out.keep S2.out)).mono ?_
        rintro e U3 ⟨NN, rfl, hN⟩
        have hNl := hN.len
        have FN := Hid.mk' hN.fl
        have hb := hN.own.bel
        have S3 := Hid.mk' (bT S2.out hb)
        have G3 := Hid.mk' (G2.out.keep hb)
        have H3 := Hid.mk' (H2.out.keep hb)
        have O3 := Hid.mk' (rwz_of (w1 := w1) hN.own S2.out.size)
        clear hN hb
        dsimp only
        refine hK _ _ ⟨S3.out, ?_⟩
        clear hK K
        try simp only [Act.put, List.getElem_toArray, List.getElem_cons_zero, List.getElem_cons_succ, List.setIfInBounds_toArray, List.set_cons_zero, List.set_cons_succ]
        refine wpAnyH_all (rs := [4]) (by kernel_rfl) (by simp) (AllH.cons rfl (fun K hK => ?_) AllH.nil)
        go_simp
        refine (copy_any rs rgl ra rn rc ct U3 (TW.out.keep S3.out) (by omega)).mono ?_
        rintro e U4 ⟨a2, c2, rfl, hO, hb⟩
        have S4 := Hid.mk' (bT S3.out hb)
        have O4 := Hid.mk' (O3.out.keep hb)
        have G4 := Hid.mk' (G3.out.keep hb)
        have H4 := Hid.mk' (H3.out.keep hb)
        have T4 : Hid (U4.ownsRow w1.heap.size 5 1 (.slice a2 rn c2) rn (bv ct)) := own_lower hO S3.out.size
        clear hO hb
        dsimp only
        refine hK _ _ ⟨S4.out, ?_⟩
        clear hK K
        try simp only [Act.put, List.getElem_toArray, List.getElem_cons_zero, List.getElem_cons_succ, List.setIfInBounds_toArray, List.set_cons_zero, List.set_cons_succ]
        refine wpAnyH_all (rs := [7]) (by kernel_rfl) (by simp) (AllH.cons rfl (fun K hK => ?_) AllH.nil)
        refine st28 rfl (.tmp 5) (.tmp 35) rfl rfl rfl hNl rfl G4.out ?_
        have gg := grown_put28 U4 g5 NN
        have S5 : Hid (Below w1.heap.size w1 (put28 U4 g5 NN)) := below_put28 S4.out Zg5.out NN
        have O5 := Hid.mk' (O4.out.off G4.out (by decide) gg)
        have T5 := Hid.mk' (own_type T4.out G4.out (by decide) gg)
        have H5 := Hid.mk' (H4.out.grown gg (by simpa using blk_ne H4.out G4.out (by decide)))
        have G5 := Hid.mk' (Blk.put28 hNl rfl G4.out)
        clear gg
        generalize put28 U4 g5 NN = U5 at *
        refine hK _ _ ⟨S5.out, ?_⟩
        clear hK K
        try simp only [Act.put, List.getElem_toArray, List.getElem_cons_zero, List.getElem_cons_succ, List.setIfInBounds_toArray, List.set_cons_zero, List.set_cons_succ]
        refine wpAnyH_all (rs := [8]) (by kernel_rfl) (by simp) (AllH.cons rfl (fun K hK => ?_) AllH.nil)
        have s0 : U5.cell? ⟨g6, 0, none⟩ = some (.bool false) := H5.out.cell rfl
        have s1 : U5.cell? ⟨g6, 1, none⟩ = some (.bool false) := H5.out.cell rfl
        have s2 : U5.cell? ⟨g6, 2, none⟩ = some (.slice none 0 0) := H5.out.cell rfl
        have fz := H5.out.frozen
        have gg : U5.grownBy (((U5.setCell ⟨g6, 0, none⟩ (.bool rs)).setCell ⟨g6, 1, none⟩ (.bool rgl)).setCell ⟨g6, 2, none⟩ (.slice a2 rn c2)) (some g6) := putr_grown U5 g6 0 rs rgl (.slice a2 rn c2)
        have S6 : Hid (Below w1.heap.size w1 (((U5.setCell ⟨g6, 0, none⟩ (.bool rs)).setCell ⟨g6, 1, none⟩ (.bool rgl)).setCell ⟨g6, 2, none⟩ (.slice a2 rn c2))) := below_putr (k := 0) S5.out Zg6.out rs rgl (.slice a2 rn c2)
        have O6 := Hid.mk' (O5.out.off H5.out (by decide) gg)
        have T6 := Hid.mk' (own_type T5.out H5.out (by decide) gg)
        have G6 := Hid.mk' (G5.out.grown gg (by simpa using blk_ne G5.out H5.out (by decide)))
        have H6 : Hid (Blk (((U5.setCell ⟨g6, 0, none⟩ (.bool rs)).setCell ⟨g6, 1, none⟩ (.bool rgl)).setCell ⟨g6, 2, none⟩ (.slice a2 rn c2)) g6 24 #[.bool rs, .bool rgl, .slice a2 rn c2]) := ((H5.out.set (j := 0) (.bool rs)).set (j := 1) (.bool rgl)).set (j := 2) (.slice a2 rn c2)
        go_simp
        clear gg s0 s1 s2 fz
        generalize (((U5.setCell ⟨g6, 0, none⟩ (.bool rs)).setCell ⟨g6, 1, none⟩ (.bool rgl)).setCell ⟨g6, 2, none⟩ (.slice a2 rn c2)) = U6 at *
        refine hK _ _ ⟨S6.out, ?_⟩
        clear hK K
        try simp only [Act.put, List.getElem_toArray, List.getElem_cons_zero, List.getElem_cons_succ, List.setIfInBounds_toArray, List.set_cons_zero, List.set_cons_succ]
        refine wpAnyH_done (by kernel_rfl) ?_ _
        go_wp2_with fail
        go_meet
        exact ⟨g5, g6, NN, a2, c2, rfl, rfl, ⟨S6.out, G6.out, H6.out, Zg5.out, Zg6.out, hNl, FN.out, O6.out, T6.out⟩⟩
    · skip
      go_simp
      have hb := bAlloc (Below.refl _ U0) (.cells #[.bool false, .bool false, .slice none 0 0] 24)
      have S1 := Hid.mk' (bT S0.out hb)
      have H1 : Hid (Blk (U0.alloc (.cells #[.bool false, .bool false, .slice none 0 0] 24)) U0.heap.size 24 #[.bool false, .bool false, .slice none 0 0]) := Blk.new _ _ _
      clear hb
      obtain ⟨g6, hg6⟩ : ∃ q, q = U0.heap.size := ⟨_, rfl⟩
      have Zg6 : Hid (w1.heap.size ≤ g6) := by have h1 := S0.out.size; unfold Hid; omega
      rw [← hg6] at H1 ⊢
      generalize U0.alloc (.cells #[.bool false, .bool false, .slice none 0 0] 24) = U1 at *
      clear hg6
      refine hK _ _ ⟨S1.out, ?_⟩
      clear hK K
      try simp only [Act.put, List.getElem_toArray, List.getElem_cons_zero, List.getElem_cons_succ, List.setIfInBounds_toArray, List.set_cons_zero, List.set_cons_succ]
      refine wpAnyH_all (rs := [1, 5]) (by kernel_rfl) (by simp) (AllH.cons rfl (fun K hK => ?_) (AllH.cons rfl (fun K hK => ?_) AllH.nil))
      · skip
        go_simp
        refine (all_any L P U1 (RW.out.keep S1.out)).mono ?_
        rintro e U2 ⟨NN, rfl, hN⟩
        have hNl := hN.len
        have FN := Hid.mk' hN.fl
        have hb := hN.own.bel
        have S2 := Hid.mk' (bT S1.out hb)
        have H2 := Hid.mk' (H1.out.keep hb)
        have O2 := Hid.mk' (rwz_of (w1 := w1) hN.own S1.out.size)
        clear hN hb
        dsimp only
        refine hK _ _ ⟨S2.out, ?_⟩
        clear hK K
        try simp only [Act.put, List.getElem_toArray, List.getElem_cons_zero, List.getElem_cons_succ, List.setIfInBounds_toArray, List.set_cons_zero, List.set_cons_succ]
        refine wpAnyH_all (rs := [4, 5]) (by kernel_rfl) (by simp) (AllH.cons rfl (fun K hK => ?_) (AllH.cons rfl (fun K hK => ?_) AllH.nil))
        · skip
          go_simp
          refine (copy_any rs rgl ra rn rc ct U2 (TW.out.keep S2.out) (by omega)).mono ?_
          rintro e U3 ⟨a2, c2, rfl, hO, hb⟩
          have S3 := Hid.mk' (bT S2.out hb)
          have O3 := Hid.mk' (O2.out.keep hb)
          have H3 := Hid.mk' (H2.out.keep hb)
          have T3 : Hid (U3.ownsRow w1.heap.size 5 1 (.slice a2 rn c2) rn (bv ct)) := own_lower hO S2.out.size
          clear hO hb
          dsimp only
          refine hK _ _ ⟨S3.out, ?_⟩
          clear hK K
          try simp only [Act.put, List.getElem_toArray, List.getElem_cons_zero, List.getElem_cons_succ, List.setIfInBounds_toArray, List.set_cons_zero, List.set_cons_succ]
          refine wpAnyH_all (rs := [5]) (by kernel_rfl) (by simp) (AllH.cons rfl (fun K hK => ?_) AllH.nil)
          go_simp
          have hb := bAlloc (Below.refl _ U3) (.cells (bk zb) 28)
          have S4 := Hid.mk' (bT S3.out hb)
          have O4 := Hid.mk' (O3.out.keep hb)
          have T4 := Hid.mk' (own_keep T3.out hb)
          have H4 := Hid.mk' (H3.out.keep hb)
          have G4 : Hid (Blk (U3.alloc (.cells (bk zb) 28)) U3.heap.size 28 (bk zb)) := Blk.new _ _ _
          clear hb
          obtain ⟨g5, hg5⟩ : ∃ q, q = U3.heap.size := ⟨_, rfl⟩
          have Zg5 : Hid (w1.heap.size ≤ g5) := by have h1 := S3.out.size; unfold Hid; omega
          rw [← hg5] at G4 ⊢
          generalize U3.alloc (.cells (bk zb) 28) = U4 at *
          clear hg5
          refine hK _ _ ⟨S4.out, ?_⟩
          clear hK K
          try simp only [Act.put, List.getElem_toArray, List.getElem_cons_zero, List.getElem_cons_succ, List.setIfInBounds_toArray, List.set_cons_zero, List.set_cons_succ]
          refine wpAnyH_all (rs := [7]) (by kernel_rfl) (by simp) (AllH.cons rfl (fun K hK => ?_) AllH.nil)
          refine st28 rfl (.tmp 5) (.tmp 35) rfl rfl rfl hNl rfl G4.out ?_
          have gg := grown_put28 U4 g5 NN
          have S5 : Hid (Below w1.heap.size w1 (put28 U4 g5 NN)) := below_put28 S4.out Zg5.out NN
          have O5 := Hid.mk' (O4.out.off G4.out (by decide) gg)
          have T5 := Hid.mk' (own_type T4.out G4.out (by decide) gg)
          have H5 := Hid.mk' (H4.out.grown gg (by simpa using blk_ne H4.out G4.out (by decide)))
          have G5 := Hid.mk' (Blk.put28 hNl rfl G4.out)
          clear gg
          generalize put28 U4 g5 NN = U5 at *
          refine hK _ _ ⟨S5.out, ?_⟩
          clear hK K
          try simp only [Act.put, List.getElem_toArray, List.getElem_cons_zero, List.getElem_cons_succ, List.setIfInBounds_toArray, List.set_cons_zero, List.set_cons_succ]
          refine wpAnyH_all (rs := [8]) (by kernel_rfl) (by simp) (AllH.cons rfl (fun K hK => ?_) AllH.nil)
          have s0 : U5.cell? ⟨g6, 0, none⟩ = some (.bool false) := H5.out.cell rfl
          have s1 : U5.cell? ⟨g6, 1, none⟩ = some (.bool false) := H5.out.cell rfl
          have s2 : U5.cell? ⟨g6, 2, none⟩ = some (.slice none 0 0) := H5.out.cell rfl
          have fz := H5.out.frozen
          have gg : U5.grownBy (((U5.setCell ⟨g6, 0, none⟩ (.bool rs)).setCell ⟨g6, 1, none⟩ (.bool rgl)).setCell ⟨g6, 2, none⟩ (.slice a2 rn c2)) (some g6) := putr_grown U5 g6 0 rs rgl (.slice a2 rn c2)
          have S6 : Hid (Below w1.heap.size w1 (((U5.setCell ⟨g6, 0, none⟩ (.bool rs)).setCell ⟨g6, 1, none⟩ (.bool rgl)).setCell ⟨g6, 2, none⟩ (.slice a2 rn c2))) := below_putr (k := 0) S5.out Zg6.out rs rgl (.slice a2 rn c2)
          have O6 := Hid.mk' (O5.out.off H5.out (by decide) gg)
          have T6 := Hid.mk' (own_type T5.out H5.out (by decide) gg)
          have G6 := Hid.mk' (G5.out.grown gg (by simpa using blk_ne G5.out H5.out (by decide)))
          have H6 : Hid (Blk (((U5.setCell ⟨g6, 0, none⟩ (.bool rs)).setCell ⟨g6, 1, none⟩ (.bool rgl)).setCell ⟨g6, 2, none⟩ (.slice a2 rn c2)) g6 24 #[.bool rs, .bool rgl, .slice a2 rn c2]) := ((H5.out.set (j := 0) (.bool rs)).set (j := 1) (.bool rgl)).set (j := 2) (.slice a2 rn c2)
          go_simp
          clear gg s0 s1 s2 fz
          generalize (((U5.setCell ⟨g6, 0, none⟩ (.bool rs)).setCell ⟨g6, 1, none⟩ (.bool rgl)).setCell ⟨g6, 2, none⟩ (.slice a2 rn c2)) = U6 at *
          refine hK _ _ ⟨S6.out, ?_⟩
          clear hK K
          try simp only [Act.put, List.getElem_toArray, List.getElem_cons_zero, List.getElem_cons_succ, List.setIfInBounds_toArray, List.set_cons_zero, List.set_cons_succ]
          refine wpAnyH_done (by kernel_rfl) ?_ _
          go_wp2_with fail
          go_meet
          exact ⟨g5, g6, NN, a2, c2, rfl, rfl, ⟨S6.out, G6.out, H6.out, Zg5.out, Zg6.out, hNl, FN.out, O6.out, T6.out⟩⟩
        · skip
          go_simp
          have hb := bAlloc (Below.refl _ U2) (.cells (bk zb) 28)
          have S3 := Hid.mk' (bT S2.out hb)
          have O3 := Hid.mk' (O2.out.keep hb)
          have H3 := Hid.mk' (H2.out.keep hb)
          have G3 : Hid (Blk (U2.alloc (.cells (bk zb) 28)) U2.heap.size 28 (bk zb)) := Blk.new _ _ _
          clear hb
          obtain ⟨g5, hg5⟩ : ∃ q, q = U2.heap.size := ⟨_, rfl⟩
          have Zg5 : Hid (w1.heap.size ≤ g5) := by have h1 := S2.out.size; unfold Hid; omega
          rw [← hg5] at G3 ⊢
          generalize U2.alloc (.cells (bk zb) 28) = U3 at *
          clear hg5
          refine hK _ _ ⟨S3.out, ?_⟩
          clear hK K
          try simp only [Act.put, List.getElem_toArray, List.getElem_cons_zero, List.getElem_cons_succ, List.setIfInBounds_toArray, List.set_cons_zero, List.set_cons_succ]
          refine wpAnyH_all (rs := [4]) (by kernel_rfl) (by simp) (AllH.cons rfl (fun K hK => ?_) AllH.nil)
          go_simp
          refine (copy_any rs rgl ra rn rc ct U3 (TW.out.keep S3.out) (by omega)).mono ?_
          rintro e U4 ⟨a2, c2, rfl, hO, hb⟩
          have S4 := Hid.mk' (bT S3.out hb)
          have O4 := Hid.mk' (O3.out.keep hb)
          have G4 := Hid.mk' (G3.out.keep hb)
          have H4 := Hid.mk' (H3.out.keep hb)
          have T4 : Hid (U4.ownsRow w1.heap.size 5 1 (.slice a2 rn c2) rn (bv ct)) := own_lower hO S3.out.size
          clear hO hb
          dsimp only
          refine hK _ _ ⟨S4.out, ?_⟩
          clear hK K
          try simp only [Act.put, List.getElem_toArray, List.getElem_cons_zero, List.getElem_cons_succ, List.setIfInBounds_toArray, List.set_cons_zero, List.set_cons_succ]
          refine wpAnyH_all (rs := [7]) (by kernel_rfl) (by simp) (AllH.cons rfl (fun K hK => ?_) AllH.nil)
          refine st28 rfl (.tmp 5) (.tmp 35) rfl rfl rfl hNl rfl G4.out ?_
          have gg := grown_put28 U4 g5 NN
          have S5 : Hid (Below w1.heap.size w1 (put28 U4 g5 NN)) := below_put28 S4.out Zg5.out NN
          have O5 := Hid.mk' (O4.out.off G4.out (by decide) gg)
          have T5 := Hid.mk' (own_type T4.out G4.out (by decide) gg)
          have H5 := Hid.mk' (H4.out.grown gg (by simpa using blk_ne H4.out G4.out (by decide)))
          have G5 := Hid.mk' (Blk.put28 hNl rfl G4.out)
          clear gg
          generalize put28 U4 g5 NN = U5 at *
          refine hK _ _ ⟨S5.out, ?_⟩
          clear hK K
          try simp only [Act.put, List.getElem_toArray, List.getElem_cons_zero, List.getElem_cons_succ, List.setIfInBounds_toArray, List.set_cons_zero, List.set_cons_succ]
          refine wpAnyH_all (rs := [8]) (by kernel_rfl) (by simp) (AllH.cons rfl (fun K hK => ?_) AllH.nil)
          have s0 : U5.cell? ⟨g6, 0, none⟩ = some (.bool false) := H5.out.cell rfl
          have s1 : U5.cell? ⟨g6, 1, none⟩ = some (.bool false) := H5.out.cell rfl
          have s2 : U5.cell? ⟨g6, 2, none⟩ = some (.slice none 0 0) := H5.out.cell rfl
          have fz := H5.out.frozen
          have gg : U5.grownBy (((U5.setCell ⟨g6, 0, none⟩ (.bool rs)).setCell ⟨g6, 1, none⟩ (.bool rgl)).setCell ⟨g6, 2, none⟩ (.slice a2 rn c2)) (some g6) := putr_grown U5 g6 0 rs rgl (.slice a2 rn c2)
          have S6 : Hid (Below w1.heap.size w1 (((U5.setCell ⟨g6, 0, none⟩ (.bool rs)).setCell ⟨g6, 1, none⟩ (.bool rgl)).setCell ⟨g6, 2, none⟩ (.slice a2 rn c2))) := below_putr (k := 0) S5.out Zg6.out rs rgl (.slice a2 rn c2)
          have O6 := Hid.mk' (O5.out.off H5.out (by decide) gg)
          have T6 := Hid.mk' (own_type T5.out H5.out (by decide) gg)
          have G6 := Hid.mk' (G5.out.grown gg (by simpa using blk_ne G5.out H5.out (by decide)))
          have H6 : Hid (Blk (((U5.setCell ⟨g6, 0, none⟩ (.bool rs)).setCell ⟨g6, 1, none⟩ (.bool rgl)).setCell ⟨g6, 2, none⟩ (.slice a2 rn c2)) g6 24 #[.bool rs, .bool rgl, .slice a2 rn c2]) := ((H5.out.set (j := 0) (.bool rs)).set (j := 1) (.bool rgl)).set (j := 2) (.slice a2 rn c2)
          go_simp
          clear gg s0 s1 s2 fz
          generalize (((U5.setCell ⟨g6, 0, none⟩ (.bool rs)).setCell ⟨g6, 1, none⟩ (.bool rgl)).setCell ⟨g6, 2, none⟩ (.slice a2 rn c2)) = U6 at *
          refine hK _ _ ⟨S6.out, ?_⟩
          clear hK K
          try simp only [Act.put, List.getElem_toArray, List.getElem_cons_zero, List.getElem_cons_succ, List.setIfInBounds_toArray, List.set_cons_zero, List.set_cons_succ]
          refine wpAnyH_done (by kernel_rfl) ?_ _
          go_wp2_with fail
          go_meet
          exact ⟨g5, g6, NN, a2, c2, rfl, rfl, ⟨S6.out, G6.out, H6.out, Zg5.out, Zg6.out, hNl, FN.out, O6.out, T6.out⟩⟩
      · skip
        go_simp
        have hb := bAlloc (Below.refl _ U1) (.cells (bk zb) 28)
        have S2 := Hid.mk' (bT S1.out hb)
        have H2 := Hid.mk' (H1.out.keep hb)
        have G2 : Hid (Blk (U1.alloc (.cells (bk zb) 28)) U1.heap.size 28 (bk zb)) := Blk.new _ _ _
        clear hb
        obtain ⟨g5, hg5⟩ : ∃ q, q = U1.heap.size := ⟨_, rfl⟩
        have Zg5 : Hid (w1.heap.size ≤ g5) := by have h1 := S1.out.size; unfold Hid; omega
        rw [← hg5] at G2 ⊢
        generalize U1.alloc (.cells (bk zb) 28) = U2 at *
        clear hg5
        refine hK _ _ ⟨S2.out, ?_⟩
        clear hK K
        try simp only [Act.put, List.getElem_toArray, List.getElem_cons_zero, List.getElem_cons_succ, List.setIfInBounds_toArray, List.set_cons_zero, List.set_cons_succ]
        refine wpAnyH_all (rs := [1]) (by kernel_rfl) (by simp) (AllH.cons rfl (fun K hK => ?_) AllH.nil)
        go_simp
        refine (all_any L P U2 (RW.out.keep S2.out)).mono ?_
        rintro e U3 ⟨NN, rfl, hN⟩
        have hNl := hN.len
        have FN := Hid.mk' hN.fl
        have hb := hN.own.bel
        have S3 := Hid.mk' (bT S2.out hb)
        have G3 := Hid.mk' (G2.out.keep hb)
        have H3 := Hid.mk' (H2.out.keep hb)
        have O3 := Hid.mk' (rwz_of (w1 := w1) hN.own S2.out.size)
        clear hN hb
        dsimp only
        refine hK _ _ ⟨S3.out, ?_⟩
        clear hK K
        try simp only [Act.put, List.getElem_toArray, List.getElem_cons_zero, List.getElem_cons_succ, List.setIfInBounds_toArray, List.set_cons_zero, List.set_cons_succ]
        refine wpAnyH_all (rs := [4]) (by kernel_rfl) (by simp) (AllH.cons rfl (fun K hK => ?_) AllH.nil)
        go_simp
        refine (copy_any rs rgl ra rn rc ct U3 (TW.out.keep S3.out) (by omega)).mono ?_
        rintro e U4 ⟨a2, c2, rfl, hO, hb⟩
        have S4 := Hid.mk' (bT S3.out hb)
        have O4 := Hid.mk' (O3.out.keep hb)
        have G4 := Hid.mk' (G3.out.keep hb)
        have H4 := Hid.mk' (H3.out.keep hb)
        have T4 : Hid (U4.ownsRow w1.heap.size 5 1 (.slice a2 rn c2) rn (bv ct)) := own_lower hO S3.out.size
        clear hO hb
        dsimp only
        refine hK _ _ ⟨S4.out, ?_⟩
        clear hK K
        try simp only [Act.put, List.getElem_toArray, List.getElem_cons_zero, List.getElem_cons_succ, List.setIfInBounds_toArray, List.set_cons_zero, List.set_cons_succ]
        refine wpAnyH_all (rs := [7]) (by kernel_rfl) (by simp) (AllH.cons rfl (fun K hK => ?_) AllH.nil)
        refine st28 rfl (.tmp 5) (.tmp 35) rfl rfl rfl hNl rfl G4.out ?_
        have gg := grown_put28 U4 g5 NN
        have S5 : Hid (Below w1.heap.size w1 (put28 U4 g5 NN)) := below_put28 S4.out Zg5.out NN
        have O5 := Hid.mk' (O4.out.off G4.out (by decide) gg)
        have T5 := Hid.mk' (own_type T4.out G4.out (by decide) gg)
        have H5 := Hid.mk' (H4.out.grown gg (by simpa using blk_ne H4.out G4.out (by decide)))
        have G5 := Hid.mk' (Blk.put28 hNl rfl G4.out)
        clear gg
        generalize put28 U4 g5 NN = U5 at *
        refine hK _ _ ⟨S5.out, ?_⟩
        clear hK K
        try simp only [Act.put, List.getElem_toArray, List.getElem_cons_zero, List.getElem_cons_succ, List.setIfInBounds_toArray, List.set_cons_zero, List.set_cons_succ]
        refine wpAnyH_all (rs := [8]) (by kernel_rfl) (by simp) (AllH.cons rfl (fun K hK => ?_) AllH.nil)
        have s0 : U5.cell? ⟨g6, 0, none⟩ = some (.bool false) := H5.out.cell rfl
        have s1 : U5.cell? ⟨g6, 1, none⟩ = some (.bool false) := H5.out.cell rfl
        have s2 : U5.cell? ⟨g6, 2, none⟩ = some (.slice none 0 0) := H5.out.cell rfl
        have fz := H5.out.frozen
        have gg : U5.grownBy (((U5.setCell ⟨g6, 0, none⟩ (.bool rs)).setCell ⟨g6, 1, none⟩ (.bool rgl)).setCell ⟨g6, 2, none⟩ (.slice a2 rn c2)) (some g6) := putr_grown U5 g6 0 rs rgl (.slice a2 rn c2)
        have S6 : Hid (Below w1.heap.size w1 (((U5.setCell ⟨g6, 0, none⟩ (.bool rs)).setCell ⟨g6, 1, none⟩ (.bool rgl)).setCell ⟨g6, 2, none⟩ (.slice a2 rn c2))) := below_putr (k := 0) S5.out Zg6.out rs rgl (.slice a2 rn c2)
        have O6 := Hid.mk' (O5.out.off H5.out (by decide) gg)
        have T6 := Hid.mk' (own_type T5.out H5.out (by decide) gg)
        have G6 := Hid.mk' (G5.out.grown gg (by simpa using blk_ne G5.out H5.out (by decide)))
        have H6 : Hid (Blk (((U5.setCell ⟨g6, 0, none⟩ (.bool rs)).setCell ⟨g6, 1, none⟩ (.bool rgl)).setCell ⟨g6, 2, none⟩ (.slice a2 rn c2)) g6 24 #[.bool rs, .bool rgl, .slice a2 rn c2]) := ((H5.out.set (j := 0) (.bool rs)).set (j := 1) (.bool rgl)).set (j := 2) (.slice a2 rn c2)
        go_simp
        clear gg s0 s1 s2 fz
        generalize (((U5.setCell ⟨g6, 0, none⟩ (.bool rs)).setCell ⟨g6, 1, none⟩ (.bool rgl)).setCell ⟨g6, 2, none⟩ (.slice a2 rn c2)) = U6 at *
        refine hK _ _ ⟨S6.out, ?_⟩
        clear hK K
        try simp only [Act.put, List.getElem_toArray, List.getElem_cons_zero, List.getElem_cons_succ, List.setIfInBounds_toArray, List.set_cons_zero, List.set_cons_succ]
        refine wpAnyH_done (by kernel_rfl) ?_ _
        go_wp2_with fail
        go_meet
        exact ⟨g5, g6, NN, a2, c2, rfl, rfl, ⟨S6.out, G6.out, H6.out, Zg5.out, Zg6.out, hNl, FN.out, O6.out, T6.out⟩⟩
  case rest =>
  obtain ⟨g5, g6, NN, a2, c2, rfl, rfl, R2⟩ := hcut
  have hNl := R2.out.len
  have BL := Hid.mk' R2.out.bel
  have OW := Hid.mk' (R2.out.bs0 HPs.out)
  have H6 := Hid.mk' R2.out.b6
  have Z6 := Hid.mk' R2.out.z6
  have TR := Hid.mk' (own_srv R2.out.row)
  obtain ⟨s2, hs2⟩ : ∃ s2, s2 = wc.heap.size := ⟨_, rfl⟩
  rw [← hs2] at OW
  have HS2 := Hid.mk' hs2
  clear hs2 R2
  obtain ⟨nr, hnr⟩ : ∃ nr, nr = rn + 2 := ⟨_, rfl⟩
  have HNR := Hid.mk' hnr
  clear hnr
  have t1 : (wc.alloc (.cells #[] 5)).cell? ⟨g6, 2, none⟩ = some (.slice a2 rn c2) := (H6.out.keep (bAlloc (Below.refl _ _) _)).cell rfl
  go_wp2_with (at_builtin; refine append_big rfl (.tmp 39) (.tmp 41) rfl wc.heap.size (.slice (some ⟨wc.heap.size, 0, none⟩) 0 0) 0 [] rfl (World.ownsRow_made wc #[] 0 (Nat.le_refl _) (Nat.zero_le _) rfl) (.slice a2 rn c2) rn (bv ct) rfl (TR.out.keep (bAlloc (Below.refl _ _) _)) (by rw [bv_length]; exact hlen.out) (bv_one _) (by omega) (by omega) (by simp) ?_)
  intro v1 wa hown hgrow _
  have OA : Hid (wa.ownsRow wc.heap.size 5 1 v1 rn (bv ct)) := by unfold Hid; simpa using hown
  have BA : Hid (Below wc.heap.size wc wa) := ((Below.refl _ wc).alloc (Nat.le_refl _) _).grown hgrow (by simp) (by intro k hk; simp [Value.ownBlock] at hk; omega)
  clear hown hgrow t1
  have O5 : Hid ((wa.alloc (.cells (bv [165, 166]).toArray 5)).ownsRow wc.heap.size 5 1 v1 rn (bv ct)) := own_keep OA.out (bAlloc (Below.refl _ _) _)
  have C5 : Hid (Srv (wa.alloc (.cells (bv [165, 166]).toArray 5)) (.slice (some ⟨wa.heap.size, 0, none⟩) 2 2) 2 (bv [165, 166])) := .inr ⟨_, 2, rfl, fun j u hj => lit_cells wa _ 5 j u hj⟩
  have Z5 : Hid (wc.heap.size ≤ (wa.alloc (.cells (bv [165, 166]).toArray 5)).heap.size) := by have := BA.out.size; unfold Hid; simp; omega
  go_wp2_with (at_builtin; refine append_big rfl (.tmp 42) (.tmp 43) rfl wc.heap.size v1 rn (bv ct) rfl O5.out (.slice (some ⟨wa.heap.size, 0, none⟩) 2 2) 2 (bv [165, 166]) rfl C5.out rfl (bv_one _) (by omega) (by omega) Z5.out ?_)
  intro v2 w4 hown hgrow _
  have O4 : Hid (w4.ownsRow wc.heap.size 5 1 v2 nr (bv (ct ++ [165, 166]))) := by
    have e : bv (ct ++ [165, 166]) = bv ct ++ bv [165, 166] := by simp [bv]
    unfold Hid; rw [e, HNR.out]; exact hown
  have S4 : Hid (Below wc.heap.size wc w4) := (bAlloc BA.out _).grown hgrow (by have := BA.out.size; simp; omega) (fun k hk => (OA.out.lt k hk).1)
  clear hown hgrow OA BA O5 C5 Z5 TR
  obtain ⟨gr, cr, e4, hcr, -⟩ := own_some O4.out (by have := HNR.out; omega)
  subst e4
  have s7 := so_h gr nr cr rn (z := (rn : Int)) (by have := HNR.out; omega) rfl
  have H64 := Hid.mk' (H6.out.keep S4.out)
  have K14 := Hid.mk' (K1.out.keep (bT BL.out S4.out))
  obtain ⟨f0, f1, f2, f3, f4⟩ := FC.out w4 K14.out
  have t1 : w4.cell? ⟨g6, 2, none⟩ = some (.slice a2 rn c2) := H64.out.cell rfl
  have fz := H64.out.frozen 2
  have gg : w4.grownBy (w4.setCell ⟨g6, 2, none⟩ (.slice (some ⟨gr, 0, none⟩) rn cr)) (some g6) := grown_set _ _ _ _
  have OW5 := Hid.mk' ((OW.out.keep S4.out).off H64.out (by decide) (by decide) gg)
  have B5 : Hid (Below w1.heap.size w1 (w4.setCell ⟨g6, 2, none⟩ (.slice (some ⟨gr, 0, none⟩) rn cr))) := (bT BL.out S4.out).setCell Z6.out _
  have H65 : Hid (Blk (w4.setCell ⟨g6, 2, none⟩ (.slice (some ⟨gr, 0, none⟩) rn cr)) g6 24 #[.bool rs, .bool rgl, .slice (some ⟨gr, 0, none⟩) rn cr]) := H64.out.set (j := 2) _
  have RM5 : Hid ((w4.setCell ⟨g6, 2, none⟩ (.slice (some ⟨gr, 0, none⟩) rn cr)).ownsRow wc.heap.size 5 1 (.slice (some ⟨gr, 0, none⟩) nr cr) nr (bv (ct ++ [165, 166]))) := own_type O4.out H64.out (by decide) gg
  have Z25 : Hid (wc.heap.size ≤ (w4.setCell ⟨g6, 2, none⟩ (.slice (some ⟨gr, 0, none⟩) rn cr)).heap.size) := Nat.le_trans S4.out.size gg.size
  clear gg O4 hcr H64 K14 BL OW H6 S4
  go_upto_region 8 with fail
  generalize w4.setCell ⟨g6, 2, none⟩ (.slice (some ⟨gr, 0, none⟩) rn cr) = w5 at *
  rw [← HS2.out] at RM5 Z25
  clear f0 f1 f2 f3 f4 t1 fz s7
  have IN5 : Hid (w5.ownsRow s2 5 1 (.slice (some ⟨gr, 0, none⟩) rn cr) rn (bv ct)) := pre_of (m := [165, 166]) (by rw [← HNR.out]; exact RM5.out) rfl
  obtain ⟨ia, ic, iv, iT⟩ := own_txl IN5.out (by omega)
  obtain ⟨ea, ec⟩ : some ⟨gr, 0, none⟩ = ia ∧ cr = ic := by simpa using iv
  subst ea ec
  have TI5 := Hid.mk' iT
  clear iv iT
  obtain ⟨s4, hs4⟩ : ∃ s4, s4 = w5.heap.size := ⟨_, rfl⟩
  have HS4 := Hid.mk' hs4
  have Z24 : Hid (s2 ≤ s4) := by unfold Hid; rw [hs4]; exact Z25.out
  have UP : Hid (gr < s4) := by unfold Hid; rw [hs4]; exact (IN5.out.lt gr rfl).2
  clear hs4 Z25
  have CP := Hid.mk' (put_any NN P x how rs rgl (some ⟨gr, 0, none⟩) rn cr ct w5 hx OW5.out.ws.rdb TI5.out)
  have CR := Hid.mk' (fun W (h : Below w1.heap.size w1 W) => rput_any L P x how rs rgl ra rn rc ct W hx (RW.out.keep h) (TW.out.keep h))
  have hsh : ∀ (k : Nat) (c : Ct), (putP P x how ⟨rs, rgl, ct⟩).1[k]? = some c → c.t.length ≤ 140737488351232 := putP_short hP HPs.out x how ⟨rs, rgl, ct⟩
  generalize putP P x how ⟨rs, rgl, ct⟩ = PP at CP CR hsh
  obtain ⟨P1, E⟩ := PP
  dsimp only at CP CR hsh
  have HSH := Hid.mk' hsh
  clear hsh
  obtain ⟨f0, f1, f2, f3, f4⟩ := FC.out w5 (K1.out.keep B5.out)
  have y0 : w5.cell? ⟨g6, 0, none⟩ = some (.bool rs) := H65.out.cell rfl
  have y1 : w5.cell? ⟨g6, 1, none⟩ = some (.bool rgl) := H65.out.cell rfl
  have y2 : w5.cell? ⟨g6, 2, none⟩ = some (.slice (some ⟨gr, 0, none⟩) rn cr) := H65.out.cell rfl
  have KO := Hid.mk' OW5.out.ws.box
  go_wp2_with (refine wl_load28 (.tmp 5) rfl rfl rfl hNl KO.out ?_)
  refine CP.out.mono ?_
  rintro e w6 ⟨N1, rfl, hN1⟩
  have hl1 := hN1.len
  have hBz := Hid.mk' (Blk.new w6 28 (bk zb))
  obtain ⟨hbx, hbb⟩ := boxed (w := w6) hl1
  have C7 := Hid.mk' (hN1.bs0 HSH.out)
  rw [← HS4.out] at C7
  have S7 : Hid (Below w5.heap.size w5 (put28 (w6.alloc (.cells (bk zb) 28)) w6.heap.size N1)) := bT hN1.own.bel hbb
  obtain ⟨g8, hg8⟩ : ∃ g8, g8 = w6.heap.size := ⟨_, rfl⟩
  clear hbx hbb hN1 CP f0 f1 f2 f3 f4 y0 y1 y2 KO
  dsimp only
  go_upto_region 9 with (refine wl_store28 (.tmp 8) (.tmp 60) rfl rfl rfl rfl hl1 rfl hBz.out ?_)
  generalize put28 (w6.alloc (.cells (bk zb) 28)) w6.heap.size N1 = w7 at *
  rw [← hg8] at C7 ⊢
  clear hg8 hBz
  have OW7 := Hid.mk' (OW5.out.keep S7.out)
  have B7 := Hid.mk' (bT B5.out S7.out)
  have H67 := Hid.mk' (H65.out.keep S7.out)
  have RM7 := Hid.mk' (own_keep RM5.out S7.out)
  have TI7 := Hid.mk' (TI5.out.keep S7.out)
  obtain ⟨s7, hs7⟩ : ∃ s7, s7 = w7.heap.size := ⟨_, rfl⟩
  rw [← hs7] at C7
  have HS7 := Hid.mk' hs7
  have Z47 : Hid (s4 ≤ s7) := by unfold Hid; rw [HS4.out, hs7]; exact S7.out.size
  clear hs7 OW5 B5 H65 RM5 TI5 S7 IN5
  have KO := Hid.mk' OW7.out.ws.box
  have KL := Hid.mk' (K0.out.keep B7.out)
  go_wp2_with (first | (refine wl_load28 (.tmp 5) rfl rfl rfl hNl KO.out ?_) | (refine wl_load28 (.tmp 2) rfl rfl rfl hL KL.out ?_))
  refine (sameBank_yes NN L P w7 OW7.out.ws.rdb (RW.out.keep B7.out)).mono ?_
  rintro e w8 ⟨rfl, hb8⟩
  have S8 := Hid.mk' hb8
  clear hb8 KO KL
  dsimp only
  have H68 := Hid.mk' (H67.out.keep S8.out)
  obtain ⟨f0, f1, f2, f3, f4⟩ := FC.out w8 (K1.out.keep (bT B7.out S8.out))
  have y0 : w8.cell? ⟨g6, 0, none⟩ = some (.bool rs) := H68.out.cell rfl
  have y1 : w8.cell? ⟨g6, 1, none⟩ = some (.bool rgl) := H68.out.cell rfl
  have y2 : w8.cell? ⟨g6, 2, none⟩ = some (.slice (some ⟨gr, 0, none⟩) rn cr) := H68.out.cell rfl
  go_wp2_with fail
  refine (same_yes rs rgl (some ⟨gr, 0, none⟩) ra rn rn cr rc ct w8 (TI7.out.keep S8.out) (TW.out.keep (bT B7.out S8.out))).mono ?_
  rintro e w9 ⟨rfl, hb9⟩
  have S9 := Hid.mk' (bT S8.out hb9)
  clear hb9 f0 f1 f2 f3 f4 y0 y1 y2 S8 H67 H68 TI7
  dsimp only
  have OW9 := Hid.mk' (OW7.out.keep S9.out)
  have B9 := Hid.mk' (bT B7.out S9.out)
  have RM9 := Hid.mk' (own_keep RM7.out S9.out)
  have C9 := Hid.mk' (C7.out.keep S9.out)
  obtain ⟨s9, hs9⟩ : ∃ s9, s9 = w9.heap.size := ⟨_, rfl⟩
  have HS9 := Hid.mk' hs9
  have Z79 : Hid (s7 ≤ s9) := by unfold Hid; rw [HS7.out, hs9]; exact S9.out.size
  clear hs9 OW7 B7 RM7 C7 S9
  have hR := RM9.out
  rw [HNR.out] at hR
  obtain ⟨r1, r2⟩ := mark_at hR
  obtain ⟨n1, hn1⟩ : ∃ n1, n1 = rn + 1 := ⟨_, rfl⟩
  rw [← hn1] at r2
  have r1' : w9.cell? ⟨gr, rn, none⟩ = some (.int .u8 165) := r1
  have r2' : w9.cell? ⟨gr, n1, none⟩ = some (.int .u8 166) := r2
  have hw5 : IntKind.i64.wrap ((rn : Int) + 1) = (n1 : Int) := by rw [IntKind.wrap_i64]; omega
  have i1 : (0 : Int) ≤ (rn : Int) := by omega
  have i2 : (rn : Int) < (nr : Int) := by have := HNR.out; omega
  have i3 : (0 : Int) ≤ (n1 : Int) := by omega
  have i4 : (n1 : Int) < (nr : Int) := by have := HNR.out; omega
  obtain ⟨f0, f1, f2, f3, f4⟩ := FC.out w9 (K1.out.keep B9.out)
  clear hR r1 r2 hn1
  go_upto_if 93 with fail
  clear r1' r2' hw5 i1 i2 i3 i4
  by_cases hE : E = 0
  case neg =>
    have hE1 : (E == 0) = false := by simpa using hE
    have hE2 : (E != 0) = true := by simpa using hE
    go_wp2
    go_ret
    exact ⟨rfl, bT BW.out B9.out⟩
  subst hE
  have KL := Hid.mk' (K0.out.keep B9.out)
  go_wp2_with (refine wl_load28 (.tmp 2) rfl rfl rfl hL KL.out ?_)
  refine (CR.out w9 B9.out).mono ?_
  rintro e w10 ⟨N2, rfl, hN2⟩
  have hl2 := hN2.len
  have hBz := Hid.mk' (Blk.new w10 28 (bk zb))
  obtain ⟨hbx, hbb⟩ := boxed (w := w10) hl2
  have V11 := Hid.mk' (hN2.ws HSH.out)
  rw [← HS9.out] at V11
  have S11 : Hid (Below w9.heap.size w9 (put28 (w10.alloc (.cells (bk zb) 28)) w10.heap.size N2)) := bT hN2.bel hbb
  obtain ⟨g10, hg10⟩ : ∃ g10, g10 = w10.heap.size := ⟨_, rfl⟩
  clear hbx hbb hN2 CR f0 f1 f2 f3 f4 KL
  dsimp only
  go_upto_region 14 with (refine wl_store28 (.tmp 10) (.tmp 105) rfl rfl rfl rfl hl2 rfl hBz.out ?_)
  generalize put28 (w10.alloc (.cells (bk zb) 28)) w10.heap.size N2 = w11 at *
  rw [← hg10] at V11 ⊢
  clear hg10 hBz
  have OW11 := Hid.mk' (OW9.out.keep S11.out)
  have B11 := Hid.mk' (bT B9.out S11.out)
  have RM11 := Hid.mk' (own_keep RM9.out S11.out)
  have C11 := Hid.mk' (C9.out.keep S11.out)
  obtain ⟨s11, hs11⟩ : ∃ s11, s11 = w11.heap.size := ⟨_, rfl⟩
  rw [← hs11] at V11
  have HS11 := Hid.mk' hs11
  have SZ : Hid (w1.heap.size ≤ s2 ∧ s2 ≤ s4 ∧ s4 ≤ s7 ∧ s7 ≤ s9 ∧ s9 ≤ s11) := ⟨by have := OW11.out.ws.gin; omega, Z24.out, Z47.out, Z79.out, by rw [HS9.out, hs11]; exact S11.out.size⟩
  clear hs11 OW9 B9 RM9 C9 S11 HS2 HS4 HS7 HS9 Z24 Z47 Z79
  go_wp2_with fail
  go_loopg [12] nr (fun m x12 wx => ∃ (j : Nat) (Y : List UInt8), x12 = .int .i64 (j : Int) ∧ j + m = nr ∧ Hid (wx.ownsRow s2 5 1 (.slice (some ⟨gr, 0, none⟩) nr cr) nr (bv Y)) ∧ Hid (Kept s2 s4 w11 wx))
  case atStart => exact ⟨0, _, rfl, by omega, RM11.out, Kept.refl _ _ _⟩
  case round =>
    clear RM11
    obtain ⟨j, Y, rfl, hjm, RI, KI⟩ := hrel
    obtain ⟨go, hgo⟩ : ∃ g, g = gk - 1 := ⟨_, rfl⟩
    by_cases hj : j < nr
    · have hj0 : (0 : Int) ≤ (j : Int) := by omega
      have hj1 : (j : Int) < (nr : Int) := by omega
      have hnrb : nr ≤ 5002 := by have := HNR.out; omega
      have hw4 : IntKind.i64.wrap ((j : Int) + 1) = ((j + 1 : Nat) : Int) := by rw [IntKind.wrap_i64]; omega
      obtain ⟨g1, e1, ⟨z3, t3⟩, f3⟩ := byte_at RI.out hj
      have e2 : gr = g1 := by simpa using e1
      subst e2
      obtain ⟨m1, m2⟩ := RI.out.stored j (.int .u8 17)
      have RN : Hid ((wr.setCell ⟨gr, j, none⟩ (.int .u8 17)).ownsRow s2 5 1 (.slice (some ⟨gr, 0, none⟩) nr cr) nr (bv (Y.set j 17))) := by unfold Hid; rw [← bv_set]; exact m1
      have KN : Hid (Kept s2 s4 w11 (wr.setCell ⟨gr, j, none⟩ (.int .u8 17))) := KI.out.grown m2 (fun k hk => by
        injection hk with hk
        subst hk
        exact ⟨(RI.out.lt gr rfl).1, .inl UP.out⟩)
      clear hj m1 m2 e1
      go_wp2
      go_roundg go
      case measure => omega
      case rel => exact ⟨j + 1, _, by go_num, by omega, RN.out, KN.out⟩
    · have hj1 : ¬ (j : Int) < (nr : Int) := by omega
      have OWa := Hid.mk' (OW11.out.kept KI.out (.inr (Nat.le_refl _)))
      have Ca := Hid.mk' (C11.out.kept KI.out (.inl (Nat.le_refl _)))
      have Va := Hid.mk' (V11.out.kept KI.out (.inl (by have := SZ.out; omega)))
      have Ba : Hid (Below w1.heap.size w1 wr) := Kept.on B11.out KI.out (by have := SZ.out; omega)
      have Za : Hid (s11 ≤ wr.heap.size) := by unfold Hid; rw [HS11.out]; exact KI.out.size
      clear hgo hjm hj OW11 C11 V11 B11 RI KI HS11
      rename World => w12
      go_wp2_with fail
      refine (names_any w12).mono ?_
      rintro e w2b ⟨rfl, hw⟩
      have hq := hw.symm
      subst hq
      clear hw hj1
      have HNS : Hid (∀ i : Nat, i < 36 → ∀ W, (Instr.index 9 (.string ⟨nmL.toArray⟩) (.int .i64 (i : Int))).run Try.prog W = .ok (.int .u8 ((at8 nmL i).toNat : Int)) W) := fun i hi W => nm_at hi W
      have hsz : (⟨nmL.toArray⟩ : ByteArray).size = 36 := rfl
      generalize hNSe : (⟨nmL.toArray⟩ : ByteArray) = NS at *
      clear hNSe
      go_wp2_with fail
      go_loopg [14, 15, 16] 36 (fun m x14 x15 x16 wx => ∃ i : Nat, x14 = .int .i64 (i : Int) ∧ i + m = 36 ∧ Hid (Below w12.heap.size w12 wx))
      case atStart => exact ⟨0, rfl, rfl, Below.refl _ _⟩
      case round =>
        obtain ⟨i, rfl, him, KB⟩ := hrel
        obtain ⟨go, hgo⟩ : ∃ g, g = gk - 1 := ⟨_, rfl⟩
        by_cases hi : i < 36
        · have hi' : (i : Int) < 36 := by omega
          have hi0 : (0 : Int) ≤ (i : Int) := by omega
          have hw4 : IntKind.i64.wrap ((i : Int) + 1) = ((i + 1 : Nat) : Int) := by rw [IntKind.wrap_i64]; omega
          have hNi := HNS.out i hi
          have hY8 := (at8 nmL i).toNat_lt
          obtain ⟨Y, hY⟩ : ∃ Y, Y = (at8 nmL i).toNat := ⟨_, rfl⟩
          rw [← hY] at hNi hY8
          clear hY
          have KO := Hid.mk' OWa.out.ws.box
          have GA := Hid.mk' (fun W (h : Below w12.heap.size w12 W) => get_any NN P Y W hY8 (OWa.out.ws.rdb.keep h))
          have hgl := getP_le OWa.out.ws.rdb Y
          unfold gE at GA
          generalize getP P Y = GP at GA hgl
          obtain ⟨⟨gs, gl, gt⟩, gE1⟩ := GP
          dsimp only at GA hgl
          go_upto_region 22 with fail
          go_cut [15, 16] from 123 to 130 (fun x15 x16 wx => x16 = .int .i64 gE1 ∧ ∃ qa ga gn gc, x15 = .pointer (some ⟨qa, 0, none⟩) ∧ Hid (Blk wx qa 24 #[.bool gs, .bool gl, .slice ga gn gc]) ∧ Hid (wx.ownsRow w12.heap.size 5 1 (.slice ga gn gc) gn (bv gt)) ∧ Hid (Below w12.heap.size w12 wx) ∧ Hid (gn = gt.length))
          case first =>
            have S0 : Hid (Below w12.heap.size w12 wr.drew) := KB.out.drew
            refine wp_region_held (S := fun w' => Below w12.heap.size w12 w') (by kernel_rfl) ?_
            change wpAnyH _ _ _ _ _ _ _ _ (World.drew _)
            generalize wr.drew = U0 at *
            refine wpAnyH_take (i := 0) (v := .agg (bk NN)) rfl (by kernel_rfl) (by kernel_rfl) (by kernel_rfl) (fun _ _ _ h => h) (yi28 rfl (.tmp 5) rfl rfl hNl (fun _ h => KO.out.keep h)) S0.out ?_
            try simp only [Act.put, List.getElem_toArray, List.getElem_cons_zero, List.getElem_cons_succ, List.setIfInBounds_toArray, List.set_cons_zero, List.set_cons_succ]
            refine wpAnyH_take (i := 1) (v := .string NS) rfl (by kernel_rfl) (by kernel_rfl) (by kernel_rfl) (fun _ _ _ h => h) (Yields.yieldsIf (Or.inl ⟨by rfl, fun w => by go_simp⟩)) S0.out ?_
            try simp only [Act.put, List.getElem_toArray, List.getElem_cons_zero, List.getElem_cons_succ, List.setIfInBounds_toArray, List.set_cons_zero, List.set_cons_succ]
            refine wpAnyH_take (i := 2) (v := .int .i64 (i : Int)) rfl (by kernel_rfl) (by kernel_rfl) (by kernel_rfl) (fun _ _ _ h => h) (Yields.yieldsIf (Or.inl ⟨by rfl, fun w => by go_simp⟩)) S0.out ?_
            try simp only [Act.put, List.getElem_toArray, List.getElem_cons_zero, List.getElem_cons_succ, List.setIfInBounds_toArray, List.set_cons_zero, List.set_cons_succ]
            refine wpAnyH_take (i := 3) (v := .int .u8 (Y : Int)) rfl (by kernel_rfl) (by kernel_rfl) (by kernel_rfl) (fun _ _ _ h => h) (Yields.yieldsIf (Or.inl ⟨by rfl, fun w9 => by have h9 := hNi w9; go_simp⟩)) S0.out ?_
            try simp only [Act.put, List.getElem_toArray, List.getElem_cons_zero, List.getElem_cons_succ, List.setIfInBounds_toArray, List.set_cons_zero, List.set_cons_succ]
            refine wpAnyH_all (rs := [4, 8]) (by kernel_rfl) (by simp) (AllH.cons rfl (fun K hK => ?_) (AllH.cons rfl (fun K hK => ?_) AllH.nil))
            · skip
              go_simp
              refine (GA.out U0 S0.out).mono ?_
              rintro e U1 ⟨ga, gc, gn, hgn, rfl, hgO, hgb⟩
              have S1 := Hid.mk' (bT S0.out hgb)
              have T1 : Hid (U1.ownsRow w12.heap.size 5 1 (.slice ga gn gc) gn (bv gt)) := own_lower hgO S0.out.size
              have GN := Hid.mk' hgn
              clear hgn hgO hgb
              dsimp only
              refine hK _ _ ⟨S1.out, ?_⟩
              clear hK K
              try simp only [Act.put, List.getElem_toArray, List.getElem_cons_zero, List.getElem_cons_succ, List.setIfInBounds_toArray, List.set_cons_zero, List.set_cons_succ]
              refine wpAnyH_take (i := 5) (v := .tuple #[.agg #[.bool gs, .bool gl, .slice ga gn gc], .int .i64 gE1]) rfl (by kernel_rfl) (by kernel_rfl) (by kernel_rfl) (fun _ _ _ h => h) (Yields.yieldsIf (Or.inl ⟨by rfl, fun w => by go_simp⟩)) S1.out ?_
              try simp only [Act.put, List.getElem_toArray, List.getElem_cons_zero, List.getElem_cons_succ, List.setIfInBounds_toArray, List.set_cons_zero, List.set_cons_succ]
              refine wpAnyH_take (i := 6) (v := .agg #[.bool gs, .bool gl, .slice ga gn gc]) rfl (by kernel_rfl) (by kernel_rfl) (by kernel_rfl) (fun _ _ _ h => h) (Yields.yieldsIf (Or.inl ⟨by rfl, fun w => by go_simp⟩)) S1.out ?_
              try simp only [Act.put, List.getElem_toArray, List.getElem_cons_zero, List.getElem_cons_succ, List.setIfInBounds_toArray, List.set_cons_zero, List.set_cons_succ]
              refine wpAnyH_take (i := 7) (v := .int .i64 gE1) rfl (by kernel_rfl) (by kernel_rfl) (by kernel_rfl) (fun _ _ _ h => h) (Yields.yieldsIf (Or.inl ⟨by rfl, fun w => by go_simp⟩)) S1.out ?_
              try simp only [Act.put, List.getElem_toArray, List.getElem_cons_zero, List.getElem_cons_succ, List.setIfInBounds_toArray, List.set_cons_zero, List.set_cons_succ]
              refine wpAnyH_all (rs := [8]) (by kernel_rfl) (by simp) (AllH.cons rfl (fun K hK => ?_) AllH.nil)
              go_simp
              have hb := bAlloc (Below.refl _ U1) (.cells #[.bool false, .bool false, .slice none 0 0] 24)
              have S2 := Hid.mk' (bT S1.out hb)
              have T2 := Hid.mk' (own_keep T1.out hb)
              have H2 : Hid (Blk (U1.alloc (.cells #[.bool false, .bool false, .slice none 0 0] 24)) U1.heap.size 24 #[.bool false, .bool false, .slice none 0 0]) := Blk.new _ _ _
              clear hb
              obtain ⟨qa, hqa⟩ : ∃ q, q = U1.heap.size := ⟨_, rfl⟩
              have Zqa : Hid (w12.heap.size ≤ qa) := by have h1 := S1.out.size; unfold Hid; omega
              rw [← hqa] at H2 ⊢
              generalize U1.alloc (.cells #[.bool false, .bool false, .slice none 0 0] 24) = U2 at *
              clear hqa
              refine hK _ _ ⟨S2.out, ?_⟩
              clear hK K
              try simp only [Act.put, List.getElem_toArray, List.getElem_cons_zero, List.getElem_cons_succ, List.setIfInBounds_toArray, List.set_cons_zero, List.set_cons_succ]
              refine wpAnyH_all (rs := [9]) (by kernel_rfl) (by simp) (AllH.cons rfl (fun K hK => ?_) AllH.nil)
              have s0 : U2.cell? ⟨qa, 0, none⟩ = some (.bool false) := H2.out.cell rfl
              have s1 : U2.cell? ⟨qa, 1, none⟩ = some (.bool false) := H2.out.cell rfl
              have s2' : U2.cell? ⟨qa, 2, none⟩ = some (.slice none 0 0) := H2.out.cell rfl
              have fz := H2.out.frozen
              have gg : U2.grownBy (((U2.setCell ⟨qa, 0, none⟩ (.bool gs)).setCell ⟨qa, 1, none⟩ (.bool gl)).setCell ⟨qa, 2, none⟩ (.slice ga gn gc)) (some qa) := putr_grown U2 qa 0 gs gl (.slice ga gn gc)
              have S3 : Hid (Below w12.heap.size w12 (((U2.setCell ⟨qa, 0, none⟩ (.bool gs)).setCell ⟨qa, 1, none⟩ (.bool gl)).setCell ⟨qa, 2, none⟩ (.slice ga gn gc))) := below_putr (k := 0) S2.out Zqa.out gs gl (.slice ga gn gc)
              have T3 := Hid.mk' (own_type T2.out H2.out (by decide) gg)
              have H3 : Hid (Blk (((U2.setCell ⟨qa, 0, none⟩ (.bool gs)).setCell ⟨qa, 1, none⟩ (.bool gl)).setCell ⟨qa, 2, none⟩ (.slice ga gn gc)) qa 24 #[.bool gs, .bool gl, .slice ga gn gc]) := ((H2.out.set (j := 0) (.bool gs)).set (j := 1) (.bool gl)).set (j := 2) (.slice ga gn gc)
              go_simp
              clear gg s0 s1 s2' fz
              generalize (((U2.setCell ⟨qa, 0, none⟩ (.bool gs)).setCell ⟨qa, 1, none⟩ (.bool gl)).setCell ⟨qa, 2, none⟩ (.slice ga gn gc)) = U3 at *
              refine hK _ _ ⟨S3.out, ?_⟩
              clear hK K
              try simp only [Act.put, List.getElem_toArray, List.getElem_cons_zero, List.getElem_cons_succ, List.setIfInBounds_toArray, List.set_cons_zero, List.set_cons_succ]
              refine wpAnyH_take (i := 10) (v := .int .i64 gE1) rfl (by kernel_rfl) (by kernel_rfl) (by kernel_rfl) (fun _ _ _ h => h) (Yields.yieldsIf (Or.inl ⟨by rfl, fun w => by go_simp⟩)) S3.out ?_
              try simp only [Act.put, List.getElem_toArray, List.getElem_cons_zero, List.getElem_cons_succ, List.setIfInBounds_toArray, List.set_cons_zero, List.set_cons_succ]
              refine wpAnyH_done (by kernel_rfl) ?_ _
              go_wp2_with fail
              go_meet
              exact ⟨rfl, qa, ga, gn, gc, rfl, H3.out, T3.out, S3.out, GN.out⟩
            · skip
              go_simp
              have hb := bAlloc (Below.refl _ U0) (.cells #[.bool false, .bool false, .slice none 0 0] 24)
              have S1 := Hid.mk' (bT S0.out hb)
              have H1 : Hid (Blk (U0.alloc (.cells #[.bool false, .bool false, .slice none 0 0] 24)) U0.heap.size 24 #[.bool false, .bool false, .slice none 0 0]) := Blk.new _ _ _
              clear hb
              obtain ⟨qa, hqa⟩ : ∃ q, q = U0.heap.size := ⟨_, rfl⟩
              have Zqa : Hid (w12.heap.size ≤ qa) := by have h1 := S0.out.size; unfold Hid; omega
              rw [← hqa] at H1 ⊢
              generalize U0.alloc (.cells #[.bool false, .bool false, .slice none 0 0] 24) = U1 at *
              clear hqa
              refine hK _ _ ⟨S1.out, ?_⟩
              clear hK K
              try simp only [Act.put, List.getElem_toArray, List.getElem_cons_zero, List.getElem_cons_succ, List.setIfInBounds_toArray, List.set_cons_zero, List.set_cons_succ]
              refine wpAnyH_all (rs := [4]) (by kernel_rfl) (by simp) (AllH.cons rfl (fun K hK => ?_) AllH.nil)
              go_simp
              refine (GA.out U1 S1.out).mono ?_
              rintro e U2 ⟨ga, gc, gn, hgn, rfl, hgO, hgb⟩
              have S2 := Hid.mk' (bT S1.out hgb)
              have H2 := Hid.mk' (H1.out.keep hgb)
              have T2 : Hid (U2.ownsRow w12.heap.size 5 1 (.slice ga gn gc) gn (bv gt)) := own_lower hgO S1.out.size
              have GN := Hid.mk' hgn
              clear hgn hgO hgb
              dsimp only
              refine hK _ _ ⟨S2.out, ?_⟩
              clear hK K
              try simp only [Act.put, List.getElem_toArray, List.getElem_cons_zero, List.getElem_cons_succ, List.setIfInBounds_toArray, List.set_cons_zero, List.set_cons_succ]
              refine wpAnyH_take (i := 5) (v := .tuple #[.agg #[.bool gs, .bool gl, .slice ga gn gc], .int .i64 gE1]) rfl (by kernel_rfl) (by kernel_rfl) (by kernel_rfl) (fun _ _ _ h => h) (Yields.yieldsIf (Or.inl ⟨by rfl, fun w => by go_simp⟩)) S2.out ?_
              try simp only [Act.put, List.getElem_toArray, List.getElem_cons_zero, List.getElem_cons_succ, List.setIfInBounds_toArray, List.set_cons_zero, List.set_cons_succ]
              refine wpAnyH_take (i := 6) (v := .agg #[.bool gs, .bool gl, .slice ga gn gc]) rfl (by kernel_rfl) (by kernel_rfl) (by kernel_rfl) (fun _ _ _ h => h) (Yields.yieldsIf (Or.inl ⟨by rfl, fun w => by go_simp⟩)) S2.out ?_
              try simp only [Act.put, List.getElem_toArray, List.getElem_cons_zero, List.getElem_cons_succ, List.setIfInBounds_toArray, List.set_cons_zero, List.set_cons_succ]
              refine wpAnyH_take (i := 7) (v := .int .i64 gE1) rfl (by kernel_rfl) (by kernel_rfl) (by kernel_rfl) (fun _ _ _ h => h) (Yields.yieldsIf (Or.inl ⟨by rfl, fun w => by go_simp⟩)) S2.out ?_
              try simp only [Act.put, List.getElem_toArray, List.getElem_cons_zero, List.getElem_cons_succ, List.setIfInBounds_toArray, List.set_cons_zero, List.set_cons_succ]
              refine wpAnyH_all (rs := [9]) (by kernel_rfl) (by simp) (AllH.cons rfl (fun K hK => ?_) AllH.nil)
              have s0 : U2.cell? ⟨qa, 0, none⟩ = some (.bool false) := H2.out.cell rfl
              have s1 : U2.cell? ⟨qa, 1, none⟩ = some (.bool false) := H2.out.cell rfl
              have s2' : U2.cell? ⟨qa, 2, none⟩ = some (.slice none 0 0) := H2.out.cell rfl
              have fz := H2.out.frozen
              have gg : U2.grownBy (((U2.setCell ⟨qa, 0, none⟩ (.bool gs)).setCell ⟨qa, 1, none⟩ (.bool gl)).setCell ⟨qa, 2, none⟩ (.slice ga gn gc)) (some qa) := putr_grown U2 qa 0 gs gl (.slice ga gn gc)
              have S3 : Hid (Below w12.heap.size w12 (((U2.setCell ⟨qa, 0, none⟩ (.bool gs)).setCell ⟨qa, 1, none⟩ (.bool gl)).setCell ⟨qa, 2, none⟩ (.slice ga gn gc))) := below_putr (k := 0) S2.out Zqa.out gs gl (.slice ga gn gc)
              have T3 := Hid.mk' (own_type T2.out H2.out (by decide) gg)
              have H3 : Hid (Blk (((U2.setCell ⟨qa, 0, none⟩ (.bool gs)).setCell ⟨qa, 1, none⟩ (.bool gl)).setCell ⟨qa, 2, none⟩ (.slice ga gn gc)) qa 24 #[.bool gs, .bool gl, .slice ga gn gc]) := ((H2.out.set (j := 0) (.bool gs)).set (j := 1) (.bool gl)).set (j := 2) (.slice ga gn gc)
              go_simp
              clear gg s0 s1 s2' fz
              generalize (((U2.setCell ⟨qa, 0, none⟩ (.bool gs)).setCell ⟨qa, 1, none⟩ (.bool gl)).setCell ⟨qa, 2, none⟩ (.slice ga gn gc)) = U3 at *
              refine hK _ _ ⟨S3.out, ?_⟩
              clear hK K
              try simp only [Act.put, List.getElem_toArray, List.getElem_cons_zero, List.getElem_cons_succ, List.setIfInBounds_toArray, List.set_cons_zero, List.set_cons_succ]
              refine wpAnyH_take (i := 10) (v := .int .i64 gE1) rfl (by kernel_rfl) (by kernel_rfl) (by kernel_rfl) (fun _ _ _ h => h) (Yields.yieldsIf (Or.inl ⟨by rfl, fun w => by go_simp⟩)) S3.out ?_
              try simp only [Act.put, List.getElem_toArray, List.getElem_cons_zero, List.getElem_cons_succ, List.setIfInBounds_toArray, List.set_cons_zero, List.set_cons_succ]
              refine wpAnyH_done (by kernel_rfl) ?_ _
              go_wp2_with fail
              go_meet
              exact ⟨rfl, qa, ga, gn, gc, rfl, H3.out, T3.out, S3.out, GN.out⟩
          case rest =>
          obtain ⟨rfl, qa, ga, gn, gc, rfl, XA, TA, KC, GN⟩ := hcut
          have y0 : wc.cell? ⟨qa, 0, none⟩ = some (.bool gs) := XA.out.cell rfl
          have y1 : wc.cell? ⟨qa, 1, none⟩ = some (.bool gl) := XA.out.cell rfl
          have y2 : wc.cell? ⟨qa, 2, none⟩ = some (.slice ga gn gc) := XA.out.cell rfl
          go_wp2_with fail
          refine (marked_z 33 33 rfl w12.heap.size gs gl ga gn gc gt wc TA.out KC.out.size (by have := GN.out; omega)).mono ?_
          rintro e wz ⟨a9, c9, t9, rfl, ho, hg, hf⟩
          have KD : Hid (Below w12.heap.size w12 wz) := KC.out.grown hg KC.out.size (fun k hk => (TA.out.lt k hk).1)
          clear ho hg hf XA TA KC GN y0 y1 y2 KB GA KO hgl
          dsimp only
          go_wp2
          go_roundg go
          case measure => omega
          case rel => exact ⟨i + 1, by go_num, by omega, KD.out⟩
        · have hi' : ¬ (i : Int) < 36 := by omega
          have OWb := Hid.mk' (OWa.out.keep KB.out)
          have Cb := Hid.mk' (Ca.out.keep KB.out)
          have Vb := Hid.mk' (Va.out.keep KB.out)
          have Bb := Hid.mk' (bT Ba.out KB.out)
          have Zb : Hid (s11 ≤ wr.heap.size) := Nat.le_trans Za.out KB.out.size
          clear hgo him hi OWa Ca Va Ba Za KB HNS
          rename World => w13
          have OB0 := Hid.mk' OWb.out.bst
          clear OWb
          obtain ⟨q, hq⟩ : ∃ q, NN[0]? = some q := ⟨_, List.getElem?_eq_getElem (by have := OB0.out.len; omega)⟩
          obtain ⟨d, hd⟩ : ∃ d, P[0]? = some d := ⟨_, List.getElem?_eq_getElem (by have := OB0.out.qlen; omega)⟩
          obtain ⟨p0, p1, p2⟩ := OB0.out.box.rg hq
          have hrow := Hid.mk' (OB0.out.row hq hd)
          have hsh := OB0.out.short hq hd
          have HQ := Hid.mk' hq
          have HDd := Hid.mk' hd
          obtain ⟨qs, ql, qa, qn, qc⟩ := q
          obtain ⟨ds, dl, dt⟩ := d
          dsimp only at p0 p1 p2 hrow hsh
          simp only [show 3 * 0 = 0 from rfl, show 0 + 1 = 1 from rfl, show 0 + 2 = 2 from rfl] at p0 p1 p2
          clear hq hd
          go_wp2_with fail
          refine (marked_z 49 49 rfl w1.heap.size qs ql qa qn qc dt w13 hrow.out OB0.out.own.sz (by omega)).mono ?_
          rintro e wz ⟨a9, c9, t9, rfl, ho, hg, hf⟩
          have b1 := OB0.out.box.grown hg (blk_type hrow.out OB0.out.box (by decide)).symm
          have hNB := OB0.out.mark HQ.out HDd.out ho hg hf
          obtain ⟨p3, p4, p5⟩ := b1.rg HQ.out
          have fz := b1.frozen
          unfold putr at hNB
          dsimp only at p3 p4 p5 hNB
          simp only [show 3 * 0 = 0 from rfl, show 0 + 1 = 1 from rfl, show 0 + 2 = 2 from rfl] at p3 p4 p5 hNB
          have NB := Hid.mk' hNB
          clear hNB ho hg hf b1 p0 p1 p2 hrow hsh
          dsimp only
          go_upto_region 25 with fail
          clear p3 p4 p5 fz HQ HDd OB0
          generalize ((wz.setCell ⟨g5, 0, none⟩ (.bool qs)).setCell ⟨g5, 1, none⟩ (.bool ql)).setCell ⟨g5, 2, none⟩ (.slice a9 (qn + 40) c9) = wx1 at *
          generalize NN.set 0 ⟨qs, ql, a9, qn + 40, c9⟩ = M1 at *
          generalize P.set 0 ⟨ds, dl, t9⟩ = Q1 at *
          have OB1 := Hid.mk' NB.out
          clear NB
          obtain ⟨q, hq⟩ : ∃ q, M1[1]? = some q := ⟨_, List.getElem?_eq_getElem (by have := OB1.out.len; omega)⟩
          obtain ⟨d, hd⟩ : ∃ d, Q1[1]? = some d := ⟨_, List.getElem?_eq_getElem (by have := OB1.out.qlen; omega)⟩
          obtain ⟨p0, p1, p2⟩ := OB1.out.box.rg hq
          have hrow := Hid.mk' (OB1.out.row hq hd)
          have hsh := OB1.out.short hq hd
          have HQ := Hid.mk' hq
          have HDd := Hid.mk' hd
          obtain ⟨qs, ql, qa, qn, qc⟩ := q
          obtain ⟨ds, dl, dt⟩ := d
          dsimp only at p0 p1 p2 hrow hsh
          simp only [show 3 * 1 = 3 from rfl, show 3 + 1 = 4 from rfl, show 3 + 2 = 5 from rfl] at p0 p1 p2
          clear hq hd
          go_wp2_with fail
          refine (marked_z 65 65 rfl w1.heap.size qs ql qa qn qc dt wx1 hrow.out OB1.out.own.sz (by omega)).mono ?_
          rintro e wz ⟨a9, c9, t9, rfl, ho, hg, hf⟩
          have b1 := OB1.out.box.grown hg (blk_type hrow.out OB1.out.box (by decide)).symm
          have hNB := OB1.out.mark HQ.out HDd.out ho hg hf
          obtain ⟨p3, p4, p5⟩ := b1.rg HQ.out
          have fz := b1.frozen
          unfold putr at hNB
          dsimp only at p3 p4 p5 hNB
          simp only [show 3 * 1 = 3 from rfl, show 3 + 1 = 4 from rfl, show 3 + 2 = 5 from rfl] at p3 p4 p5 hNB
          have NB := Hid.mk' hNB
          clear hNB ho hg hf b1 p0 p1 p2 hrow hsh
          dsimp only
          go_upto_region 26 with fail
          clear p3 p4 p5 fz HQ HDd OB1
          generalize ((wz.setCell ⟨g5, 3, none⟩ (.bool qs)).setCell ⟨g5, 4, none⟩ (.bool ql)).setCell ⟨g5, 5, none⟩ (.slice a9 (qn + 40) c9) = wx2 at *
          generalize M1.set 1 ⟨qs, ql, a9, qn + 40, c9⟩ = M2 at *
          generalize Q1.set 1 ⟨ds, dl, t9⟩ = Q2 at *
          have OB2 := Hid.mk' NB.out
          clear NB
          go_wp2_with fail
          go_loopg [17] 9 (fun m x17 wx => ∃ (i : Nat) (M : List Rg) (Q : List Ct), x17 = .int .i64 (i : Int) ∧ i + m = 9 ∧ Hid (Bst w1.heap.size s2 (80 + 40 * i) w13 wx g5 M Q))
          case atStart => exact ⟨0, M2, Q2, rfl, rfl, OB2.out⟩
          case round =>
            clear OB2
            obtain ⟨i, M, Q, rfl, him, OI⟩ := hrel
            obtain ⟨go, hgo⟩ : ∃ g, g = gk - 1 := ⟨_, rfl⟩
            by_cases hi : i < 9
            · have hi' : (i : Int) < 9 := by omega
              have hi0 : (0 : Int) ≤ (i : Int) := by omega
              have hw4 : IntKind.i64.wrap ((i : Int) + 1) = ((i + 1 : Nat) : Int) := by rw [IntKind.wrap_i64]; omega
              have hbig : 3 * (2 + i) = 6 + i * 3 := by omega
              obtain ⟨q, hq⟩ : ∃ q, M[(2 + i)]? = some q := ⟨_, List.getElem?_eq_getElem (by have := OI.out.len; omega)⟩
              obtain ⟨d, hd⟩ : ∃ d, Q[(2 + i)]? = some d := ⟨_, List.getElem?_eq_getElem (by have := OI.out.qlen; omega)⟩
              obtain ⟨p0, p1, p2⟩ := OI.out.box.rg hq
              have hrow := Hid.mk' (OI.out.row hq hd)
              have hsh := OI.out.short hq hd
              have HQ := Hid.mk' hq
              have HDd := Hid.mk' hd
              obtain ⟨qs, ql, qa, qn, qc⟩ := q
              obtain ⟨ds, dl, dt⟩ := d
              dsimp only at p0 p1 p2 hrow hsh
              rw [hbig] at p0 p1 p2
              clear hq hd
              go_wp2_with fail
              refine (marked_z 81 81 rfl w1.heap.size qs ql qa qn qc dt wr hrow.out OI.out.own.sz (by omega)).mono ?_
              rintro e wz ⟨a9, c9, t9, rfl, ho, hg, hf⟩
              have b1 := OI.out.box.grown hg (blk_type hrow.out OI.out.box (by decide)).symm
              have hNB := OI.out.mark HQ.out HDd.out ho hg hf
              obtain ⟨p3, p4, p5⟩ := b1.rg HQ.out
              have fz := b1.frozen
              unfold putr at hNB
              dsimp only at p3 p4 p5 hNB
              rw [hbig] at p3 p4 p5 hNB
              have NB := Hid.mk' hNB
              clear hNB ho hg hf b1 p0 p1 p2 hrow hsh
              dsimp only
              clear hbig
              go_wp2
              go_roundg go
              case measure => omega
              case rel => exact ⟨i + 1, _, _, by go_num, by omega, NB.out⟩
            · have hi' : ¬ (i : Int) < 9 := by omega
              obtain ⟨hie, -⟩ : i = 9 ∧ True := ⟨by omega, trivial⟩
              have OB3 : Hid (Bst w1.heap.size s2 440 w13 wr g5 M Q) := by have := OI.out; rw [hie] at this; exact this
              clear OI hgo him hi hie
              rename World => wx3
              go_wp2_with fail
              go_loopg [18] 26 (fun m x18 wx => ∃ (i : Nat) (M : List Rg) (Q : List Ct), x18 = .int .i64 (i : Int) ∧ i + m = 26 ∧ Hid (Bst w1.heap.size s2 (440 + 40 * i) w13 wx g5 M Q))
              case atStart => exact ⟨0, M, Q, rfl, rfl, OB3.out⟩
              case round =>
                clear OB3
                obtain ⟨i, M, Q, rfl, him, OI⟩ := hrel
                obtain ⟨go, hgo⟩ : ∃ g, g = gk - 1 := ⟨_, rfl⟩
                by_cases hi : i < 26
                · have hi' : (i : Int) < 26 := by omega
                  have hi0 : (0 : Int) ≤ (i : Int) := by omega
                  have hw4 : IntKind.i64.wrap ((i : Int) + 1) = ((i + 1 : Nat) : Int) := by rw [IntKind.wrap_i64]; omega
                  have hbig : 3 * (11 + i) = 33 + i * 3 := by omega
                  obtain ⟨q, hq⟩ : ∃ q, M[(11 + i)]? = some q := ⟨_, List.getElem?_eq_getElem (by have := OI.out.len; omega)⟩
                  obtain ⟨d, hd⟩ : ∃ d, Q[(11 + i)]? = some d := ⟨_, List.getElem?_eq_getElem (by have := OI.out.qlen; omega)⟩
                  obtain ⟨p0, p1, p2⟩ := OI.out.box.rg hq
                  have hrow := Hid.mk' (OI.out.row hq hd)
                  have hsh := OI.out.short hq hd
                  have HQ := Hid.mk' hq
                  have HDd := Hid.mk' hd
                  obtain ⟨qs, ql, qa, qn, qc⟩ := q
                  obtain ⟨ds, dl, dt⟩ := d
                  dsimp only at p0 p1 p2 hrow hsh
                  rw [hbig] at p0 p1 p2
                  clear hq hd
                  go_wp2_with fail
                  refine (marked_z 97 97 rfl w1.heap.size qs ql qa qn qc dt wr hrow.out OI.out.own.sz (by omega)).mono ?_
                  rintro e wz ⟨a9, c9, t9, rfl, ho, hg, hf⟩
                  have b1 := OI.out.box.grown hg (blk_type hrow.out OI.out.box (by decide)).symm
                  have hNB := OI.out.mark HQ.out HDd.out ho hg hf
                  obtain ⟨p3, p4, p5⟩ := b1.rg HQ.out
                  have fz := b1.frozen
                  unfold putr at hNB
                  dsimp only at p3 p4 p5 hNB
                  rw [hbig] at p3 p4 p5 hNB
                  have NB := Hid.mk' hNB
                  clear hNB ho hg hf b1 p0 p1 p2 hrow hsh
                  dsimp only
                  clear hbig
                  go_wp2
                  go_roundg go
                  case measure => omega
                  case rel => exact ⟨i + 1, _, _, by go_num, by omega, NB.out⟩
                · have hi' : ¬ (i : Int) < 26 := by omega
                  obtain ⟨hie, -⟩ : i = 26 ∧ True := ⟨by omega, trivial⟩
                  have KF := Hid.mk' OI.out.kept
                  have Cc := Hid.mk' (Cb.out.kept KF.out (.inl (by have := SZ.out; omega)))
                  have Vc := Hid.mk' (Vb.out.kept KF.out (.inl (by have := SZ.out; omega)))
                  have Bc : Hid (Below w1.heap.size w1 wr) := Kept.on Bb.out KF.out (Nat.le_refl _)
                  have Zc : Hid (s11 ≤ wr.heap.size) := Nat.le_trans Zb.out KF.out.size
                  clear OI hgo him hi hie KF Cb Vb Bb Zb
                  rename World => w14
                  have KC8 := Hid.mk' Cc.out.ws.box
                  have KV := Hid.mk' Vc.out.box
                  go_wp2_with (first | (refine wl_load28 (.tmp 8) rfl rfl rfl hl1 KC8.out ?_) | (refine wl_load28 (.tmp 10) rfl rfl rfl hl2 KV.out ?_))
                  refine (sameBank_yes N1 N2 P1 w14 Cc.out.ws.rdb Vc.out.rdb).mono ?_
                  rintro e w15 ⟨rfl, hb15⟩
                  have CB0 := Hid.mk' (Cc.out.keep hb15).bst
                  have V15 := Hid.mk' (Vc.out.keep hb15)
                  have B15 := Hid.mk' (bT Bc.out hb15)
                  have Z15 : Hid (s11 ≤ w15.heap.size) := Nat.le_trans Zc.out hb15.size
                  clear hb15 Cc Vc Bc Zc KC8 KV
                  dsimp only
                  obtain ⟨q, hq⟩ : ∃ q, N1[0]? = some q := ⟨_, List.getElem?_eq_getElem (by have := CB0.out.len; omega)⟩
                  obtain ⟨d, hd⟩ : ∃ d, P1[0]? = some d := ⟨_, List.getElem?_eq_getElem (by have := CB0.out.qlen; omega)⟩
                  obtain ⟨p0, p1, p2⟩ := CB0.out.box.rg hq
                  have hrow := Hid.mk' (CB0.out.row hq hd)
                  have hsh := CB0.out.short hq hd
                  have HQ := Hid.mk' hq
                  have HDd := Hid.mk' hd
                  obtain ⟨qs, ql, qa, qn, qc⟩ := q
                  obtain ⟨ds, dl, dt⟩ := d
                  dsimp only at p0 p1 p2 hrow hsh
                  simp only [show 3 * 0 = 0 from rfl, show 0 + 1 = 1 from rfl, show 0 + 2 = 2 from rfl] at p0 p1 p2
                  clear hq hd
                  go_wp2_with fail
                  refine (marked_z 113 113 rfl s4 qs ql qa qn qc dt w15 hrow.out CB0.out.own.sz (by omega)).mono ?_
                  rintro e wz ⟨a9, c9, t9, rfl, ho, hg, hf⟩
                  have b1 := CB0.out.box.grown hg (blk_type hrow.out CB0.out.box (by decide)).symm
                  have hNB := CB0.out.mark HQ.out HDd.out ho hg hf
                  obtain ⟨p3, p4, p5⟩ := b1.rg HQ.out
                  have fz := b1.frozen
                  unfold putr at hNB
                  dsimp only at p3 p4 p5 hNB
                  simp only [show 3 * 0 = 0 from rfl, show 0 + 1 = 1 from rfl, show 0 + 2 = 2 from rfl] at p3 p4 p5 hNB
                  have NB := Hid.mk' hNB
                  clear hNB ho hg hf b1 p0 p1 p2 hrow hsh
                  dsimp only
                  go_upto_region 37 with fail
                  clear p3 p4 p5 fz HQ HDd CB0
                  have HM : Hid (∀ k, 1 ≤ k → (N1.set 0 ⟨qs, ql, a9, qn + 40, c9⟩)[k]? = N1[k]? ∧ (P1.set 0 ⟨ds, dl, t9⟩)[k]? = P1[k]?) := fun k hk => ⟨List.getElem?_set_ne (by omega), List.getElem?_set_ne (by omega)⟩
                  generalize ((wz.setCell ⟨g8, 0, none⟩ (.bool qs)).setCell ⟨g8, 1, none⟩ (.bool ql)).setCell ⟨g8, 2, none⟩ (.slice a9 (qn + 40) c9) = w16 at *
                  generalize N1.set 0 ⟨qs, ql, a9, qn + 40, c9⟩ = MC at *
                  generalize P1.set 0 ⟨ds, dl, t9⟩ = QC at *
                  have CB16 : Hid (Bst s4 s7 40 w15 w16 g8 MC QC) := NB.out
                  clear NB
                  have hlP1 : P1.length = 37 := V15.out.rdb.2.1
                  have V16 := Hid.mk' (V15.out.kept CB16.out.kept (.inl (by have := SZ.out; omega)))
                  obtain ⟨q, hq⟩ : ∃ q, N1[1]? = some q := ⟨_, List.getElem?_eq_getElem (by omega)⟩
                  obtain ⟨y, hy⟩ : ∃ y, N2[1]? = some y := ⟨_, List.getElem?_eq_getElem (by omega)⟩
                  obtain ⟨d, hd⟩ : ∃ d, P1[1]? = some d := ⟨_, List.getElem?_eq_getElem (by omega)⟩
                  obtain ⟨p0, p1, p2⟩ := CB16.out.box.rg ((HM.out 1 (by omega)).1.trans hq)
                  obtain ⟨v0, v1, v2⟩ := V16.out.box.rg hy
                  have D1 := Hid.mk' (CB16.out.rd ((HM.out 1 (by omega)).1.trans hq) ((HM.out 1 (by omega)).2.trans hd) (HSH.out 1 d hd))
                  have D2 := Hid.mk' (V16.out.rdb.2.2 1 y d hy hd)
                  have CS := Hid.mk' (fun W (h : Below w16.heap.size w16 W) => same_rd (D1.out.keep h) (D2.out.keep h))
                  obtain ⟨qs, ql, qa, qn, qc⟩ := q
                  obtain ⟨ys, yl, ya, yn, yc⟩ := y
                  dsimp only at p0 p1 p2 v0 v1 v2 CS
                  simp only [show 3 * 1 = 3 from rfl, show 3 + 1 = 4 from rfl, show 3 + 2 = 5 from rfl] at p0 p1 p2 v0 v1 v2
                  clear hq hy hd D1 D2
                  go_wp2_with fail
                  refine (CS.out w16 (Below.refl _ _)).mono ?_
                  rintro e w17 ⟨rfl, hb17⟩
                  have CB17 := Hid.mk' (CB16.out.keep hb17)
                  have V17 := Hid.mk' (V16.out.keep hb17)
                  clear hb17 CS p0 p1 p2 v0 v1 v2 CB16 V16
                  dsimp only
                  obtain ⟨q, hq⟩ : ∃ q, N1[2]? = some q := ⟨_, List.getElem?_eq_getElem (by omega)⟩
                  obtain ⟨y, hy⟩ : ∃ y, N2[2]? = some y := ⟨_, List.getElem?_eq_getElem (by omega)⟩
                  obtain ⟨d, hd⟩ : ∃ d, P1[2]? = some d := ⟨_, List.getElem?_eq_getElem (by omega)⟩
                  obtain ⟨p0, p1, p2⟩ := CB17.out.box.rg ((HM.out 2 (by omega)).1.trans hq)
                  obtain ⟨v0, v1, v2⟩ := V17.out.box.rg hy
                  have D1 := Hid.mk' (CB17.out.rd ((HM.out 2 (by omega)).1.trans hq) ((HM.out 2 (by omega)).2.trans hd) (HSH.out 2 d hd))
                  have D2 := Hid.mk' (V17.out.rdb.2.2 2 y d hy hd)
                  have CS := Hid.mk' (fun W (h : Below w17.heap.size w17 W) => same_rd (D1.out.keep h) (D2.out.keep h))
                  obtain ⟨qs, ql, qa, qn, qc⟩ := q
                  obtain ⟨ys, yl, ya, yn, yc⟩ := y
                  dsimp only at p0 p1 p2 v0 v1 v2 CS
                  simp only [show 3 * 2 = 6 from rfl, show 6 + 1 = 7 from rfl, show 6 + 2 = 8 from rfl] at p0 p1 p2 v0 v1 v2
                  clear hq hy hd D1 D2
                  go_wp2_with fail
                  refine (CS.out w17 (Below.refl _ _)).mono ?_
                  rintro e w18 ⟨rfl, hb18⟩
                  have CB18 := Hid.mk' (CB17.out.keep hb18)
                  have V18 := Hid.mk' (V17.out.keep hb18)
                  clear hb18 CS p0 p1 p2 v0 v1 v2 CB17 V17
                  dsimp only
                  go_upto_if 188 with fail
                  go_wp2_with fail
                  go_loopg [19] 26 (fun m x19 wx => ∃ i : Nat, x19 = .int .i64 (i : Int) ∧ i + m = 26 ∧ Hid (Below w18.heap.size w18 wx))
                  case atStart => exact ⟨0, rfl, rfl, Below.refl _ _⟩
                  case round =>
                    obtain ⟨i, rfl, him, KB⟩ := hrel
                    obtain ⟨go, hgo⟩ : ∃ g, g = gk - 1 := ⟨_, rfl⟩
                    by_cases hi : i < 26
                    · have hi' : (i : Int) < 26 := by omega
                      have hi0 : (0 : Int) ≤ (i : Int) := by omega
                      have hw4 : IntKind.i64.wrap ((i : Int) + 1) = ((i + 1 : Nat) : Int) := by rw [IntKind.wrap_i64]; omega
                      have hbig : 3 * (11 + i) = 33 + i * 3 := by omega
                      obtain ⟨q, hq⟩ : ∃ q, N1[(11 + i)]? = some q := ⟨_, List.getElem?_eq_getElem (by omega)⟩
                      obtain ⟨y, hy⟩ : ∃ y, N2[(11 + i)]? = some y := ⟨_, List.getElem?_eq_getElem (by omega)⟩
                      obtain ⟨d, hd⟩ : ∃ d, P1[(11 + i)]? = some d := ⟨_, List.getElem?_eq_getElem (by omega)⟩
                      obtain ⟨p0, p1, p2⟩ := CB18.out.box.rg ((HM.out (11 + i) (by omega)).1.trans hq)
                      obtain ⟨v0, v1, v2⟩ := V18.out.box.rg hy
                      have D1 := Hid.mk' (CB18.out.rd ((HM.out (11 + i) (by omega)).1.trans hq) ((HM.out (11 + i) (by omega)).2.trans hd) (HSH.out (11 + i) d hd))
                      have D2 := Hid.mk' (V18.out.rdb.2.2 (11 + i) y d hy hd)
                      have CS := Hid.mk' (fun W (h : Below w18.heap.size w18 W) => same_rd (D1.out.keep h) (D2.out.keep h))
                      obtain ⟨qs, ql, qa, qn, qc⟩ := q
                      obtain ⟨ys, yl, ya, yn, yc⟩ := y
                      dsimp only at p0 p1 p2 v0 v1 v2 CS
                      rw [hbig] at p0 p1 p2 v0 v1 v2
                      clear hq hy hd D1 D2
                      have S0 : Hid (Below w18.heap.size w18 wr.drew) := KB.out.drew
                      clear hbig KB
                      go_upto_region 42 with fail
                      refine wp_region_held (S := fun w' => Below w18.heap.size w18 w') (by kernel_rfl) ?_
                      change wpAnyH _ _ _ _ _ _ _ _ (World.drew _)
                      generalize wr.drew = U0 at *
                      refine wpAnyH_take (i := 0) (v := .int .i64 (i : Int)) rfl (by kernel_rfl) (by kernel_rfl) (by kernel_rfl) (fun _ _ _ h => h) (Yields.yieldsIf (Or.inl ⟨by rfl, fun w => by go_simp⟩)) S0.out ?_
                      try simp only [Act.put, List.getElem_toArray, List.getElem_cons_zero, List.getElem_cons_succ, List.setIfInBounds_toArray, List.set_cons_zero, List.set_cons_succ]
                      refine wpAnyH_take (i := 1) (v := .pointer (some ⟨g8, 33, none⟩)) rfl (by kernel_rfl) (by kernel_rfl) (by kernel_rfl) (fun _ _ _ h => h) (Yields.yieldsIf (Or.inl ⟨by rfl, fun w => by go_simp⟩)) S0.out ?_
                      try simp only [Act.put, List.getElem_toArray, List.getElem_cons_zero, List.getElem_cons_succ, List.setIfInBounds_toArray, List.set_cons_zero, List.set_cons_succ]
                      refine wpAnyH_take (i := 2) (v := .pointer (some ⟨g8, 33 + i * 3, none⟩)) rfl (by kernel_rfl) (by kernel_rfl) (by kernel_rfl) (fun _ _ _ h => h) (Yields.yieldsIf (Or.inl ⟨by rfl, fun w => by go_simp⟩)) S0.out ?_
                      try simp only [Act.put, List.getElem_toArray, List.getElem_cons_zero, List.getElem_cons_succ, List.setIfInBounds_toArray, List.set_cons_zero, List.set_cons_succ]
                      refine wpAnyH_take (i := 3) (v := .agg #[.bool qs, .bool ql, .slice qa qn qc]) rfl (by kernel_rfl) (by kernel_rfl) (by kernel_rfl) (fun _ _ _ h => h) (Or.inl ⟨by rfl, fun w9 h9 => by have e0 := (h9.cell (lt_of_cell p0)).trans p0; have e1 := (h9.cell (lt_of_cell p1)).trans p1; have e2 := (h9.cell (lt_of_cell p2)).trans p2; go_simp⟩) S0.out ?_
                      try simp only [Act.put, List.getElem_toArray, List.getElem_cons_zero, List.getElem_cons_succ, List.setIfInBounds_toArray, List.set_cons_zero, List.set_cons_succ]
                      refine wpAnyH_take (i := 4) (v := .int .i64 (i : Int)) rfl (by kernel_rfl) (by kernel_rfl) (by kernel_rfl) (fun _ _ _ h => h) (Yields.yieldsIf (Or.inl ⟨by rfl, fun w => by go_simp⟩)) S0.out ?_
                      try simp only [Act.put, List.getElem_toArray, List.getElem_cons_zero, List.getElem_cons_succ, List.setIfInBounds_toArray, List.set_cons_zero, List.set_cons_succ]
                      refine wpAnyH_take (i := 5) (v := .pointer (some ⟨g10, 33, none⟩)) rfl (by kernel_rfl) (by kernel_rfl) (by kernel_rfl) (fun _ _ _ h => h) (Yields.yieldsIf (Or.inl ⟨by rfl, fun w => by go_simp⟩)) S0.out ?_
                      try simp only [Act.put, List.getElem_toArray, List.getElem_cons_zero, List.getElem_cons_succ, List.setIfInBounds_toArray, List.set_cons_zero, List.set_cons_succ]
                      refine wpAnyH_take (i := 6) (v := .pointer (some ⟨g10, 33 + i * 3, none⟩)) rfl (by kernel_rfl) (by kernel_rfl) (by kernel_rfl) (fun _ _ _ h => h) (Yields.yieldsIf (Or.inl ⟨by rfl, fun w => by go_simp⟩)) S0.out ?_
                      try simp only [Act.put, List.getElem_toArray, List.getElem_cons_zero, List.getElem_cons_succ, List.setIfInBounds_toArray, List.set_cons_zero, List.set_cons_succ]
                      refine wpAnyH_take (i := 7) (v := .agg #[.bool ys, .bool yl, .slice ya yn yc]) rfl (by kernel_rfl) (by kernel_rfl) (by kernel_rfl) (fun _ _ _ h => h) (Or.inl ⟨by rfl, fun w9 h9 => by have e0 := (h9.cell (lt_of_cell v0)).trans v0; have e1 := (h9.cell (lt_of_cell v1)).trans v1; have e2 := (h9.cell (lt_of_cell v2)).trans v2; go_simp⟩) S0.out ?_
                      try simp only [Act.put, List.getElem_toArray, List.getElem_cons_zero, List.getElem_cons_succ, List.setIfInBounds_toArray, List.set_cons_zero, List.set_cons_succ]
                      refine wpAnyH_all (rs := [8]) (by kernel_rfl) (by simp) (AllH.cons rfl (fun K hK => ?_) AllH.nil)
                      go_simp
                      refine (CS.out U0 S0.out).mono ?_
                      rintro e U1 ⟨rfl, hb⟩
                      have S1 := Hid.mk' (bT S0.out hb)
                      clear hb
                      dsimp only
                      refine hK _ _ ⟨S1.out, ?_⟩
                      clear hK K
                      try simp only [Act.put, List.getElem_toArray, List.getElem_cons_zero, List.getElem_cons_succ, List.setIfInBounds_toArray, List.set_cons_zero, List.set_cons_succ]
                      refine wpAnyH_take (i := 9) (v := .bool false) rfl (by kernel_rfl) (by kernel_rfl) (by kernel_rfl) (fun _ _ _ h => h) (Yields.yieldsIf (Or.inl ⟨by rfl, fun w => by go_simp⟩)) S1.out ?_
                      try simp only [Act.put, List.getElem_toArray, List.getElem_cons_zero, List.getElem_cons_succ, List.setIfInBounds_toArray, List.set_cons_zero, List.set_cons_succ]
                      refine wpAnyH_done (by kernel_rfl) ?_ _
                      clear CS p0 p1 p2 v0 v1 v2
                      go_wp2
                      go_roundg go
                      case measure => omega
                      case rel => exact ⟨i + 1, by go_num, by omega, S1.out⟩
                    · have hi' : ¬ (i : Int) < 26 := by omega
                      have CB19 := Hid.mk' (CB18.out.keep KB.out)
                      clear hgo him hi KB CB18 V18
                      rename World => w19
                      go_wp2_with fail
                      go_loopg [20] 8 (fun m x20 wx => ∃ (i : Nat) (M : List Rg) (Q : List Ct), x20 = .int .i64 (i : Int) ∧ i + m = 8 ∧ Hid (Bst s4 s7 (40 + 40 * i) w15 wx g8 M Q) ∧ Hid (∀ k, 2 + i ≤ k → M[k]? = N1[k]? ∧ Q[k]? = P1[k]?))
                      case atStart => exact ⟨0, MC, QC, rfl, rfl, CB19.out, fun k hk => HM.out k (by omega)⟩
                      case round =>
                        clear CB19 HM
                        obtain ⟨i, M, Q, rfl, him, OI, HM⟩ := hrel
                        obtain ⟨go, hgo⟩ : ∃ g, g = gk - 1 := ⟨_, rfl⟩
                        by_cases hi : i < 8
                        · obtain ⟨i1, hi1⟩ : ∃ i1, i1 = i + 1 := ⟨_, rfl⟩
                          have hi' : (i : Int) < 8 := by omega
                          have hi9 : (i : Int) < 9 := by omega
                          have hi0 : (0 : Int) ≤ (i : Int) := by omega
                          have hj9 : (i1 : Int) < 9 := by omega
                          have hj0 : (0 : Int) ≤ (i1 : Int) := by omega
                          have hw4 : IntKind.i64.wrap ((i : Int) + 1) = (i1 : Int) := by rw [IntKind.wrap_i64]; omega
                          have HI1 := Hid.mk' hi1
                          clear hi1
                          have hbig : 3 * (2 + i) = 6 + i * 3 := by omega
                          obtain ⟨q, hq⟩ : ∃ q, M[(2 + i)]? = some q := ⟨_, List.getElem?_eq_getElem (by have := OI.out.len; omega)⟩
                          obtain ⟨d, hd⟩ : ∃ d, Q[(2 + i)]? = some d := ⟨_, List.getElem?_eq_getElem (by have := OI.out.qlen; omega)⟩
                          obtain ⟨p0, p1, p2⟩ := OI.out.box.rg hq
                          have hrow := Hid.mk' (OI.out.row hq hd)
                          have hsh := OI.out.short hq hd
                          have HQ := Hid.mk' hq
                          have HDd := Hid.mk' hd
                          obtain ⟨qs, ql, qa, qn, qc⟩ := q
                          obtain ⟨ds, dl, dt⟩ := d
                          dsimp only at p0 p1 p2 hrow hsh
                          rw [hbig] at p0 p1 p2
                          clear hq hd
                          go_wp2_with fail
                          refine (marked_z 113 113 rfl s4 qs ql qa qn qc dt wr hrow.out OI.out.own.sz (by omega)).mono ?_
                          rintro e wz ⟨a9, c9, t9, rfl, ho, hg, hf⟩
                          have b1 := OI.out.box.grown hg (blk_type hrow.out OI.out.box (by decide)).symm
                          have hNB := OI.out.mark HQ.out HDd.out ho hg hf
                          obtain ⟨p3, p4, p5⟩ := b1.rg HQ.out
                          have fz := b1.frozen
                          unfold putr at hNB
                          dsimp only at p3 p4 p5 hNB
                          rw [hbig] at p3 p4 p5 hNB
                          have NB := Hid.mk' hNB
                          clear hNB ho hg hf b1 p0 p1 p2 hrow hsh
                          dsimp only
                          clear hbig
                          go_upto_region 48 with fail
                          clear p3 p4 p5 fz HQ HDd OI
                          have HM2 : Hid (∀ k, 2 + i1 ≤ k → (M.set (2 + i) ⟨qs, ql, a9, qn + 40, c9⟩)[k]? = N1[k]? ∧ (Q.set (2 + i) ⟨ds, dl, t9⟩)[k]? = P1[k]?) := fun k hk => by
                            have := HI1.out
                            rw [List.getElem?_set_ne (by omega), List.getElem?_set_ne (by omega)]
                            exact HM.out k (by omega)
                          generalize ((wz.setCell ⟨g8, 6 + i * 3, none⟩ (.bool qs)).setCell ⟨g8, 6 + i * 3 + 1, none⟩ (.bool ql)).setCell ⟨g8, 6 + i * 3 + 2, none⟩ (.slice a9 (qn + 40) c9) = wq at *
                          generalize M.set (2 + i) ⟨qs, ql, a9, qn + 40, c9⟩ = M9 at *
                          generalize Q.set (2 + i) ⟨ds, dl, t9⟩ = Q9 at *
                          have CBq : Hid (Bst s4 s7 (40 + 40 * i1) w15 wq g8 M9 Q9) := by
                            have e : 40 + 40 * i + 40 = 40 + 40 * i1 := by have := HI1.out; omega
                            have := NB.out
                            rw [e] at this
                            exact this
                          clear NB HM
                          have Vq := Hid.mk' (V15.out.kept CBq.out.kept (.inl (by have := SZ.out; omega)))
                          have hbig : 3 * (2 + i1) = 6 + i1 * 3 := by omega
                          obtain ⟨q, hq⟩ : ∃ q, N1[(2 + i1)]? = some q := ⟨_, List.getElem?_eq_getElem (by omega)⟩
                          obtain ⟨y, hy⟩ : ∃ y, N2[(2 + i1)]? = some y := ⟨_, List.getElem?_eq_getElem (by omega)⟩
                          obtain ⟨d, hd⟩ : ∃ d, P1[(2 + i1)]? = some d := ⟨_, List.getElem?_eq_getElem (by omega)⟩
                          obtain ⟨p0, p1, p2⟩ := CBq.out.box.rg ((HM2.out (2 + i1) (by omega)).1.trans hq)
                          obtain ⟨v0, v1, v2⟩ := Vq.out.box.rg hy
                          have D1 := Hid.mk' (CBq.out.rd ((HM2.out (2 + i1) (by omega)).1.trans hq) ((HM2.out (2 + i1) (by omega)).2.trans hd) (HSH.out (2 + i1) d hd))
                          have D2 := Hid.mk' (Vq.out.rdb.2.2 (2 + i1) y d hy hd)
                          have CS := Hid.mk' (fun W (h : Below wq.heap.size wq W) => same_rd (D1.out.keep h) (D2.out.keep h))
                          obtain ⟨qs, ql, qa, qn, qc⟩ := q
                          obtain ⟨ys, yl, ya, yn, yc⟩ := y
                          dsimp only at p0 p1 p2 v0 v1 v2 CS
                          rw [hbig] at p0 p1 p2 v0 v1 v2
                          clear hq hy hd D1 D2
                          have S0 : Hid (Below wq.heap.size wq wq.drew) := (Below.refl _ _).drew
                          clear hbig Vq
                          refine wp_region_held (S := fun w' => Below wq.heap.size wq w') (by kernel_rfl) ?_
                          change wpAnyH _ _ _ _ _ _ _ _ (World.drew _)
                          generalize wq.drew = U0 at *
                          refine wpAnyH_take (i := 0) (v := .int .i64 (i : Int)) rfl (by kernel_rfl) (by kernel_rfl) (by kernel_rfl) (fun _ _ _ h => h) (Yields.yieldsIf (Or.inl ⟨by rfl, fun w => by go_simp⟩)) S0.out ?_
                          try simp only [Act.put, List.getElem_toArray, List.getElem_cons_zero, List.getElem_cons_succ, List.setIfInBounds_toArray, List.set_cons_zero, List.set_cons_succ]
                          refine wpAnyH_take (i := 1) (v := .int .i64 (i1 : Int)) rfl (by kernel_rfl) (by kernel_rfl) (by kernel_rfl) (fun _ _ _ h => h) (Yields.yieldsIf (Or.inl ⟨by rfl, fun w => by go_simp⟩)) S0.out ?_
                          try simp only [Act.put, List.getElem_toArray, List.getElem_cons_zero, List.getElem_cons_succ, List.setIfInBounds_toArray, List.set_cons_zero, List.set_cons_succ]
                          refine wpAnyH_take (i := 2) (v := .pointer (some ⟨g8, 6, none⟩)) rfl (by kernel_rfl) (by kernel_rfl) (by kernel_rfl) (fun _ _ _ h => h) (Yields.yieldsIf (Or.inl ⟨by rfl, fun w => by go_simp⟩)) S0.out ?_
                          try simp only [Act.put, List.getElem_toArray, List.getElem_cons_zero, List.getElem_cons_succ, List.setIfInBounds_toArray, List.set_cons_zero, List.set_cons_succ]
                          refine wpAnyH_take (i := 3) (v := .pointer (some ⟨g8, 6 + i1 * 3, none⟩)) rfl (by kernel_rfl) (by kernel_rfl) (by kernel_rfl) (fun _ _ _ h => h) (Yields.yieldsIf (Or.inl ⟨by rfl, fun w => by go_simp⟩)) S0.out ?_
                          try simp only [Act.put, List.getElem_toArray, List.getElem_cons_zero, List.getElem_cons_succ, List.setIfInBounds_toArray, List.set_cons_zero, List.set_cons_succ]
                          refine wpAnyH_take (i := 4) (v := .agg #[.bool qs, .bool ql, .slice qa qn qc]) rfl (by kernel_rfl) (by kernel_rfl) (by kernel_rfl) (fun _ _ _ h => h) (Or.inl ⟨by rfl, fun w9 h9 => by have e0 := (h9.cell (lt_of_cell p0)).trans p0; have e1 := (h9.cell (lt_of_cell p1)).trans p1; have e2 := (h9.cell (lt_of_cell p2)).trans p2; go_simp⟩) S0.out ?_
                          try simp only [Act.put, List.getElem_toArray, List.getElem_cons_zero, List.getElem_cons_succ, List.setIfInBounds_toArray, List.set_cons_zero, List.set_cons_succ]
                          refine wpAnyH_take (i := 5) (v := .int .i64 (i : Int)) rfl (by kernel_rfl) (by kernel_rfl) (by kernel_rfl) (fun _ _ _ h => h) (Yields.yieldsIf (Or.inl ⟨by rfl, fun w => by go_simp⟩)) S0.out ?_
                          try simp only [Act.put, List.getElem_toArray, List.getElem_cons_zero, List.getElem_cons_succ, List.setIfInBounds_toArray, List.set_cons_zero, List.set_cons_succ]
                          refine wpAnyH_take (i := 6) (v := .int .i64 (i1 : Int)) rfl (by kernel_rfl) (by kernel_rfl) (by kernel_rfl) (fun _ _ _ h => h) (Yields.yieldsIf (Or.inl ⟨by rfl, fun w => by go_simp⟩)) S0.out ?_
                          try simp only [Act.put, List.getElem_toArray, List.getElem_cons_zero, List.getElem_cons_succ, List.setIfInBounds_toArray, List.set_cons_zero, List.set_cons_succ]
                          refine wpAnyH_take (i := 7) (v := .pointer (some ⟨g10, 6, none⟩)) rfl (by kernel_rfl) (by kernel_rfl) (by kernel_rfl) (fun _ _ _ h => h) (Yields.yieldsIf (Or.inl ⟨by rfl, fun w => by go_simp⟩)) S0.out ?_
                          try simp only [Act.put, List.getElem_toArray, List.getElem_cons_zero, List.getElem_cons_succ, List.setIfInBounds_toArray, List.set_cons_zero, List.set_cons_succ]
                          refine wpAnyH_take (i := 8) (v := .pointer (some ⟨g10, 6 + i1 * 3, none⟩)) rfl (by kernel_rfl) (by kernel_rfl) (by kernel_rfl) (fun _ _ _ h => h) (Yields.yieldsIf (Or.inl ⟨by rfl, fun w => by go_simp⟩)) S0.out ?_
                          try simp only [Act.put, List.getElem_toArray, List.getElem_cons_zero, List.getElem_cons_succ, List.setIfInBounds_toArray, List.set_cons_zero, List.set_cons_succ]
                          refine wpAnyH_take (i := 9) (v := .agg #[.bool ys, .bool yl, .slice ya yn yc]) rfl (by kernel_rfl) (by kernel_rfl) (by kernel_rfl) (fun _ _ _ h => h) (Or.inl ⟨by rfl, fun w9 h9 => by have e0 := (h9.cell (lt_of_cell v0)).trans v0; have e1 := (h9.cell (lt_of_cell v1)).trans v1; have e2 := (h9.cell (lt_of_cell v2)).trans v2; go_simp⟩) S0.out ?_
                          try simp only [Act.put, List.getElem_toArray, List.getElem_cons_zero, List.getElem_cons_succ, List.setIfInBounds_toArray, List.set_cons_zero, List.set_cons_succ]
                          refine wpAnyH_all (rs := [10]) (by kernel_rfl) (by simp) (AllH.cons rfl (fun K hK => ?_) AllH.nil)
                          go_simp
                          refine (CS.out U0 S0.out).mono ?_
                          rintro e U1 ⟨rfl, hb⟩
                          have S1 := Hid.mk' (bT S0.out hb)
                          clear hb
                          dsimp only
                          refine hK _ _ ⟨S1.out, ?_⟩
                          clear hK K
                          try simp only [Act.put, List.getElem_toArray, List.getElem_cons_zero, List.getElem_cons_succ, List.setIfInBounds_toArray, List.set_cons_zero, List.set_cons_succ]
                          refine wpAnyH_take (i := 11) (v := .bool false) rfl (by kernel_rfl) (by kernel_rfl) (by kernel_rfl) (fun _ _ _ h => h) (Yields.yieldsIf (Or.inl ⟨by rfl, fun w => by go_simp⟩)) S1.out ?_
                          try simp only [Act.put, List.getElem_toArray, List.getElem_cons_zero, List.getElem_cons_succ, List.setIfInBounds_toArray, List.set_cons_zero, List.set_cons_succ]
                          refine wpAnyH_done (by kernel_rfl) ?_ _
                          have CBr := Hid.mk' (CBq.out.keep S1.out)
                          clear CS p0 p1 p2 v0 v1 v2 CBq
                          go_wp2
                          go_roundg go
                          case measure => omega
                          case rel => exact ⟨i1, M9, Q9, rfl, by have := HI1.out; omega, CBr.out, HM2.out⟩
                        · have hi' : ¬ (i : Int) < 8 := by omega
                          have KF := Hid.mk' OI.out.kept
                          have Vd := Hid.mk' (V15.out.kept KF.out (.inl (by have := SZ.out; omega)))
                          have Bd : Hid (Below w1.heap.size w1 wr) := Kept.on B15.out KF.out (by have := SZ.out; omega)
                          have Zd : Hid (s11 ≤ wr.heap.size) := Nat.le_trans Z15.out KF.out.size
                          clear hgo him hi OI HM KF V15 B15 Z15
                          rename World => w20
                          have GA := Hid.mk' (fun W (h : Rdb W N2 P1) => get_any N2 P1 x W hx h)
                          have hgl := getP_le Vd.out.rdb x
                          unfold gE at GA
                          generalize getP P1 x = GP at GA hgl
                          obtain ⟨⟨gs, gl, gt⟩, gE1⟩ := GP
                          dsimp only at GA hgl
                          have KV := Hid.mk' Vd.out.box
                          obtain ⟨f0, f1, f2, f3, f4⟩ := FC.out w20 (K1.out.keep Bd.out)
                          go_wp2_with (refine wl_load28 (.tmp 10) rfl rfl rfl hl2 KV.out ?_)
                          refine (GA.out w20 Vd.out.rdb).mono ?_
                          rintro e w21 ⟨gaa, gac, gan, hgan, rfl, hgO, hgb⟩
                          have hb := bAlloc (Below.refl _ w21) (.cells #[.bool gs, .bool gl, .slice gaa gan gac] 24)
                          have X22 : Hid (Blk (w21.alloc (.cells #[.bool gs, .bool gl, .slice gaa gan gac] 24)) w21.heap.size 24 #[.bool gs, .bool gl, .slice gaa gan gac]) := Blk.new _ _ _
                          have T22 : Hid ((w21.alloc (.cells #[.bool gs, .bool gl, .slice gaa gan gac] 24)).ownsRow w20.heap.size 5 1 (.slice gaa gan gac) gan (bv gt)) := own_keep hgO hb
                          have S22 : Hid (Below w20.heap.size w20 (w21.alloc (.cells #[.bool gs, .bool gl, .slice gaa gan gac] 24))) := bT hgb hb
                          have Q22 : Hid (w20.heap.size ≤ w21.heap.size) := hgb.size
                          have L22 := Hid.mk' hgan
                          obtain ⟨q22, hq22⟩ : ∃ q, q = w21.heap.size := ⟨_, rfl⟩
                          clear hgO hgb hb hgan f0 f1 f2 f3 f4
                          dsimp only
                          go_upto_region 51 with fail
                          generalize w21.alloc (.cells #[.bool gs, .bool gl, .slice gaa gan gac] 24) = w22 at *
                          rw [← hq22] at X22 Q22 ⊢
                          clear hq22 KV
                          have V22 := Hid.mk' (Vd.out.keep S22.out)
                          have B22 := Hid.mk' (bT Bd.out S22.out)
                          have UP22 : Hid (∀ k, (Value.slice gaa gan gac).ownBlock = some k → k < w22.heap.size) := fun k hk => (T22.out.lt k hk).2
                          have KV := Hid.mk' V22.out.box
                          obtain ⟨f0, f1, f2, f3, f4⟩ := FC.out w22 (K1.out.keep B22.out)
                          go_wp2_with (refine wl_load28 (.tmp 10) rfl rfl rfl hl2 KV.out ?_)
                          refine (GA.out w22 V22.out.rdb).mono ?_
                          rintro e w23 ⟨gba, gbc, gbn, hgbn, rfl, hgO, hgb⟩
                          have hb := bAlloc (Below.refl _ w23) (.cells #[.bool gs, .bool gl, .slice gba gbn gbc] 24)
                          have X24 : Hid (Blk (w23.alloc (.cells #[.bool gs, .bool gl, .slice gba gbn gbc] 24)) w23.heap.size 24 #[.bool gs, .bool gl, .slice gba gbn gbc]) := Blk.new _ _ _
                          have T24 : Hid ((w23.alloc (.cells #[.bool gs, .bool gl, .slice gba gbn gbc] 24)).ownsRow w22.heap.size 5 1 (.slice gba gbn gbc) gbn (bv gt)) := own_keep hgO hb
                          have S24 : Hid (Below w22.heap.size w22 (w23.alloc (.cells #[.bool gs, .bool gl, .slice gba gbn gbc] 24))) := bT hgb hb
                          have Q24 : Hid (w22.heap.size ≤ w23.heap.size) := hgb.size
                          have L24 := Hid.mk' hgbn
                          obtain ⟨q24, hq24⟩ : ∃ q, q = w23.heap.size := ⟨_, rfl⟩
                          clear hgO hgb hb hgbn f0 f1 f2 f3 f4
                          dsimp only
                          go_upto_region 52 with fail
                          generalize w23.alloc (.cells #[.bool gs, .bool gl, .slice gba gbn gbc] 24) = w24 at *
                          rw [← hq24] at X24 Q24 ⊢
                          clear hq24 KV
                          have V24 := Hid.mk' (V22.out.keep S24.out)
                          have B24 := Hid.mk' (bT B22.out S24.out)
                          have X22b := Hid.mk' (X22.out.keep S24.out)
                          have T22b := Hid.mk' (own_keep T22.out S24.out)
                          have y0 : w24.cell? ⟨q22, 0, none⟩ = some (.bool gs) := X22b.out.cell rfl
                          have y1 : w24.cell? ⟨q22, 1, none⟩ = some (.bool gl) := X22b.out.cell rfl
                          have y2 : w24.cell? ⟨q22, 2, none⟩ = some (.slice gaa gan gac) := X22b.out.cell rfl
                          have Z2024 : Hid (w20.heap.size ≤ w24.heap.size ∧ w20.heap.size ≤ w22.heap.size) := ⟨Nat.le_trans S22.out.size S24.out.size, S22.out.size⟩
                          go_wp2_with fail
                          refine (marked_z 34 34 rfl w20.heap.size gs gl gaa gan gac gt w24 T22b.out Z2024.out.1 (by have := L22.out; omega)).mono ?_
                          rintro e w25 ⟨a9, c9, t9, rfl, ho, hg, hf⟩
                          have KZ : Hid (Kept w20.heap.size w22.heap.size w24 w25) := (Kept.refl _ _ _).grown hg (fun k hk => ⟨(T22b.out.lt k hk).1, .inl (UP22.out k hk)⟩)
                          have V25 := Hid.mk' (V24.out.kept KZ.out (.inr Zd.out))
                          have B25 : Hid (Below w1.heap.size w1 w25) := Kept.on B24.out KZ.out Bd.out.size
                          have X25 := Hid.mk' (X24.out.kept KZ.out (.inr Q24.out))
                          have T25 : Hid (w25.ownsRow w22.heap.size 5 1 (.slice gba gbn gbc) gbn (bv gt)) := own_same T24.out (fun k h1 h2 => KZ.out.block k h2 (.inr (T24.out.lt k h1).1))
                          clear ho hg hf KZ y0 y1 y2 X22b T22b X22 T22 S22 S24 V22 B22 V24 B24 X24 T24 UP22 Z2024 Zd Vd Bd
                          dsimp only
                          have KV := Hid.mk' V25.out.box
                          obtain ⟨f0, f1, f2, f3, f4⟩ := FC.out w25 (K1.out.keep B25.out)
                          go_wp2_with (refine wl_load28 (.tmp 10) rfl rfl rfl hl2 KV.out ?_)
                          refine (GA.out w25 V25.out.rdb).mono ?_
                          rintro e w26 ⟨gca, gcc, gcn, hgcn, rfl, hgO, hgb⟩
                          have hb := bAlloc (Below.refl _ w26) (.cells #[.bool gs, .bool gl, .slice gca gcn gcc] 24)
                          have X27 : Hid (Blk (w26.alloc (.cells #[.bool gs, .bool gl, .slice gca gcn gcc] 24)) w26.heap.size 24 #[.bool gs, .bool gl, .slice gca gcn gcc]) := Blk.new _ _ _
                          have T27 : Hid ((w26.alloc (.cells #[.bool gs, .bool gl, .slice gca gcn gcc] 24)).ownsRow w25.heap.size 5 1 (.slice gca gcn gcc) gcn (bv gt)) := own_keep hgO hb
                          have S27 : Hid (Below w25.heap.size w25 (w26.alloc (.cells #[.bool gs, .bool gl, .slice gca gcn gcc] 24))) := bT hgb hb
                          have Q27 : Hid (w25.heap.size ≤ w26.heap.size) := hgb.size
                          have L27 := Hid.mk' hgcn
                          obtain ⟨q27, hq27⟩ : ∃ q, q = w26.heap.size := ⟨_, rfl⟩
                          clear hgO hgb hb hgcn f0 f1 f2 f3 f4
                          dsimp only
                          go_upto_region 54 with fail
                          generalize w26.alloc (.cells #[.bool gs, .bool gl, .slice gca gcn gcc] 24) = w27 at *
                          rw [← hq27] at X27 Q27 ⊢
                          clear hq27 KV
                          have V27 := Hid.mk' (V25.out.keep S27.out)
                          have B27 := Hid.mk' (bT B25.out S27.out)
                          have XB := Hid.mk' (X25.out.keep S27.out)
                          have TB := Hid.mk' (own_keep T25.out S27.out)
                          have y0 : w27.cell? ⟨q24, 0, none⟩ = some (.bool gs) := XB.out.cell rfl
                          have y1 : w27.cell? ⟨q24, 1, none⟩ = some (.bool gl) := XB.out.cell rfl
                          have y2 : w27.cell? ⟨q24, 2, none⟩ = some (.slice gba gbn gbc) := XB.out.cell rfl
                          have z0 : w27.cell? ⟨q27, 0, none⟩ = some (.bool gs) := X27.out.cell rfl
                          have z1 : w27.cell? ⟨q27, 1, none⟩ = some (.bool gl) := X27.out.cell rfl
                          have z2 : w27.cell? ⟨q27, 2, none⟩ = some (.slice gca gcn gcc) := X27.out.cell rfl
                          have TX1 : Hid (Tx w27 gba gbn gbc gt) := row_tx (r := ⟨gs, gl, gba, gbn, gbc⟩) (c := ⟨gs, gl, gt⟩) TB.out (by show gbn ≤ _; have := L24.out; omega)
                          have TX2 : Hid (Tx w27 gca gcn gcc gt) := row_tx (r := ⟨gs, gl, gca, gcn, gcc⟩) (c := ⟨gs, gl, gt⟩) T27.out (by show gcn ≤ _; have := L27.out; omega)
                          go_wp2_with fail
                          refine (same_yes gs gl gba gca gbn gcn gbc gcc gt w27 TX1.out TX2.out).mono ?_
                          rintro e w28 ⟨rfl, hb28⟩
                          have B28 := Hid.mk' (bT BW.out (bT B27.out hb28))
                          clear hb28 y0 y1 y2 z0 z1 z2
                          dsimp only
                          go_wp2
                          go_ret
                          exact ⟨rfl, B28.out⟩
end Go.Proofs.Ytienamngmalkaaa
