/- BankPuts, walked. -/
import Derived.Test.YtienamngmalkaaaRp7
import Derived.Test.YtienamngmalkaaaPur
import Derived.Test.YtienamngmalkaaaSam
import Derived.Test.YtienamngmalkaaaFrw
namespace Go.Proofs.Ytienamngmalkaaa
open Go.RowKit

set_option maxRecDepth 8000
theorem wl_load28g {ops : Array Oper} {rest : List Oper} {op : Oper} {a : Act} {w : World} {Q : Exit → Act → World → Prop} {L : List Rg} {B : Nat} (x : Operand) (hw : Region.wanted op (yielded ops a.tmps) = true) (ho : op.op = .load 28 x) (hx : a.eval x = .pointer (some ⟨B, 0, none⟩)) (hL : L.length = 37) (h : Blk w B 28 (bk L)) (hr : wpList Try.prog ops Q rest (a.put op.dst (.agg (bk L))) w) : wpList Try.prog ops Q (op :: rest) a w := by
  simp only [wpList, hw, if_true]
  exact .inl (wp_load_mid 28 x ho B 0 hx (rl L) _ (blk_range (pre := []) (mid := rl L) (post := []) (by simpa [bk] using h)) Try.underlying28 rfl (by rw [info28, rl_len, hL]) hr)
/-- the state of the law's loop -/
structure Pt (w : World) (q : Nat) (W : World) (M1 M2 : List Rg) (P : List Ct) : Prop where
  l1 : M1.length = 37
  l2 : M2.length = 37
  b1 : Blk W w.heap.size 28 (bk M1)
  b2 : Blk W q 28 (bk M2)
  r1 : Rdb W M1 P
  r2 : Rdb W M2 P
  bel : Below w.heap.size w W
  q1 : w.heap.size < q
theorem Pt.keep {w : World} {q : Nat} {W W' : World} {M1 M2 : List Rg} {P : List Ct} (h : Pt w q W M1 M2 P) (hb : Below W.heap.size W W') : Pt w q W' M1 M2 P :=
  ⟨h.l1, h.l2, h.b1.keep hb, h.b2.keep hb, h.r1.keep hb, h.r2.keep hb, bT h.bel hb, h.q1⟩
set_option linter.unusedSimpArgs false in
set_option maxHeartbeats 8000000 in
theorem bankPuts_walk (L : List Rg) (P : List Ct) (ao : Option Addr) (n c : Nat) (w : World) (R0 : Hid (Rdb w L P)) (HF : Hid (Frow w ao n)) (hn : n ≤ 140737488351232) :
    Calls Try.prog 4 #[.agg (bk L), .slice ao n c] w fun e w' => e = .returned (.bool true) ∧ Below w.heap.size w w' := by
  have hz := z28
  have hL := R0.out.1
  have hnI : (n : Int) ≤ 140737488351232 := by omega
  generalize hW1 : w.alloc (.cells (bk L) 28) = W1
  have B0 : Hid (Blk W1 w.heap.size 28 (bk L)) := by rw [← hW1]; exact Blk.new w 28 _
  have BE : Hid (Below w.heap.size w W1) := by rw [← hW1]; exact bAlloc (Below.refl _ _) _
  have CA := Hid.mk' (awake_any W1)
  go_enter Try.func4, Try.ntmps4
  go_wp2_with fail
  clear hW1
  refine CA.out.mono ?_
  rintro e w3 ⟨rfl, hb3⟩
  have K0 := Hid.mk' (B0.out.keep hb3)
  have BL := Hid.mk' (bT BE.out hb3)
  clear hb3 CA B0 BE
  obtain ⟨hbx, hbb⟩ := boxed (w := w3) hL
  have hBz := Hid.mk' (Blk.new w3 28 (bk zb))
  obtain ⟨q, hq⟩ : ∃ q, q = w3.heap.size := ⟨_, rfl⟩
  have P0 : Hid (Pt w q (put28 (w3.alloc (.cells (bk zb) 28)) w3.heap.size L) L L P) := ⟨hL, hL, K0.out.keep hbb, by rw [hq]; exact hbx, R0.out.keep (bT BL.out hbb), R0.out.keep (bT BL.out hbb), bT BL.out hbb, by rw [hq]; exact K0.out.lt⟩
  clear hbx hbb
  go_upto_region 4 with (first | (refine wl_load28 (.tmp 2) rfl rfl rfl hL K0.out ?_) | (refine wl_store28 (.tmp 5) (.tmp 14) rfl rfl rfl rfl hL rfl hBz.out ?_))
  generalize put28 (w3.alloc (.cells (bk zb) 28)) w3.heap.size L = w5 at *
  rw [← hq]
  clear hq hBz K0 BL
  go_wp2_with fail
  go_loopg [6] n (fun m x6 wx => ∃ i : Nat, x6 = .int .i64 (i : Int) ∧ i + m = n ∧ ∃ P' M1 M2, Hid (Pt w q wx M1 M2 P'))
  case atStart => exact ⟨0, rfl, by omega, _, _, _, P0.out⟩
  case round =>
    obtain ⟨i, rfl, him, P1, M1, M2, PI⟩ := hrel
    clear P0
    by_cases hi : i < n
    · have hi' : (i : Int) < (n : Int) := by omega
      have hi0 : (0 : Int) ≤ (i : Int) := by omega
      obtain ⟨g, o, k, how, ⟨rs, rgl, ra, rn, rc⟩, ⟨cs, cl, ct⟩, rfl, hk, hRd, c0, c1, c2, c3, c4⟩ := HF.out i hi
      have er1 : rs = cs := hRd.s
      have er2 : rgl = cl := hRd.l
      subst er1 er2
      dsimp only at c2 c3 c4
      have d0 := (PI.out.bel.cell (lt_of_cell c0)).trans c0
      have d1 := (PI.out.bel.cell (lt_of_cell c1)).trans c1
      have d2 := (PI.out.bel.cell (lt_of_cell c2)).trans c2
      have d3 := (PI.out.bel.cell (lt_of_cell c3)).trans c3
      have d4 := (PI.out.bel.cell (lt_of_cell c4)).trans c4
      have TI : Hid (Tx wr ra rn rc ct) := hRd.t.keep PI.out.bel
      clear c0 c1 c2 c3 c4 hRd
      go_upto_region 8 with fail
      have hF1 := Blk.new wr 40 #[.int .u8 (k : Int), .int .i64 how, .bool rs, .bool rgl, .slice ra rn rc]
      have hF2 := bAlloc (Below.refl _ wr) (.cells #[.int .u8 (k : Int), .int .i64 how, .bool rs, .bool rgl, .slice ra rn rc] 40)
      have PK := Hid.mk' (PI.out.keep hF2)
      have TK := Hid.mk' (TI.out.keep hF2)
      have FK := Hid.mk' hF1
      clear hF1 hF2 PI TI d0 d1 d2 d3 d4
      generalize wr.alloc (.cells #[.int .u8 (k : Int), .int .i64 how, .bool rs, .bool rgl, .slice ra rn rc] 40) = w7 at *
      obtain ⟨f, hf⟩ : ∃ f, f = wr.heap.size := ⟨_, rfl⟩
      rw [← hf] at FK ⊢
      clear hf
      have FC := Hid.mk' (fun W (h : Blk W f 40 #[.int .u8 (k : Int), .int .i64 how, .bool rs, .bool rgl, .slice ra rn rc]) => (show W.cell? ⟨f, 0, none⟩ = some (.int .u8 (k : Int)) ∧ W.cell? ⟨f, 1, none⟩ = some (.int .i64 how) ∧ W.cell? ⟨f, 2, none⟩ = some (.bool rs) ∧ W.cell? ⟨f, 3, none⟩ = some (.bool rgl) ∧ W.cell? ⟨f, 4, none⟩ = some (.slice ra rn rc) from ⟨h.cell rfl, h.cell rfl, h.cell rfl, h.cell rfl, h.cell rfl⟩))
      have CR := Hid.mk' (fun W (h1 : Rdb W M2 P1) (h2 : Tx W ra rn rc ct) => rput_any M2 P1 k how rs rgl ra rn rc ct W hk h1 h2)
      have CP := Hid.mk' (fun W (h1 : Rdb W M1 P1) (h2 : Tx W ra rn rc ct) => put_any M1 P1 k how rs rgl ra rn rc ct W hk h1 h2)
      have HS := Hid.mk' (putP_short PK.out.r1.2.1 (rdb_short PK.out.r1) k how ⟨rs, rgl, ct⟩)
      generalize putP P1 k how ⟨rs, rgl, ct⟩ = PP at CR CP HS
      obtain ⟨P2, E⟩ := PP
      dsimp only at CR CP HS
      have hkI : (k : Int) < 256 := by omega
      obtain ⟨f0, f1, f2, f3, f4⟩ := FC.out w7 FK.out
      go_wp2_with (refine wl_load28 (.tmp 5) rfl rfl rfl PK.out.l2 PK.out.b2 ?_)
      refine (CR.out _ PK.out.r2 TK.out).mono ?_
      rintro e w8 ⟨N2, rfl, hN2⟩
      have hl2 := hN2.len
      have hBz := Hid.mk' (Blk.new w8 28 (bk zb))
      obtain ⟨hbx, hbb⟩ := boxed (w := w8) hl2
      have hbq := bT hN2.bel hbb
      have Q8 := Hid.mk' ((hN2.rdb HS.out).keep hbb)
      have P8 := Hid.mk' (PK.out.keep hbq)
      have T8 := Hid.mk' (TK.out.keep hbq)
      have F8 := Hid.mk' (FK.out.keep hbq)
      obtain ⟨p, hp⟩ : ∃ p, p = w8.heap.size := ⟨_, rfl⟩
      have X8 : Hid (Blk (put28 (w8.alloc (.cells (bk zb) 28)) w8.heap.size N2) p 28 (bk N2)) := by rw [hp]; exact hbx
      have HQP : Hid (q < p) := by have h1 := (PK.out.b2.keep hN2.bel).lt; rw [hp]; exact h1
      clear hbx hbb hbq hN2 CR PK TK FK f0 f1 f2 f3 f4
      go_upto_region 9 with (refine wl_store28 (.tmp 8) (.tmp 34) rfl rfl rfl rfl hl2 rfl hBz.out ?_)
      generalize put28 (w8.alloc (.cells (bk zb) 28)) w8.heap.size N2 = w9 at *
      rw [← hp]
      clear hp hBz
      obtain ⟨f0, f1, f2, f3, f4⟩ := FC.out w9 F8.out
      go_wp2_with (refine wl_load28 (.tmp 2) rfl rfl rfl P8.out.l1 P8.out.b1 ?_)
      refine (CP.out _ P8.out.r1 T8.out).mono ?_
      rintro e wa ⟨N1, rfl, hN1⟩
      have hl1 := hN1.len
      have hBz := Hid.mk' (Blk.new wa 28 (bk zb))
      obtain ⟨hbx, hbb⟩ := boxed (w := wa) hl1
      have hbq := bT hN1.own.bel hbb
      have QA := Hid.mk' ((hN1.rdb HS.out).keep hbb)
      have QB := Hid.mk' (Q8.out.keep hbq)
      have PA := Hid.mk' (P8.out.keep hbq)
      have XB := Hid.mk' (X8.out.keep hbq)
      obtain ⟨r, hr⟩ : ∃ r, r = wa.heap.size := ⟨_, rfl⟩
      have XA : Hid (Blk (put28 (wa.alloc (.cells (bk zb) 28)) wa.heap.size N1) r 28 (bk N1)) := by rw [hr]; exact hbx
      have HPR : Hid (p < r) := by have h1 := (X8.out.keep hN1.own.bel).lt; rw [hr]; exact h1
      clear hbx hbb hbq hN1 CP P8 T8 F8 FC Q8 X8 f0 f1 f2 f3 f4
      go_upto_region 10 with (refine wl_store28 (.tmp 10) (.tmp 45) rfl rfl rfl rfl hl1 rfl hBz.out ?_)
      generalize put28 (wa.alloc (.cells (bk zb) 28)) wa.heap.size N1 = wb at *
      rw [← hr]
      clear hr hBz
      have CS := Hid.mk' (sameBank_yes N1 N2 P2 wb QA.out QB.out)
      go_wp2_with (first | (refine wl_load28g (.tmp 10) rfl rfl rfl hl1 XA.out ?_) | (refine wl_load28g (.tmp 8) rfl rfl rfl hl2 XB.out ?_))
      refine CS.out.mono ?_
      rintro e wc ⟨rfl, hbc⟩
      have PC := Hid.mk' (PA.out.keep hbc)
      have Q1 := Hid.mk' (QA.out.keep hbc)
      have Q2 := Hid.mk' (QB.out.keep hbc)
      have X1 := Hid.mk' (XA.out.keep hbc)
      have X2 := Hid.mk' (XB.out.keep hbc)
      clear hbc CS PA QA QB XA XB
      go_upto_region 12 with fail
      by_cases hE : E = 0
      · subst hE
        go_upto_region 13 with fail
        have hlm1 := PC.out.l1
        have hlm2 := PC.out.l2
        have XD : Hid (Blk wc.drew r 28 (bk N1)) := X1.out
        have YD : Hid (Blk wc.drew p 28 (bk N2)) := X2.out
        have PD := Hid.mk' (PC.out.keep (Below.refl _ wc).drew)
        have E1 := Hid.mk' (Q1.out.keep (Below.refl _ wc).drew)
        have E2 := Hid.mk' (Q2.out.keep (Below.refl _ wc).drew)
        clear PC Q1 Q2 X1 X2
        refine wp_region_held (S := fun w' => Blk w' r 28 (bk N1) ∧ Blk w' p 28 (bk N2)) (by kernel_rfl) ?_
        change wpAnyH _ _ _ _ _ _ _ _ (World.drew _)
        generalize wc.drew = V3 at *
        refine wpAnyH_take (i := 0) (v := .agg (bk N1)) rfl (by kernel_rfl) (by kernel_rfl) (by kernel_rfl) (fun _ _ _ h => h) (yi28 rfl (.tmp 10) rfl rfl hl1 (fun _ h => h.1)) ⟨XD.out, YD.out⟩ ?_
        try simp only [Act.put, List.getElem_toArray, List.getElem_cons_zero, List.getElem_cons_succ, List.setIfInBounds_toArray, List.set_cons_zero, List.set_cons_succ]
        refine wpAnyH_take (i := 1) (v := .agg (bk N2)) rfl (by kernel_rfl) (by kernel_rfl) (by kernel_rfl) (fun _ _ _ h => h) (yi28 rfl (.tmp 8) rfl rfl hl2 (fun _ h => h.2)) ⟨XD.out, YD.out⟩ ?_
        try simp only [Act.put, List.getElem_toArray, List.getElem_cons_zero, List.getElem_cons_succ, List.setIfInBounds_toArray, List.set_cons_zero, List.set_cons_succ]
        refine wpAnyH_all (rs := [2]) (by kernel_rfl) (by simp) (AllH.cons rfl (fun K hK => ?_) AllH.nil)
        refine st28 rfl (.tmp 2) (.tmp 58) rfl rfl rfl hl1 hlm1 PD.out.b1 ?_
        have G1 := grown_put28 V3 w.heap.size N1
        have F1 := Hid.mk' (Blk.put28 hl1 hlm1 PD.out.b1)
        have X4 : Hid (Blk (put28 V3 w.heap.size N1) r 28 (bk N1)) := XD.out.grown G1 (by have h1 := HPR.out; have h2 := HQP.out; have h3 := PD.out.q1; simp; omega)
        have Y4 : Hid (Blk (put28 V3 w.heap.size N1) p 28 (bk N2)) := YD.out.grown G1 (by have h2 := HQP.out; have h3 := PD.out.q1; simp; omega)
        have Z4 : Hid (Blk (put28 V3 w.heap.size N1) q 28 (bk M2)) := PD.out.b2.grown G1 (by have h3 := PD.out.q1; simp; omega)
        have E3 := Hid.mk' (E1.out.off_bk PD.out.b1 G1)
        have E4 := Hid.mk' (E2.out.off_bk PD.out.b1 G1)
        have L4 : Hid (Below w.heap.size w (put28 V3 w.heap.size N1)) := below_put28 PD.out.bel (Nat.le_refl _) N1
        have HQ1 := Hid.mk' PD.out.q1
        clear G1 XD YD E1 E2 PD
        generalize put28 V3 w.heap.size N1 = V4 at *
        refine hK _ _ ⟨⟨X4.out, Y4.out⟩, ?_⟩
        clear hK K
        try simp only [Act.put, List.getElem_toArray, List.getElem_cons_zero, List.getElem_cons_succ, List.setIfInBounds_toArray, List.set_cons_zero, List.set_cons_succ]
        refine wpAnyH_all (rs := [3]) (by kernel_rfl) (by simp) (AllH.cons rfl (fun K hK => ?_) AllH.nil)
        refine st28 rfl (.tmp 5) (.tmp 59) rfl rfl rfl hl2 hlm2 Z4.out ?_
        have G2 := grown_put28 V4 q N2
        have X5 : Hid (Blk (put28 V4 q N2) r 28 (bk N1)) := X4.out.grown G2 (by have h1 := HPR.out; have h2 := HQP.out; simp; omega)
        have Y5 : Hid (Blk (put28 V4 q N2) p 28 (bk N2)) := Y4.out.grown G2 (by have h2 := HQP.out; simp; omega)
        have PN : Hid (Pt w q (put28 V4 q N2) N1 N2 P2) := ⟨hl1, hl2, F1.out.grown G2 (by have h3 := HQ1.out; simp; omega), Blk.put28 hl2 hlm2 Z4.out, E3.out.off_bk Z4.out G2, E4.out.off_bk Z4.out G2, below_put28 L4.out (Nat.le_of_lt HQ1.out) N2, HQ1.out⟩
        clear G2
        generalize put28 V4 q N2 = V5 at *
        refine hK _ _ ⟨⟨X5.out, Y5.out⟩, ?_⟩
        clear hK K
        try simp only [Act.put, List.getElem_toArray, List.getElem_cons_zero, List.getElem_cons_succ, List.setIfInBounds_toArray, List.set_cons_zero, List.set_cons_succ]
        refine wpAnyH_done (by kernel_rfl) ?_ _
        go_wp2
        go_roundg (gk - 1)
        case rel => exact ⟨i + 1, by go_num, by omega, _, _, _, PN.out⟩
        case measure => omega
      · go_wp2
        go_roundg (gk - 1)
        case rel => exact ⟨i + 1, by go_num, by omega, _, _, _, PC.out⟩
        case measure => omega
    · have hi' : ¬ (i : Int) < (n : Int) := by omega
      have BL := Hid.mk' PI.out.bel
      go_wp2
      go_ret
      exact ⟨rfl, BL.out⟩
end Go.Proofs.Ytienamngmalkaaa
