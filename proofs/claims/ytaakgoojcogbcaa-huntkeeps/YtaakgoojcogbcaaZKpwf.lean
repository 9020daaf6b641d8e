/- HuntKeeps, walked for every search. -/
import Derived.Test.YtaakgoojcogbcaaZUnf
import Derived.Test.YtaakgoojcogbcaaZKpw
namespace Go.Proofs.Ytaakgoojcogbcaa
open Go.RowKit
set_option maxRecDepth 8000 in
set_option maxHeartbeats 16000000 in
theorem huntKeeps_full (w : World) (ao : Option Addr) (n c : Nat) (ap : Option Addr) (np cp_ : Nat) (k C : Int) (b : Bool) (t p : List UInt8) (hn : n ≤ 140737488351232) (HT : Hid (Tx w ao n c t)) (HP : Hid (Tx w ap np cp_ p)) :
    Calls Try.prog 10 #[.agg #[.slice ao n c, .slice ap np cp_, .int .i64 k, .int .i64 C, .bool b]] w fun e w' => e = .returned (.bool true) ∧ Below w.heap.size w w' := by
  obtain ⟨i0, hi, hz0, hz1, hz2⟩ := infoB
  have hlen := HT.out.len
  have U0 := Hid.mk' (bAlloc (Below.refl _ w) (.cells #[.slice ao n c, .slice ap np cp_, .int .i64 k, .int .i64 C, .bool b] 40))
  have K0 := Hid.mk' (Blk.new w 40 #[.slice ao n c, .slice ap np cp_, .int .i64 k, .int .i64 C, .bool b])
  go_enter Try.func10, Try.ntmps10
  go_wp2_with fail
  refine (awake_any _).mono ?_
  rintro e w1 ⟨rfl, hb1⟩
  have U1 := Hid.mk' (bT U0.out hb1)
  have K1 := Hid.mk' (K0.out.keep hb1)
  clear hb1 U0 K0
  have d0 : w1.cell? ⟨w.heap.size, 0, none⟩ = some (.slice ao n c) := K1.out.cell (j := 0) rfl
  have d1 : w1.cell? ⟨w.heap.size, 1, none⟩ = some (.slice ap np cp_) := K1.out.cell (j := 1) rfl
  have d2 : w1.cell? ⟨w.heap.size, 2, none⟩ = some (.int .i64 k) := K1.out.cell (j := 2) rfl
  have d3 : w1.cell? ⟨w.heap.size, 3, none⟩ = some (.int .i64 C) := K1.out.cell (j := 3) rfl
  have d4 : w1.cell? ⟨w.heap.size, 4, none⟩ = some (.bool b) := K1.out.cell (j := 4) rfl
  go_wp2_with fail
  refine (compiled_any _ (.slice ao n c) ap np cp_ k C b p (HP.out.keep U1.out)).mono ?_
  rintro e w3 ⟨hb3, hres⟩
  have U3 := Hid.mk' (bT U1.out hb3)
  have K3 := Hid.mk' (K1.out.keep hb3)
  clear hb3 U1 K1 d0 d1 d2 d3 d4
  rcases hres with ⟨hg, hl, P, rfl, hP⟩ | ⟨hg, rfl⟩
  · have HS : Hid (∀ W', Below w3.heap.size w3 W' → W'.cell? ⟨w.heap.size, 0, none⟩ = some (.slice ao n c) ∧ W'.cell? ⟨w.heap.size, 2, none⟩ = some (.int .i64 k) ∧ W'.cell? ⟨w.heap.size, 3, none⟩ = some (.int .i64 C) ∧ W'.cell? ⟨w.heap.size, 4, none⟩ = some (.bool b)) := fun W' hb => by
      have := K3.out.keep hb
      exact ⟨this.cell (j := 0) rfl, this.cell (j := 2) rfl, this.cell (j := 3) rfl, this.cell (j := 4) rfl⟩
    have HPat := Hid.mk' hP
    have HT3 := Hid.mk' (HT.out.keep U3.out)
    clear hP K3 HT HP hg
    have c0 := (HS.out (w3.alloc (.cells #[] 5)) (bAlloc (Below.refl _ _) _)).1
    go_wp2_with (at_builtin; refine append_srv rfl (.tmp 28) (.tmp 30) 22 rfl w3.heap.size 5 i0 (.int .u8 0) 1 1 Try.underlying22 hi hz0 hz1 hz2 rfl (by decide) (.slice (some ⟨w3.heap.size, 0, none⟩) 0 0) 0 [] rfl (World.ownsRow_made w3 #[] 0 (Nat.le_refl _) (Nat.zero_le _) rfl) (.slice ao n c) n (bv t) rfl ((HT3.out.keep (bAlloc (Below.refl _ _) _)).srv) (by rw [bv_length, hlen]; omega) (bv_one t) (by unfold maxLen; omega) (by omega) (by simp) ?_)
    intro v4 w4 hown hgrow _
    have O4 : Hid (w4.ownsRow w3.heap.size 5 1 v4 n (bv t)) := by unfold Hid; simpa using hown
    have B4 : Hid (Below w3.heap.size w3 w4) := ((Below.refl _ w3).alloc (Nat.le_refl _) _).grown hgrow (by simp) (by intro k hk; simp [Value.ownBlock] at hk; omega)
    clear hown hgrow c0
    go_wp2_with (at_builtin; refine append_srv rfl (.tmp 31) (.tmp 32) 22 rfl w3.heap.size 5 i0 (.int .u8 0) 1 1 Try.underlying22 hi hz0 hz1 hz2 rfl (by decide) v4 n (bv t) rfl (O4.out.alloc _) (.slice (some ⟨w4.heap.size, 0, none⟩) 2 2) 2 (bv [97, 97]) rfl (.inr ⟨⟨w4.heap.size, 0, none⟩, 2, rfl, fun k u hk => lit_cells w4 _ 5 k u hk⟩) rfl (bv_one _) (by unfold maxLen; omega) (by omega) (by have := B4.out.size; simp; omega) ?_)
    intro v5 w5 hown hgrow _
    have B5 : Hid (Below w3.heap.size w3 w5) := (bAlloc B4.out _).grown hgrow (by have := B4.out.size; simp; omega) (fun k hk => (O4.out.lt k hk).1)
    rw [← bv_append] at hown
    obtain ⟨M, HM⟩ : ∃ M, Hid (n + 2 = M) := ⟨_, rfl⟩
    have hM : n + 1 < M := by have := HM.out; omega
    have hM2 : M ≤ 140737488351234 := by have := HM.out; omega
    rw [HM.out] at hown
    obtain ⟨g7, cap7, e7, hc1, hc2⟩ := own_some hown (by omega)
    subst e7
    obtain ⟨a8, c8, e8, tB⟩ := own_tx (l := t ++ [97, 97]) (n := M) (by simp [hlen]; exact HM.out) (by omega) hown
    injection e8 with e8 _ e9
    subst e8 e9
    have O5 := Hid.mk' hown
    have TA : Hid (Tx w5 (some ⟨g7, 0, none⟩) n cap7 t) := by have := front_tx2 (n := n) (by omega) tB; rw [List.take_append_of_le_length (by omega), ← hlen, List.take_length] at this; rw [hlen] at this; exact this
    have A0 : Hid (w5.cell? ⟨g7, n, none⟩ = some (.int .u8 97)) := by
      have := tB.cells _ rfl n (by omega)
      rw [add_none, Nat.zero_add, show at8 (t ++ [97, 97]) n = 97 by rw [← hlen]; simp [at8]] at this
      exact this
    have A1 : Hid (w5.cell? ⟨g7, n + 1, none⟩ = some (.int .u8 97)) := by
      have := tB.cells _ rfl (n + 1) (by omega)
      rw [add_none, Nat.zero_add, show at8 (t ++ [97, 97]) (n + 1) = 97 by rw [← hlen]; simp [at8]] at this
      exact this
    clear hown hgrow tB O4 B4
    obtain ⟨c0, c2, c3, c4⟩ := HS.out w5 B5.out
    have hx0 : (0 : Int) ≤ (n : Int) := by omega
    have hx1 : (n : Int) ≤ (cap7 : Int) := by omega
    have hx2 : ¬ cap7 = 0 := by omega
    obtain ⟨x0, x1, x2, x3, HE⟩ : ∃ x0 x1 x2 x3, Hid (nxE (cmp p).2 t k C b = tg x0 x1 x2 x3) := nxE_tg2 _ _ _ _ _
    have CN := Hid.mk' (next_any _ w5 P (some ⟨g7, 0, none⟩) n cap7 t (cmp p).2 k C b hl (HPat.out.keep B5.out) TA)
    rw [HE.out, tg_def2] at CN
    go_wp2_with fail
    refine CN.out.mono ?_
    rintro e w6 ⟨rfl, hb6⟩
    have B7 := Hid.mk' (bAlloc hb6 (.cells #[.int .i64 x0, .int .i64 x1, .int .i64 x2] 42))
    have K7 := Hid.mk' (Blk.new w6 42 #[.int .i64 x0, .int .i64 x1, .int .i64 x2])
    obtain ⟨f0, f2, f3, f4⟩ := HS.out _ (bT B5.out B7.out)
    clear hb6 CN c0 c2 c3 c4
    go_wp2_with fail
    generalize w6.alloc (.cells #[.int .i64 x0, .int .i64 x1, .int .i64 x2] 42) = w7 at *
    generalize w6.heap.size = A at *
    refine (under_fit (some ⟨g7, 0, none⟩) n cap7 k t w7 (by omega) (TA.out.keep B7.out)).mono ?_
    intro e w8 hU
    obtain ⟨hb8, vu, L, f, rfl, hou, hL, hr1⟩ := hU.own
    have B8 := Hid.mk' hb8
    have OU := Hid.mk' hou
    have R1 := Hid.mk' hr1
    obtain ⟨au, cu, eu⟩ := own_shape hou
    subst eu
    obtain ⟨g0, g2, g3, g4⟩ := HS.out w8 (bT B5.out (bT B7.out hb8))
    clear hU hb8 hou hr1 f0 f2 f3 f4
    go_wp2_with fail
    refine (under_fit (some ⟨g7, 0, none⟩) n cap7 k t w8 (by omega) (TA.out.keep (bT B7.out B8.out))).mono ?_
    intro e w9 hU
    obtain ⟨hb9, vv, L2, f', rfl, hov, hL2, hr2⟩ := hU.own
    obtain ⟨rfl, rfl⟩ := R1.out.one hr2
    obtain ⟨av, cv, ev⟩ := own_shape hov
    subst ev
    have B9 := Hid.mk' (bT B8.out hb9)
    have OV := Hid.mk' hov
    have OU9 := Hid.mk' (own_keep OU.out hb9)
    have hUlt : Hid (∀ g, (Value.slice au L.length cu).ownBlock = some g → g < w8.heap.size) := fun g hg => (OU.out.lt g hg).2
    have HVge : Hid (∀ g, (Value.slice av L.length cv).ownBlock = some g → w8.heap.size ≤ g) := fun g hg => (hov.lt g hg).1
    have HG7 : Hid (g7 < w8.heap.size) := by
      have := (O5.out.lt g7 rfl).2; have := B7.out.size; have := B8.out.size
      unfold Hid; omega
    obtain ⟨h0, h2, h3, h4⟩ := HS.out w9 (bT B5.out (bT B7.out B9.out))
    have cvi := conv_tx (TA.out.keep (bT B7.out B9.out))
    have cvt := conv_tx (HT3.out.keep (bT B5.out (bT B7.out B9.out)))
    have cva := keepC (bT B7.out B9.out) A0.out
    have cvb := keepC (bT B7.out B9.out) A1.out
    have cvu : Hid (∃ q, (convert 22 9 (.slice au L.length cu)).run Try.prog w9 = .ok (.string q) w9 ∧ q = ⟨L.toArray⟩) := by
      obtain ⟨a', c', e', ht⟩ := own_tx rfl (by omega) OU9.out
      rw [e']
      exact ⟨_, conv_tx ht, rfl⟩
    have cvv : Hid (∃ q, (convert 22 9 (.slice av L.length cv)).run Try.prog w9 = .ok (.string q) w9 ∧ q = ⟨L.toArray⟩) := by
      obtain ⟨a', c', e', ht⟩ := own_tx rfl (by omega) hov
      rw [e']
      exact ⟨_, conv_tx ht, rfl⟩
    obtain ⟨q1, cvu1, rfl⟩ := cvu.out
    obtain ⟨q2, cvv1, rfl⟩ := cvv.out
    obtain ⟨nu, HNU⟩ : ∃ nu, Hid (L.length = nu) := ⟨_, rfl⟩
    rw [HNU.out] at cvu1 cvv1 OU9 OV hL HVge hUlt ⊢
    have hm1 : (n : Int) < (M : Int) := by omega
    have hm2 : ((n : Int) + 1) < (M : Int) := by omega
    clear hU hb9 hov hr2 R1 g0 g2 g3 g4 cvu cvv OU hL2 HNU
    go_wp2_with fail
    go_loopg [14] nu (fun m x14 wx => ∃ i : Nat, x14 = .int .i64 (i : Int) ∧ i + m = nu ∧ Hid (Below w7.heap.size w7 wx) ∧ Hid (∃ xs, wx.ownsRow w7.heap.size 5 1 (.slice au nu cu) nu xs) ∧ Hid (wx.ownsRow w8.heap.size 5 1 (.slice av nu cv) nu (bv L)))
    case atStart => exact ⟨0, rfl, by omega, B9.out, ⟨_, OU9.out⟩, OV.out⟩
    case round =>
      clear B9 OU9 OV cvi cvt cva cvb cvu1 cvv1 h0 h2 h3 h4
      obtain ⟨i, rfl, him, LB, HX, OV⟩ := hrel
      obtain ⟨xs, ho⟩ := HX.out
      cases gk with
      | succ m =>
        have hin : (i : Int) < (nu : Int) := by omega
        obtain ⟨g, cap, eg, _, _⟩ := own_some ho (by omega)
        injection eg with eg1 eg2 eg3
        subst eg1 eg3
        have hxl : xs.length = nu := by have := ho.1; omega
        have cx := ho.cellAt i (by omega)
        rw [List.getElem?_eq_getElem (by omega)] at cx
        have fz := ho.frozenAt i
        obtain ⟨s1, s2⟩ := ho.stored i (.int .u8 1)
        have S1 := Hid.mk' s1
        have SL : Hid (Below w7.heap.size w7 (wr.setCell ⟨g, i, none⟩ (.int .u8 1))) := LB.out.grown s2 LB.out.size (fun k hk => by injection hk with hk; subst hk; exact (ho.lt _ rfl).1)
        have SV : Hid ((wr.setCell ⟨g, i, none⟩ (.int .u8 1)).ownsRow w8.heap.size 5 1 (.slice av nu cv) nu (bv L)) := OV.out.kept s2 (.inr (fun e => by have h1 := HVge.out g e; have h2 := hUlt.out g rfl; omega))
        obtain ⟨u, HU⟩ : ∃ u, Hid (xs[i]'(by omega) = u) := ⟨_, Hid.mk' rfl⟩
        rw [HU.out] at cx
        clear s1 s2 ho HX
        go_wp2
        go_roundg m
        case measure => omega
        case rel => exact ⟨i + 1, by go_num, by omega, SL.out, ⟨_, S1.out⟩, SV.out⟩
      | zero =>
        have hin : ¬ ((i : Int) < (nu : Int)) := by omega
        clear ho him
        go_wp2_with fail
        go_loopg [9, 15] 20 (fun m x9 x15 wx => ∃ (j q : Nat) (a' : Option Addr) (c' : Nat), x15 = .int .i64 (j : Int) ∧ x9 = .slice a' q c' ∧ j + m = 20 ∧ Hid (q = nu + j) ∧ Hid (Below w7.heap.size w7 wx) ∧ Hid (∃ xs, wx.ownsRow w7.heap.size 5 1 (.slice a' q c') q xs) ∧ Hid (wx.ownsRow w8.heap.size 5 1 (.slice av nu cv) nu (bv L)) ∧ Hid (∀ g, (Value.slice a' q c').ownBlock = some g → (Value.slice av nu cv).ownBlock ≠ some g))
        case atStart => exact ⟨0, nu, au, cu, rfl, rfl, by omega, rfl, LB.out, HX.out, OV.out, fun g hg e => by have h1 := HVge.out g e; have h2 := hUlt.out g hg; omega⟩
        case round =>
          clear LB HX OV
          obtain ⟨j, q, a', c', rfl, rfl, hjm, HQ, LB, HX, OV, HD⟩ := hrel
          have hqle : q ≤ 300 := by have := HQ.out; omega
          obtain ⟨xs, ho⟩ := HX.out
          have HO := Hid.mk' ho
          clear ho HX
          cases gk with
          | succ m =>
            have hj : (j : Int) < 20 := by omega
            go_wp2_with (at_builtin; refine append_srv rfl (.tmp 117) (.tmp 118) 22 rfl w7.heap.size 5 i0 (.int .u8 0) 1 1 Try.underlying22 hi hz0 hz1 hz2 rfl (by decide) (.slice a' q c') q xs rfl (HO.out.alloc _) (.slice (some ⟨wr.heap.size, 0, none⟩) 1 1) 1 [.int .u8 2] rfl (.inr ⟨⟨wr.heap.size, 0, none⟩, 1, rfl, fun k u hk => lit_cells wr _ 5 k u hk⟩) rfl (by intro u hu; rw [List.mem_singleton.1 hu]; rfl) (by unfold maxLen; omega) (by omega) (bAlloc LB.out _).size ?_)
            intro v2 w2 hown hgrow hfr
            obtain ⟨a2, c2, e2⟩ := own_shape hown
            subst e2
            have SL : Hid (Below w7.heap.size w7 w2) := (bAlloc LB.out _).grown hgrow (bAlloc LB.out _).size (fun k hk => (HO.out.lt k hk).1)
            have SV : Hid (w2.ownsRow w8.heap.size 5 1 (.slice av nu cv) nu (bv L)) := (OV.out.alloc _).kept hgrow (by
              cases hb : (Value.slice av nu cv).ownBlock with
              | none => exact .inl rfl
              | some y => exact .inr (fun e => HD.out y e.symm hb))
            have SD : Hid (∀ g, (Value.slice a2 (q + 1) c2).ownBlock = some g → (Value.slice av nu cv).ownBlock ≠ some g) := fun g hg e => by
              rcases hfr with h | ⟨y, h, hy⟩
              · rw [h] at hg; exact HD.out g hg e
              · rw [h] at hg
                injection hg with hg
                subst hg
                have := (OV.out.lt y e).2
                try simp at hy
                omega
            have SO := Hid.mk' hown
            clear hown hgrow hfr LB HO OV HD
            go_wp2
            go_roundg m
            case measure => omega
            case rel => exact ⟨j + 1, q + 1, a2, c2, by go_num, rfl, by omega, by have := HQ.out; unfold Hid; omega, SL.out, ⟨_, SO.out⟩, SV.out, SD.out⟩
          | zero =>
            have hj : ¬ ((j : Int) < 20) := by omega
            have hq20 : 20 ≤ q := by have := HQ.out; omega
            have hq20' : decide ((20 : Int) ≤ (q : Int)) = true := decide_eq_true (by omega)
            have B10 := Hid.mk' (bT B5.out (bT B7.out LB.out))
            have K10 := Hid.mk' (K7.out.keep LB.out)
            have O10 := Hid.mk' (own_keep O5.out (bT B7.out LB.out))
            clear HO HD LB hjm HQ
            go_wp2_with fail
            go_loopg [16] n (fun m x16 wx => ∃ i : Nat, x16 = .int .i64 (i : Int) ∧ i + m = n ∧ Hid (Below w3.heap.size w3 wx) ∧ Hid (∃ l' : List UInt8, l'.length = M ∧ wx.ownsRow w3.heap.size 5 1 (.slice (some ⟨g7, 0, none⟩) M cap7) M (bv l')) ∧ Hid (Blk wx A 42 #[.int .i64 x0, .int .i64 x1, .int .i64 x2]) ∧ Hid (wx.ownsRow w8.heap.size 5 1 (.slice av nu cv) nu (bv L)))
            case atStart => exact ⟨0, rfl, by omega, B10.out, ⟨t ++ [97, 97], by simp [hlen]; exact HM.out, O10.out⟩, K10.out, OV.out⟩
            case round =>
              clear B10 O10 K10 OV
              obtain ⟨i, rfl, him, LB, HX, K10, OV⟩ := hrel
              obtain ⟨l', hl', ho⟩ := HX.out
              clear HX
              cases gk with
              | succ m =>
                have hin : (i : Int) < (n : Int) := by omega
                have cx := ho.cellAt i (by omega)
                rw [bv_at l' i (by omega)] at cx
                have fz := ho.frozenAt i
                obtain ⟨s1, s2⟩ := ho.stored i (.int .u8 113)
                have S1 : Hid (∃ l2 : List UInt8, l2.length = M ∧ (wr.setCell ⟨g7, i, none⟩ (.int .u8 113)).ownsRow w3.heap.size 5 1 (.slice (some ⟨g7, 0, none⟩) M cap7) M (bv l2)) := ⟨l'.set i 113, by simp [hl'], by
                  have e : bv (l'.set i 113) = (bv l').set i (.int .u8 113) := by unfold bv; rw [List.map_set]; rfl
                  rw [e]; exact s1⟩
                have SL : Hid (Below w3.heap.size w3 (wr.setCell ⟨g7, i, none⟩ (.int .u8 113))) := LB.out.grown s2 LB.out.size (fun k hk => by injection hk with hk; subst hk; exact (ho.lt _ rfl).1)
                have SV : Hid ((wr.setCell ⟨g7, i, none⟩ (.int .u8 113)).ownsRow w8.heap.size 5 1 (.slice av nu cv) nu (bv L)) := OV.out.kept s2 (.inr (fun e => by have h1 := HVge.out g7 e; have h2 := HG7.out; omega))
                have SK : Hid (Blk (wr.setCell ⟨g7, i, none⟩ (.int .u8 113)) A 42 #[.int .i64 x0, .int .i64 x1, .int .i64 x2]) := grow_blk K10.out s2 (own_far ho K10.out (by decide))
                obtain ⟨u, HU⟩ : ∃ u, Hid ((Value.int .u8 ((at8 l' i).toNat : Int)) = u) := ⟨_, Hid.mk' rfl⟩
                rw [HU.out] at cx
                clear s1 s2 ho
                go_wp2
                go_roundg m
                case measure => omega
                case rel => exact ⟨i + 1, by go_num, by omega, SL.out, S1.out, SK.out, SV.out⟩
              | zero =>
                have hin : ¬ ((i : Int) < (n : Int)) := by omega
                have TQ : Hid (Tx wr (some ⟨g7, 0, none⟩) n cap7 (l'.take n)) := by
                  obtain ⟨a9, c9, e9, ht⟩ := own_tx (l := l') (n := M) hl' (by omega) ho
                  injection e9 with e9 _ e10
                  subst e9 e10
                  exact front_tx2 (by omega) ht
                obtain ⟨y0, y1, y2, y3, HY⟩ : ∃ y0 y1 y2 y3, Hid (nxE (cmp p).2 (l'.take n) 0 1 true = tg y0 y1 y2 y3) := nxE_tg2 _ _ _ _ _
                have CN := Hid.mk' (next_any _ wr P (some ⟨g7, 0, none⟩) n cap7 (l'.take n) (cmp p).2 0 1 true hl (HPat.out.keep LB.out) TQ)
                rw [HY.out, tg_def2] at CN
                clear ho him
                go_wp2_with fail
                refine CN.out.mono ?_
                rintro e wa ⟨rfl, hba⟩
                have LA := Hid.mk' (bT LB.out hba)
                have KA := Hid.mk' (K10.out.keep hba)
                have OA := Hid.mk' (own_keep OV.out hba)
                obtain ⟨h0, h2, h3, h4⟩ := HS.out wa LA.out
                have CM := Hid.mk' (next_any _ wa P ao n c t (cmp p).2 k C b hl (HPat.out.keep LA.out) (HT3.out.keep LA.out))
                rw [HE.out, tg_def2] at CM
                clear hba CN LB K10 OV TQ
                go_wp2_with fail
                refine CM.out.mono ?_
                rintro e wb ⟨rfl, hbb⟩
                have hbc := bAlloc hbb (.cells #[.int .i64 x0, .int .i64 x1, .int .i64 x2] 42)
                have LC := Hid.mk' (bT LA.out hbc)
                have KC := Hid.mk' (KA.out.keep hbc)
                have KD := Hid.mk' (Blk.new wb 42 #[.int .i64 x0, .int .i64 x1, .int .i64 x2])
                have cvv : Hid (∃ q, (convert 22 9 (.slice av nu cv)).run Try.prog (wb.alloc (.cells #[.int .i64 x0, .int .i64 x1, .int .i64 x2] 42)) = .ok (.string q) (wb.alloc (.cells #[.int .i64 x0, .int .i64 x1, .int .i64 x2] 42)) ∧ q = ⟨L.toArray⟩) := by
                  have ho := own_keep OA.out hbc
                  obtain ⟨a', c', e', ht⟩ := own_tx (by have := ho.1; rw [bv_length] at this; omega) (by omega) ho
                  rw [e']
                  exact ⟨_, conv_tx ht, rfl⟩
                obtain ⟨q2, cvv1, rfl⟩ := cvv.out
                have p0 : (wb.alloc (.cells #[.int .i64 x0, .int .i64 x1, .int .i64 x2] 42)).cell? ⟨A, 0, none⟩ = some (.int .i64 x0) := KC.out.cell (j := 0) rfl
                have p1 : (wb.alloc (.cells #[.int .i64 x0, .int .i64 x1, .int .i64 x2] 42)).cell? ⟨A, 1, none⟩ = some (.int .i64 x1) := KC.out.cell (j := 1) rfl
                have p2 : (wb.alloc (.cells #[.int .i64 x0, .int .i64 x1, .int .i64 x2] 42)).cell? ⟨A, 2, none⟩ = some (.int .i64 x2) := KC.out.cell (j := 2) rfl
                have r0 : (wb.alloc (.cells #[.int .i64 x0, .int .i64 x1, .int .i64 x2] 42)).cell? ⟨wb.heap.size, 0, none⟩ = some (.int .i64 x0) := KD.out.cell (j := 0) rfl
                have r1 : (wb.alloc (.cells #[.int .i64 x0, .int .i64 x1, .int .i64 x2] 42)).cell? ⟨wb.heap.size, 1, none⟩ = some (.int .i64 x1) := KD.out.cell (j := 1) rfl
                have r2 : (wb.alloc (.cells #[.int .i64 x0, .int .i64 x1, .int .i64 x2] 42)).cell? ⟨wb.heap.size, 2, none⟩ = some (.int .i64 x2) := KD.out.cell (j := 2) rfl
                clear hbb hbc CM KC KD cvv h0 h2 h3 h4
                go_wp2
                go_ret
                exact ⟨by simp, bT U3.out LC.out⟩
  · go_wp2
    go_ret
    exact ⟨rfl, U3.out⟩
end Go.Proofs.Ytaakgoojcogbcaa
