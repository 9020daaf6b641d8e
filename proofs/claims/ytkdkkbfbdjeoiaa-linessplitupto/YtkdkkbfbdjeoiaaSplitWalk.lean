/- The walk of quoinlaw05.LinesSplit. -/
import Derived.Test.YtkdkkbfbdjeoiaaSplitKit
namespace Go.Proofs.Ytkdkkbfbdjeoiaa
open Go.RowKit

set_option maxRecDepth 100000 in
set_option maxHeartbeats 4000000 in
theorem linesSplit_walk (ao : Option Addr) (n c : Nat) (l : List UInt8) (w : World) (hn : n ≤ 1048576) (HT : Hid (Tx w ao n c l)) :
    Calls Try.prog 4 #[.slice ao n c] w fun e w' => e = .returned (.bool true) ∧ Below w.heap.size w w' := by
  obtain ⟨i5, hi5, hz5, hs5, hb5⟩ := info_parts info5
  obtain ⟨i22, hi22, hz22, hs22, hb22⟩ := info_parts info22
  have hlen := Hid.mk' HT.out.len
  have hnl : nl l ≤ n := by have := nl_le l; rw [hlen.out] at this; exact this
  have hlnb : Hid (∀ i, i < nl l + 1 → (ln l i).length ≤ n) := fun i hi => by rw [ln_length (by omega)]; have := en_le (sp_le (t := l) (n := i) (by omega)); rw [hlen.out] at this; omega
  go_enter Try.func4, Try.ntmps4
  go_wp2_with fail
  refine (alive_any _).mono ?_
  rintro e w1 ⟨rfl, hb1⟩
  have B1 := Hid.mk' hb1
  have T1 := Hid.mk' (HT.out.keep hb1)
  clear hb1
  go_wp2_with fail
  refine (refSplit_any _ _ _ l _ (by omega) T1).mono ?_
  rintro e w2 ⟨vw, Dw, rfl, hRw, hDw⟩
  have RW := Hid.mk' hRw
  have DW := Hid.mk' hDw
  have LW : Hid (Dw.length = nl l + 1) := by have := congrArg List.length hDw; rw [List.length_map, lns_length] at this; exact this
  obtain ⟨aw, cw, hvw⟩ := own_shape (hRw.own 0 _ rfl)
  have hvw2 : vw = .slice aw (nl l + 1) cw := by rw [← LW.out]; exact hvw
  subst hvw2
  have T2 := Hid.mk' (T1.out.keep hRw.bel)
  clear hRw hDw hvw
  generalize hK : nl l + 1 = K at *
  have HK := Hid.mk' hK
  clear hK
  go_wp2_with (at_builtin; refine append_srv rfl (.tmp 22) (.tmp 23) 22 rfl w2.heap.size 5 i5 (.int .u8 0) 1 1 Try.underlying22 hi5 hz5 hs5 hb5 rfl (by decide) (.slice (some ⟨w2.heap.size, 0, none⟩) 0 0) 0 [] rfl (World.ownsRow_made w2 #[] 0 (Nat.le_refl _) (by decide) rfl) (.slice ao n c) n (bv l) rfl (T2.out.srv.keep (bAlloc (Below.refl _ _) _)) (by rw [bv_length]; have := hlen.out; omega) (bv_one _) (by unfold maxLen; omega) (by omega) (by simp) ?_)
  intro v3 w3 hown3 hgrow3 hfr3
  clear hfr3
  have hbel3 : Below w2.heap.size w2 w3 := (bAlloc (Below.refl _ _) _).grown hgrow3 (by simp) (fun k hk => by simp [Value.ownBlock] at hk; omega)
  have HO3 : Hid (w3.ownsRow w2.heap.size 5 1 v3 n (bv l)) := by unfold Hid; simpa using hown3
  have HB3 := Hid.mk' hbel3
  obtain ⟨a3, c3, hv3⟩ := own_shape HO3.out
  subst hv3
  clear hown3 hgrow3 hbel3
  go_wp2_with (at_builtin; refine append_srv rfl (.tmp 24) (.tmp 25) 22 rfl w2.heap.size 5 i5 (.int .u8 0) 1 1 Try.underlying22 hi5 hz5 hs5 hb5 rfl (by decide) (.slice a3 n c3) n (bv l) rfl (HO3.out.alloc _) (.slice (some ⟨w3.heap.size, 0, none⟩) 2 2) 2 [.int .u8 161, .int .u8 162] rfl (.inr ⟨⟨w3.heap.size, 0, none⟩, 2, rfl, fun j t hj => lit_cells w3 _ 5 j t hj⟩) rfl (by intro u hu; simp at hu; rcases hu with rfl | rfl <;> rfl) (by unfold maxLen; omega) (by omega) (by have := HB3.out.size; simp; omega) ?_)
  intro v4 w4 hown4 hgrow4 hfr4
  clear hfr4
  have hbel4 : Below w2.heap.size w2 w4 := (bAlloc HB3.out _).grown hgrow4 (by have := HB3.out.size; simp; omega) (fun k hk => (HO3.out.lt k hk).1)
  obtain ⟨gF, cF, hv4, hcF, -⟩ := own_some hown4 (by omega)
  subst hv4
  have RF : Hid (Rws w1 w4 (spl (.slice aw K cw) Dw ++ [⟨5, 1, .slice (some ⟨gF, 0, none⟩) (n + 2) cF, n + 2, bv l ++ [.int .u8 161, .int .u8 162]⟩])) := RW.out.new hbel4 hown4
  have OF := Hid.mk' hown4
  have TF : Hid (Tx w4 (some ⟨gF, 0, none⟩) n cF l) := by
    refine ⟨hlen.out, by omega, by omega, (fun h => by cases h), fun a ha j hj => ?_⟩
    obtain rfl : (⟨gF, 0, none⟩ : Addr) = a := by simpa using ha
    rw [add_none, Nat.zero_add, OF.out.cellAt j (by omega), List.getElem?_append_left (by rw [bv_length, hlen.out]; exact hj)]
    exact bv_at l j (by rw [hlen.out]; exact hj)
  clear hown4 hgrow4 hbel4 HO3 HB3 T2
  have hncF : (n : Int) ≤ (cF : Int) := by omega
  go_wp2_with fail
  refine (split_any _ _ _ l _ (by omega) TF).mono ?_
  rintro e w5 ⟨va, Da, rfl, hRa, hDa⟩
  have RA := Hid.mk' hRa
  have DA := Hid.mk' hDa
  have LA : Hid (Da.length = K) := by have := congrArg List.length hDa; rw [List.length_map, lns_length, HK.out] at this; exact this
  obtain ⟨aa, ca, hva⟩ := own_shape (hRa.own 0 _ rfl)
  have hva2 : va = .slice aa K ca := by rw [← LA.out]; exact hva
  subst hva2
  have T5 := Hid.mk' (TF.out.keep hRa.bel)
  clear hRa hDa hva
  go_wp2_with fail
  refine (split_any _ _ _ l _ (by omega) T5).mono ?_
  rintro e w6 ⟨vb, Db, rfl, hRb, hDb⟩
  have R6 := Hid.mk' ((RF.out.join RA.out).join hRb)
  have DB := Hid.mk' hDb
  have LB : Hid (Db.length = K) := by have := congrArg List.length hDb; rw [List.length_map, lns_length, HK.out] at this; exact this
  obtain ⟨ab, cb, hvb⟩ := own_shape (hRb.own 0 _ rfl)
  have hvb2 : vb = .slice ab K cb := by rw [← LB.out]; exact hvb
  subst hvb2
  clear hRb hDb hvb T5
  rw [HK.out] at DA DB
  have hlnb2 : ∀ i, i < K → (ln l i).length ≤ 140737488355328 := fun i hi => by have := hlnb.out i hi; omega
  have LsW := Hid.mk' (ls_of (v := .slice aw K cw) (D := Dw) (K := K) (f := ln l) 0 R6.out (fun j hj => by rw [Nat.zero_add]; exact at_left _ _ _ _ j (by rw [spl_length]; omega)) DW.out hlnb2)
  have LsA := Hid.mk' (ls_of (v := .slice aa K ca) (D := Da) (K := K) (f := ln l) _ R6.out (fun j hj => at_mid _ _ _ j (by rw [spl_length]; omega)) DA.out hlnb2)
  have LsB := Hid.mk' (ls_of (v := .slice ab K cb) (D := Db) (K := K) (f := ln l) _ R6.out (fun j hj => at_end _ _ j) DB.out hlnb2)
  clear hlnb2
  go_wp2_with fail
  refine (same_any _ _ K (ln l) _ (by have := HK.out; omega) LsA LsW).mono ?_
  rintro e w7 ⟨rfl, hb7⟩
  have R7 := Hid.mk' (R6.out.keep hb7)
  have LsB7 := Hid.mk' (LsB.out.keep hb7)
  have LsW7 := Hid.mk' (LsW.out.keep hb7)
  clear hb7 LsA LsB LsW R6
  go_wp2_with fail
  refine (same_any _ _ K (ln l) _ (by have := HK.out; omega) LsB7 LsW7).mono ?_
  rintro e w8 ⟨rfl, hb8⟩
  have R8 := Hid.mk' (R7.out.keep hb8)
  clear hb8 LsB7 LsW7 R7 RA
  have B8 := Hid.mk' (bT B1.out R8.out.bel)
  have O8 : Hid (w8.ownsRow w1.heap.size 5 1 (.slice (some ⟨gF, 0, none⟩) (n + 2) cF) (n + 2) (bv l ++ [.int .u8 161, .int .u8 162])) := R8.out.own (spl (.slice aw K cw) Dw).length (⟨5, 1, .slice (some ⟨gF, 0, none⟩) (n + 2) cF, n + 2, bv l ++ [Value.int .u8 161, Value.int .u8 162]⟩ : Rw) (by rw [List.append_assoc, List.append_assoc, List.getElem?_append_right (Nat.le_refl _)]; simp)
  have txF : ∀ W, W.ownsRow w1.heap.size 5 1 (.slice (some ⟨gF, 0, none⟩) (n + 2) cF) (n + 2) (bv l ++ [.int .u8 161, .int .u8 162]) → Tx W (some ⟨gF, 0, none⟩) n cF l := fun W hW => by
    refine ⟨hlen.out, by omega, by omega, (fun h => by cases h), fun a ha j hj => ?_⟩
    obtain rfl : (⟨gF, 0, none⟩ : Addr) = a := by simpa using ha
    rw [add_none, Nat.zero_add, hW.cellAt j (by omega), List.getElem?_append_left (by rw [bv_length, hlen.out]; exact hj)]
    exact bv_at l j (by rw [hlen.out]; exact hj)
  have HTF := Hid.mk' txF
  clear txF
  have V1 := conv_tx (HTF.out w8 O8.out)
  have V2 := conv_tx (HT.out.keep B8.out)
  have c1 : w8.cell? ⟨gF, n, none⟩ = some (.int .u8 161) := by rw [O8.out.cellAt n (by omega), List.getElem?_append_right (by rw [bv_length, hlen.out]; exact Nat.le_refl _), bv_length, hlen.out, Nat.sub_self]; rfl
  have c2 : w8.cell? ⟨gF, n + 1, none⟩ = some (.int .u8 162) := by rw [O8.out.cellAt (n + 1) (by omega), List.getElem?_append_right (by rw [bv_length, hlen.out]; omega), bv_length, hlen.out, show n + 1 - n = 1 from by omega]; rfl
  have hn2 : (n : Int) ≤ 1048576 := by omega
  have hn0 : (0 : Int) ≤ (n : Int) := by omega
  by_cases hbig : (K : Int) > 3000
  · go_wp2
    go_ret
    exact ⟨rfl, B8.out⟩
  have OA : Hid (w8.ownsRow w1.heap.size 22 1 (.slice aa K ca) K (Da.map (·.1))) := by
    have := R8.out.own _ (vrow (.slice aa K ca) Da) (at_mid _ _ _ 0 (by rw [spl_length]; omega))
    have this : w8.ownsRow w1.heap.size 22 1 (.slice aa K ca) Da.length (Da.map (·.1)) := this
    rw [LA.out] at this
    exact this
  have OB : Hid (w8.ownsRow w1.heap.size 22 1 (.slice ab K cb) K (Db.map (·.1))) := by
    have := R8.out.own _ (vrow (.slice ab K cb) Db) (at_end _ _ 0)
    have this : w8.ownsRow w1.heap.size 22 1 (.slice ab K cb) Db.length (Db.map (·.1)) := this
    rw [LB.out] at this
    exact this
  have HOA : Hid (∀ u ∈ Da.map (·.1), u.oneCell' = true) := fun u hu => by
    obtain ⟨x, hx, rfl⟩ := List.mem_map.1 hu
    obtain ⟨q, hq, rfl⟩ := List.mem_iff_getElem.1 hx
    obtain ⟨a9, c9, e9⟩ := own_shape (R8.out.own _ (brow Da[q]) ((at_mid _ _ _ (q + 1) (by rw [spl_length]; omega)).trans (by simp [spl, hq])))
    have e9 : Da[q].1 = _ := e9
    rw [e9]; rfl
  have HOB : Hid (∀ u ∈ Db.map (·.1), u.oneCell' = true) := fun u hu => by
    obtain ⟨x, hx, rfl⟩ := List.mem_map.1 hu
    obtain ⟨q, hq, rfl⟩ := List.mem_iff_getElem.1 hx
    obtain ⟨a9, c9, e9⟩ := own_shape (R8.out.own _ (brow Db[q]) ((at_end _ _ (q + 1)).trans (by simp [spl, hq])))
    have e9 : Db[q].1 = _ := e9
    rw [e9]; rfl
  have hs1 : Hid (w1.heap.size ≤ w8.heap.size) := R8.out.bel.size
  have hK1 : K ≤ 3000 := by omega
  go_wp2_with (at_builtin; refine append_srv rfl (.tmp 72) (.tmp 73) 35 rfl w8.heap.size 22 i22 (.slice none 0 0) 1 24 Try.underlying35 hi22 hz22 hs22 hb22 rfl (by decide) (.slice (some ⟨w8.heap.size, 0, none⟩) 0 0) 0 [] rfl (World.ownsRow_made w8 #[] 0 (Nat.le_refl _) (by decide) rfl) (.slice aa K ca) K (Da.map (·.1)) rfl ((own_srv OA.out).keep (bAlloc (Below.refl _ _) _)) (by rw [List.length_map, LA.out]; omega) (HOA.out) (by unfold maxLen; omega) (by omega) (by simp) ?_)
  intro v9 w9 hown9 hgrow9 hfr9
  clear hfr9
  have hbel9 : Below w8.heap.size w8 w9 := (bAlloc (Below.refl _ _) _).grown hgrow9 (by simp) (fun k hk => by simp [Value.ownBlock] at hk; omega)
  have HO9 : Hid (w9.ownsRow w8.heap.size 22 1 v9 K (Da.map (·.1))) := by unfold Hid; simpa using hown9
  have HB9 := Hid.mk' hbel9
  obtain ⟨a9, c9, hv9⟩ := own_shape HO9.out
  subst hv9
  clear hown9 hgrow9 hbel9
  go_wp2_with (at_builtin; refine append_srv rfl (.tmp 74) (.tmp 75) 35 rfl w8.heap.size 22 i22 (.slice none 0 0) 1 24 Try.underlying35 hi22 hz22 hs22 hb22 rfl (by decide) (.slice a9 K c9) K (Da.map (·.1)) rfl HO9.out (.slice ab K cb) K (Db.map (·.1)) rfl ((own_srv OB.out).keep HB9.out) (by rw [List.length_map, LB.out]; omega) (HOB.out) (by unfold maxLen; omega) (by omega) HB9.out.size ?_)
  intro v10 w10 hown10 hgrow10 hfr10
  clear hfr10
  have HB10 : Hid (Below w8.heap.size w8 w10) := HB9.out.grown hgrow10 HB9.out.size (fun k hk => (HO9.out.lt k hk).1)
  have HM8 := Hid.mk' (two_many R8.out LA.out LB.out DA.out DB.out)
  have HF8 := Hid.mk' (two_far R8.out LA.out LB.out DA.out DB.out)
  have RS8 := Hid.mk' R8.out.left.left
  have HL10 : Hid (w10.ownsRow w1.heap.size 22 1 v10 (K + K) ((List.range (K + K)).map (XX Da Db))) := by
    unfold Hid
    rw [XX_map LA.out LB.out]
    exact own_lower hown10 R8.out.bel.size
  have HLlo : Hid (∀ k, v10.ownBlock = some k → w8.heap.size ≤ k) := fun k hk => (hown10.lt k hk).1
  obtain ⟨al, cl, hv10⟩ := own_shape hown10
  subst hv10
  have HNB : Hid (∀ k, k < K + K → (BB K (ln l) k).length ≤ 1048576) := fun k hk => by
    unfold BB
    split
    · have := hlnb.out k (by omega); omega
    · have := hlnb.out (k - K) (by omega); omega
  clear hown10 hgrow10 HO9 HB9 OA OB HOA HOB V1 V2 c1 c2 R8 HT T1 RF RW OF TF
  generalize hX : XX Da Db = X at *
  generalize hNN : (fun k => (BB K (ln l) k).length) = N at *
  have HN : Hid (∀ k, k < K + K → N k ≤ 1048576) := fun k hk => by rw [← hNN]; exact HNB.out k hk
  generalize hZZ : (fun k => bv (BB K (ln l) k)) = Z0 at *
  clear hX hNN hZZ HNB DA DB LA LB
  have hm6 : K + K ≤ 6000 := by omega
  generalize K + K = m at *
  have HM10 := Hid.mk' (HM8.out.below HB10.out)
  clear HM8
  have hm6' : (m : Int) ≤ 6000 := by omega
  go_wp2_with (at_make; refine wpList_make_full _ rfl (.tmp 78) (.tmp 78) 35 rfl w1.heap.size 22 i22 (.slice none 0 0) 1 Try.underlying35 hi22 hz22 hs22 .i64 .i64 m m m rfl rfl rfl rfl (by rw [hb22]; omega) (by unfold maxLen; omega) (by have := hs1.out; have := HB10.out.size; omega) ?_)
  intro w11 hown11 hgrow11
  have B11 : Below w10.heap.size w10 w11 := ⟨hgrow11.os, hgrow11.tape, hgrow11.output, hgrow11.size, fun k hk => hgrow11.block k hk (by simp)⟩
  have HM11 := Hid.mk' (HM10.out.below B11)
  have HL11 := Hid.mk' (own_keep HL10.out B11)
  have HF11 : Hid (w11.ownsRow w1.heap.size 22 1 (.slice (some ⟨w10.heap.size, 0, none⟩) m m) m (fillL m 0 X)) := by
    unfold Hid
    rw [fillL_zero, ← toList_madeCells_one]
    simpa [Value.cells] using hown11
  have HGL : Hid (∀ g, (Value.slice al m cl).ownBlock = some g → g < w10.heap.size) := fun g hg => (HL10.out.lt g hg).2
  have hzz : w8.heap.size ≤ w10.heap.size := HB10.out.size
  have HXs : Hid (∀ k, k < m → (X k = .slice none 0 0 ∧ N k = 0) ∨ ∃ g c, X k = .slice (some ⟨g, 0, none⟩) (N k) c) := fun k hk => by
    rcases (HM10.out.own k hk).2 with ⟨h1, h2⟩ | ⟨g, cap, cur, h1, _⟩
    · exact .inl ⟨h1, h2⟩
    · exact .inr ⟨g, cap, h1⟩
  clear hown11 hgrow11 B11 HM10 HL10 HB10
  generalize w10.heap.size = gm at *
  generalize hbs : w1.heap.size = base at *
  have HBs := Hid.mk' hbs
  clear hbs
  go_wp2_with fail
  go_loopw [10] (fun x wr => ∃ (i : Nat) (Z : Nat → List Value), i ≤ m ∧ x = .int .i64 i ∧ Many w8 wr base m X (fun _ => 0) mkA X N Z ∧ (∀ k, k < i → Z k = List.replicate (N k) (mkA k)) ∧ wr.ownsRow base 22 1 (.slice al m cl) m ((List.range m).map X) ∧ wr.ownsRow base 22 1 (.slice (some ⟨gm, 0, none⟩) m m) m (fillL m i X)) (fun x _ => m - (intOf x).toNat)
  case atStart => exact ⟨0, Z0, Nat.zero_le _, rfl, HM11.out, fun k hk => by omega, HL11.out, HF11.out⟩
  case round =>
    obtain ⟨i, Z, hi, rfl, hMa, hZ, hLs, hF⟩ := hrel
    have HM := Hid.mk' hMa
    have HZ := Hid.mk' hZ
    have HL := Hid.mk' hLs
    have HF := Hid.mk' hF
    clear hMa hZ hLs hF HM11 HL11 HF11
    by_cases hlt : i < m
    · obtain ⟨gl, cl', hal, -, -⟩ := own_some HL.out (by omega)
      have hal2 : al = some ⟨gl, 0, none⟩ := by simp at hal; exact hal.1
      subst hal2
      clear hal
      obtain ⟨ax, cx, hX⟩ := own_shape (HM.out.own i hlt)
      have hc : wr.cell? ⟨gl, i, none⟩ = some (.slice ax (N i) cx) := by
        rw [HL.out.cellAt i (by omega), ← hX]; simp [hlt]
      have HX : Hid (X i = .slice ax (N i) cx) := hX
      have hNi := HN.out i hlt
      have hi0 : (0 : Int) ≤ (i : Int) := by omega
      have hi1 : (i : Int) < (m : Int) := by omega
      clear hX
      obtain ⟨wo, hwo⟩ : ∃ wo : World, wo = wr := ⟨_, rfl⟩
      subst hwo
      go_wp2_with fail
      go_loopw [11] (fun x wr => ∃ (j : Nat) (Z : Nat → List Value), j ≤ N i ∧ x = .int .i64 j ∧ Many w8 wr base m X (fun _ => 0) mkA X N Z ∧ (∀ k, k < i → Z k = List.replicate (N k) (mkA k)) ∧ (Z i).take j = List.replicate j (mkA i) ∧ wr.ownsRow base 22 1 (.slice (some ⟨gl, 0, none⟩) m cl) m ((List.range m).map X) ∧ wr.ownsRow base 22 1 (.slice (some ⟨gm, 0, none⟩) m m) m (fillL m i X)) (fun x _ => N i - (intOf x).toNat)
      case atStart => exact ⟨0, Z, Nat.zero_le _, rfl, HM.out, HZ.out, by simp, HL.out, HF.out⟩
      case round =>
        obtain ⟨j, Z', hj, rfl, hMa, hZ, hT, hLs, hF⟩ := hrel
        have HM' := Hid.mk' hMa
        have HZ' := Hid.mk' hZ
        have HT' := Hid.mk' hT
        have HL' := Hid.mk' hLs
        have HF' := Hid.mk' hF
        clear hMa hZ hT hLs hF HM HZ HL HF hc
        have hc : wr.cell? ⟨gl, i, none⟩ = some (.slice ax (N i) cx) := by
          rw [HL'.out.cellAt i (by omega), ← HX.out]; simp [hlt]
        by_cases hjl : j < N i
        · have hoX := HM'.out.own i hlt
          rw [HX.out] at hoX
          obtain ⟨g, cap, hv, -, -⟩ := own_some hoX (by omega)
          have hv2 : ax = some ⟨g, 0, none⟩ := by simp at hv; exact hv.1
          subst hv2
          have hzl : (Z' i).length = N i := by have := hoX.1; omega
          have cj : ∃ z, wr.cell? ⟨g, j, none⟩ = some z := ⟨_, by rw [hoX.cellAt j (by omega)]; exact List.getElem?_eq_getElem (by omega)⟩
          obtain ⟨z, hcz⟩ := cj
          have fz := hoX.frozenAt j
          have hj0 : (0 : Int) ≤ (j : Int) := by omega
          have hj1 : (j : Int) < (N i : Int) := by omega
          have R : Hid (Many w8 (wr.setCell ⟨g, j, none⟩ (mkA i)) base m X (fun _ => 0) mkA X N (upd Z' i ((Z' i).set j (mkA i))) ∧ (wr.setCell ⟨g, j, none⟩ (mkA i)).ownsRow base 22 1 (.slice (some ⟨gl, 0, none⟩) m cl) m ((List.range m).map X) ∧ (wr.setCell ⟨g, j, none⟩ (mkA i)).ownsRow base 22 1 (.slice (some ⟨gm, 0, none⟩) m m) m (fillL m i X)) :=
            ⟨HM'.out.store hlt HX.out j (mkA i), Many.rows HL'.out hoX (by decide) (hoX.stored j (mkA i)).2, Many.rows HF'.out hoX (by decide) (hoX.stored j (mkA i)).2⟩
          have hT2 : Hid (((upd Z' i ((Z' i).set j (mkA i))) i).take (j + 1) = List.replicate (j + 1) (mkA i)) := by unfold Hid; rw [upd_same]; exact take_set (by omega) HT'.out
          have hZ2 : Hid (∀ k, k < i → (upd Z' i ((Z' i).set j (mkA i))) k = List.replicate (N k) (mkA k)) := fun k hk => by rw [upd_ne _ _ (by omega)]; exact HZ'.out k hk
          clear hoX hv
          go_wp2
          go_roundw
          case rel => exact ⟨j + 1, _, by omega, by go_num, R.out.1, hZ2.out, hT2.out, R.out.2.1, R.out.2.2⟩
          case measure => simp [intOf]; omega
        · obtain rfl : j = N i := by omega
          have hZ2 : Hid (∀ k, k < i + 1 → Z' k = List.replicate (N k) (mkA k)) := fun k hk => by
            by_cases e : k = i
            · subst e
              have h1 := HT'.out
              rw [List.take_of_length_le (by have := (HM'.out.own k hlt).1; omega)] at h1
              exact h1
            · exact HZ'.out k (by omega)
          have hcM : wr.cell? ⟨gm, i, none⟩ = some (.slice none 0 0) := by
            rw [HF'.out.cellAt i (by omega)]; simp [fillL, hlt]
          have hfM := HF'.out.frozenAt i
          have hgl : gl < gm := HGL.out gl rfl
          have hgne : ¬ gl = gm := by omega
          have R : Hid (Many w8 (wr.setCell ⟨gm, i, none⟩ (.slice ax (N i) cx)) base m X (fun _ => 0) mkA X N Z' ∧ (wr.setCell ⟨gm, i, none⟩ (.slice ax (N i) cx)).ownsRow base 22 1 (.slice (some ⟨gm, 0, none⟩) m m) m (fillL m (i + 1) X) ∧ (wr.setCell ⟨gm, i, none⟩ (.slice ax (N i) cx)).ownsRow base 22 1 (.slice (some ⟨gl, 0, none⟩) m cl) m ((List.range m).map X)) := by
            obtain ⟨h1, h2, h3⟩ := HM'.out.put hzz HF'.out i (.slice ax (N i) cx)
            refine ⟨h1, ?_, h3 _ _ _ _ _ _ (by simp [Value.ownBlock]; omega) HL'.out⟩
            rw [← fillL_set m i X X hlt (fun _ _ => rfl), HX.out]; exact h2
          go_wp2
          go_roundw
          case rel => exact ⟨i + 1, Z', by omega, by go_num, R.out.1, hZ2.out, R.out.2.2, R.out.2.1⟩
          case measure => simp [intOf]; omega
    · obtain rfl : i = m := by omega
      obtain ⟨wm, hwm⟩ : ∃ wm : World, wm = wr := ⟨_, rfl⟩
      subst hwm
      have HM1 := Hid.mk' (HM.out.marked HZ.out)
      clear HM
      go_wp2_with fail
      go_loopw [12] (fun x wr => ∃ (t : Nat) (G : Nat → Value) (M : Nat → Nat) (Z : Nat → List Value), t ≤ 10 ∧ x = .int .i64 t ∧ Many w8 wr base i X N mkA G M Z ∧ (∀ q, q < i → M q = N q + t ∧ Z q = List.replicate (N q) (mkA q) ++ List.replicate t (mkB q)) ∧ wr.ownsRow base 22 1 (.slice al i cl) i ((List.range i).map X) ∧ wr.ownsRow base 22 1 (.slice (some ⟨gm, 0, none⟩) i i) i (fillL i i G)) (fun x _ => 10 - (intOf x).toNat)
      case atStart => exact ⟨0, X, N, Z, by omega, rfl, HM1.out, fun q hq => ⟨rfl, by rw [HZ.out q hq]; simp⟩, HL.out, HF.out⟩
      case round =>
        obtain ⟨t, G, M, Zt, ht, rfl, hMa, hA, hLs, hF⟩ := hrel
        have HM2 := Hid.mk' hMa
        have HA := Hid.mk' hA
        have HL2 := Hid.mk' hLs
        have HF2 := Hid.mk' hF
        clear hMa hA hLs hF HM1 HL HF HZ
        obtain ⟨wt, hwt⟩ : ∃ wt : World, wt = wr := ⟨_, rfl⟩
        subst hwt
        by_cases ht10 : t < 10
        · have ht1 : (t : Int) < 10 := by omega
          go_wp2_with fail
          go_loopw [13] (fun x wr => ∃ (k : Nat) (G : Nat → Value) (M : Nat → Nat) (Z : Nat → List Value), k ≤ i ∧ x = .int .i64 k ∧ Many w8 wr base i X N mkA G M Z ∧ (∀ q, q < k → M q = N q + (t + 1) ∧ Z q = List.replicate (N q) (mkA q) ++ List.replicate (t + 1) (mkB q)) ∧ (∀ q, k ≤ q → q < i → M q = N q + t ∧ Z q = List.replicate (N q) (mkA q) ++ List.replicate t (mkB q)) ∧ wr.ownsRow base 22 1 (.slice al i cl) i ((List.range i).map X) ∧ wr.ownsRow base 22 1 (.slice (some ⟨gm, 0, none⟩) i i) i (fillL i i G)) (fun x _ => i - (intOf x).toNat)
          case atStart => exact ⟨0, G, M, Zt, Nat.zero_le _, rfl, HM2.out, fun q hq => by omega, fun q _ hq => HA.out q hq, HL2.out, HF2.out⟩
          case round =>
            obtain ⟨k, G1, M1, Z1, hk, rfl, hMa, hA1, hA2, hLs, hF⟩ := hrel
            have HM3 := Hid.mk' hMa
            have HA1 := Hid.mk' hA1
            have HA2 := Hid.mk' hA2
            have HL3 := Hid.mk' hLs
            have HF3 := Hid.mk' hF
            clear hMa hA1 hA2 hLs hF HM2 HL2 HF2 HA
            by_cases hlk : k < i
            · obtain ⟨e2, e3⟩ := HA2.out k (Nat.le_refl _) hlk
              obtain ⟨ag, cg, hG⟩ := own_shape (HM3.out.own k hlk)
              rw [e2] at hG
              have hc : wr.cell? ⟨gm, k, none⟩ = some (.slice ag (N k + t) cg) := by
                rw [HF3.out.cellAt k (by omega), fillL_at i i k G1 hlk hlk, hG]
              have HE : Hid (.slice ag (N k + t) cg = G1 k) := hG.symm
              have HW0 : Hid (wr.ownsRow base 5 1 (.slice ag (N k + t) cg) (N k + t) (List.replicate (N k) (mkA k) ++ List.replicate t (mkB k))) := by
                have h9 := HM3.out.own k hlk
                rw [hG, e2, e3] at h9
                exact h9
              have HE2 : Hid (M1 k = N k + t) := e2
              have hNk := HN.out k hlk
              have hk0 : (0 : Int) ≤ (k : Int) := by omega
              have hk1 : (k : Int) < (i : Int) := by omega
              have hki : (k : Int) ≤ 6000 := by omega
              have hsz := HM3.out.sz
              have hbw8 : base ≤ w8.heap.size := by rw [← HBs.out]; exact RS8.out.bel.size
              clear hG e2 e3
              go_wp2_with (at_builtin; refine append_keep rfl (.tmp 125) (.tmp 129) rfl base (.slice ag (N k + t) cg) (N k + t) (List.replicate (N k) (mkA k) ++ List.replicate t (mkB k)) rfl (HW0.out.alloc _) ⟨wr.heap.size, 0, none⟩ 1 1 [.int .u8 ((100 + (k : Int)) % 256)] rfl rfl (by omega) (fun k u hk => lit_cells wr _ 5 k u hk) (by intro u hu; simp at hu; rw [hu]; rfl) (by omega) (by simp; omega) ?_)
              intro v' w5 hown hgrow hp hf
              have R : Hid (Many w8 w5 base i X N mkA (upd G1 k v') (upd M1 k (N k + t + 1)) (upd Z1 k (List.replicate (N k) (mkA k) ++ (List.replicate t (mkB k) ++ [.int .u8 ((100 + (k : Int)) % 256)]))) ∧ ∀ (base' e size n' : Nat) (v : Value) (xs : List Value), e ≠ 5 → wr.ownsRow base' e size v n' xs → w5.ownsRow base' e size v n' xs) := HM3.out.app hlk HE.out HE2.out (by omega) (by simpa [List.append_assoc] using hown) hgrow hp hf
              obtain ⟨a5, c5, hv5⟩ := own_shape hown
              subst hv5
              clear hown hgrow hp hf HW0
              have HL5 := Hid.mk' (R.out.2 _ _ _ _ _ _ (by decide) HL3.out)
              have HF5 := Hid.mk' (R.out.2 _ _ _ _ _ _ (by decide) HF3.out)
              have hcM : w5.cell? ⟨gm, k, none⟩ = some (.slice ag (N k + t) cg) := by
                rw [HF5.out.cellAt k (by omega), fillL_at i i k G1 hlk hlk, HE.out]
              have hfM := HF5.out.frozenAt k
              have RR : Hid (Many w8 (w5.setCell ⟨gm, k, none⟩ (.slice a5 (N k + t + 1) c5)) base i X N mkA (upd G1 k (.slice a5 (N k + t + 1) c5)) (upd M1 k (N k + t + 1)) (upd Z1 k (List.replicate (N k) (mkA k) ++ (List.replicate t (mkB k) ++ [.int .u8 ((100 + (k : Int)) % 256)]))) ∧ (w5.setCell ⟨gm, k, none⟩ (.slice a5 (N k + t + 1) c5)).ownsRow base 22 1 (.slice (some ⟨gm, 0, none⟩) i i) i (fillL i i (upd G1 k (.slice a5 (N k + t + 1) c5))) ∧ (w5.setCell ⟨gm, k, none⟩ (.slice a5 (N k + t + 1) c5)).ownsRow base 22 1 (.slice al i cl) i ((List.range i).map X)) := by
                obtain ⟨h1, h2, h3⟩ := R.out.1.put hzz HF5.out k (.slice a5 (N k + t + 1) c5)
                refine ⟨h1, ?_, h3 _ _ _ _ _ _ (fun e => by have := HGL.out gm e; omega) HL5.out⟩
                have e9 := fillL_again i k G1 (upd G1 k (.slice a5 (N k + t + 1) c5)) hlk (fun q hq => upd_ne _ _ hq)
                rw [upd_same] at e9
                rw [← e9]; exact h2
              have R1 : Hid (∀ q, q < k + 1 → (upd M1 k (N k + t + 1)) q = N q + (t + 1) ∧ (upd Z1 k (List.replicate (N k) (mkA k) ++ (List.replicate t (mkB k) ++ [.int .u8 ((100 + (k : Int)) % 256)]))) q = List.replicate (N q) (mkA q) ++ List.replicate (t + 1) (mkB q)) := fun q hq => by
                by_cases e : q = k
                · subst e
                  rw [upd_same, upd_same]
                  exact ⟨by omega, by rw [List.replicate_succ']; rfl⟩
                · rw [upd_ne _ _ e, upd_ne _ _ e]; exact HA1.out q (by omega)
              have R2 : Hid (∀ q, k + 1 ≤ q → q < i → (upd M1 k (N k + t + 1)) q = N q + t ∧ (upd Z1 k (List.replicate (N k) (mkA k) ++ (List.replicate t (mkB k) ++ [.int .u8 ((100 + (k : Int)) % 256)]))) q = List.replicate (N q) (mkA q) ++ List.replicate t (mkB q)) := fun q hq hqi => by
                rw [upd_ne _ _ (by omega), upd_ne _ _ (by omega)]; exact HA2.out q (by omega) hqi
              clear R HL5 HF5
              go_wp2
              go_roundw
              case rel => exact ⟨k + 1, _, _, _, by omega, by go_num, RR.out.1, R1.out, R2.out, RR.out.2.2, RR.out.2.1⟩
              case measure => simp [intOf]; omega
            · obtain rfl : k = i := by omega
              go_wp2
              go_roundw
              case rel => exact ⟨t + 1, G1, M1, Z1, by omega, by go_num, HM3.out, HA1.out, HL3.out, HF3.out⟩
              case measure => simp [intOf]; omega
        · obtain rfl : t = 10 := by omega
          go_wp2_with fail
          go_loopw [14] (fun x wr => ∃ a : Nat, a ≤ i ∧ x = .int .i64 a ∧ wr = wt) (fun x _ => i - (intOf x).toNat)
          case atStart => exact ⟨0, Nat.zero_le _, rfl, by first | rfl | trivial⟩
          case round =>
            obtain ⟨a, ha, rfl, hw0⟩ := hrel
            have hq := hw0.symm
            subst hq
            clear hw0
            by_cases hla : a < i
            · obtain ⟨e2, e3⟩ := HA.out a hla
              obtain ⟨gl, cl', hal, -, -⟩ := own_some HL2.out (by omega)
              have hal2 : al = some ⟨gl, 0, none⟩ := by simp at hal; exact hal.1
              subst hal2
              clear hal
              have hoG := HM2.out.own a hla
              rw [e2, e3] at hoG
              obtain ⟨gg, cg, hG, -, -⟩ := own_some hoG (by omega)
              have hcG : wt.cell? ⟨gm, a, none⟩ = some (.slice (some ⟨gg, 0, none⟩) (N a + 10) cg) := by
                rw [HF2.out.cellAt a (by omega), fillL_at i i a G hla hla, hG]
              rw [hG] at hoG
              have HOG := Hid.mk' hoG
              have HXa := HXs.out a hla
              have HPx := Hid.mk' (HM2.out.px a hla)
              have hXa : ∃ ax cx, X a = .slice ax (N a) cx := by
                rcases HXa with ⟨h1, h2⟩ | ⟨g, c, h1⟩
                · exact ⟨none, 0, by rw [h1, h2]⟩
                · exact ⟨_, c, h1⟩
              obtain ⟨ax, cx, hXa⟩ := hXa
              have HXA := Hid.mk' hXa
              have hcL : wt.cell? ⟨gl, a, none⟩ = some (.slice ax (N a) cx) := by
                rw [HL2.out.cellAt a (by omega), ← hXa]; simp [hla]
              have hNa := HN.out a hla
              have ha0 : (0 : Int) ≤ (a : Int) := by omega
              have ha1 : (a : Int) < (i : Int) := by omega
              have ha6 : (a : Int) ≤ 6000 := by omega
              clear hXa HXa hoG hG e2 e3
              go_wp2_with fail
              go_loopw [15] (fun x wr => ∃ j : Nat, j ≤ N a + 10 ∧ x = .int .i64 j ∧ wr = wt) (fun x _ => N a + 10 - (intOf x).toNat)
              case atStart => exact ⟨0, Nat.zero_le _, rfl, by first | rfl | trivial⟩
              case round =>
                obtain ⟨j, hj, rfl, hw0⟩ := hrel
                have hq := hw0.symm
                subst hq
                clear hw0
                by_cases hlj : j < N a + 10
                · have hj0 : (0 : Int) ≤ (j : Int) := by omega
                  have hj1 : (j : Int) < (N a : Int) + 10 := by omega
                  by_cases hjN : j < N a
                  · have hcj : wt.cell? ⟨gg, j, none⟩ = some (.int .u8 ((a : Int) % 256)) := by
                      rw [HOG.out.cellAt j (by omega), List.getElem?_append_left (by simpa using hjN)]
                      simp [hjN, mkA]
                    obtain ⟨gx, h1, h2⟩ := HPx.out j hjN
                    have hax : ax = some ⟨gx, 0, none⟩ := by
                      rcases HXs.out a hla with ⟨h3, _⟩ | ⟨g, c, h3⟩
                      · rw [h3] at h1; simp [Value.ownBlock] at h1
                      · rw [h3] at h1
                        simp [Value.ownBlock] at h1
                        have h4 := HXA.out
                        rw [h3] at h4
                        simp at h4
                        rw [← h4.1, h1]
                    subst hax
                    have hcx : wt.cell? ⟨gx, j, none⟩ = some (.int .u8 ((a : Int) % 256)) := h2
                    have hjN' : (j : Int) < (N a : Int) := by omega
                    clear h1 h2
                    go_wp2
                    refine ⟨?_, ?measure⟩
                    case measure => first | (simp [intOf]; done) | (simp [intOf]; omega)
                    (iterate 20 apply Exists.intro)
                    (repeat apply Exists.intro)
                    refine ⟨?rel, rfl⟩
                    case rel => exact ⟨j + 1, by omega, by go_num, by first | trivial | rfl⟩
                  · have hcj : wt.cell? ⟨gg, j, none⟩ = some (.int .u8 ((100 + (a : Int)) % 256)) := by
                      rw [HOG.out.cellAt j (by omega), List.getElem?_append_right (by simp; omega)]
                      rw [List.length_replicate, List.getElem?_replicate, if_pos (by omega)]; rfl
                    have hjN' : ¬ (j : Int) < (N a : Int) := by omega
                    go_wp2
                    refine ⟨?_, ?measure⟩
                    case measure => first | (simp [intOf]; done) | (simp [intOf]; omega)
                    exact ⟨j + 1, by omega, by push_cast; rfl⟩
                · have hj1 : ¬ (j : Int) < (N a : Int) + 10 := by omega
                  go_wp2
                  go_roundw
                  case rel => exact ⟨a + 1, by omega, by go_num, by first | trivial | rfl⟩
                  case measure => first | (simp [intOf]; done) | (simp [intOf]; omega)
            · obtain rfl : a = i := by omega
              have RS := Hid.mk' (rws_only RS8.out HM2.out (fun q r k hq hk => HF8.out.1 q r k hq hk) (fun j hj g hg => by rw [HBs.out]; exact HF8.out.2 j hj g hg))
              clear HM2 HL2 HF2 HA RS8 HF8 HXs HGL HLlo O8
              have OF := Hid.mk' (RS.out.own (spl (.slice aw K cw) Dw).length (⟨5, 1, .slice (some ⟨gF, 0, none⟩) (n + 2) cF, n + 2, bv l ++ [Value.int .u8 161, Value.int .u8 162]⟩ : Rw) (by rw [List.getElem?_append_right (Nat.le_refl _)]; simp))
              have TF : Hid (Tx wt (some ⟨gF, 0, none⟩) n cF l) := HTF.out wt (by rw [← HBs.out]; exact OF.out)
              go_wp2_with fail
              refine (split_any _ _ _ l _ (by omega) TF).mono ?_
              rintro e w12 ⟨vc, Dc, rfl, hRc, hDc⟩
              have LC : Hid (Dc.length = K) := by have := congrArg List.length hDc; rw [List.length_map, lns_length, HK.out] at this; exact this
              obtain ⟨ac, cc, hvc⟩ := own_shape (hRc.own 0 _ rfl)
              have hvc2 : vc = .slice ac K cc := by rw [← LC.out]; exact hvc
              subst hvc2
              rw [HK.out] at hDc
              have DC := Hid.mk' hDc
              have R12 := Hid.mk' (RS.out.join hRc)
              clear hRc hDc hvc RS OF TF HTF
              go_wp2_with fail
              go_loopw [17] (fun x wr => ∃ (j : Nat) (ys : List Value), j ≤ n ∧ x = .int .i64 j ∧ ys.length = n + 2 ∧ ys.take j = List.replicate j (.int .u8 10) ∧ Rws w1 wr (spl (.slice aw K cw) Dw ++ [⟨5, 1, .slice (some ⟨gF, 0, none⟩) (n + 2) cF, n + 2, ys⟩] ++ spl (.slice ac K cc) Dc)) (fun x _ => n - (intOf x).toNat)
              case atStart => exact ⟨0, _, Nat.zero_le _, rfl, by rw [List.length_append, bv_length, hlen.out]; rfl, by simp, R12.out⟩
              case round =>
                obtain ⟨j, ys, hj, rfl, hyl, hyt, hR⟩ := hrel
                have HYL := Hid.mk' hyl
                have HYT := Hid.mk' hyt
                have RJ := Hid.mk' hR
                clear hyl hyt hR R12
                have HI : Hid ((spl (.slice aw K cw) Dw ++ [⟨5, 1, .slice (some ⟨gF, 0, none⟩) (n + 2) cF, n + 2, ys⟩] ++ spl (.slice ac K cc) Dc)[(spl (.slice aw K cw) Dw).length]? = some ⟨5, 1, .slice (some ⟨gF, 0, none⟩) (n + 2) cF, n + 2, ys⟩) := by
                  unfold Hid
                  rw [List.append_assoc, List.getElem?_append_right (Nat.le_refl _), Nat.sub_self]; rfl
                have OJ : Hid (wr.ownsRow w1.heap.size 5 1 (.slice (some ⟨gF, 0, none⟩) (n + 2) cF) (n + 2) ys) := RJ.out.own _ _ HI.out
                by_cases hlj : j < n
                · have hcz : ∃ z, wr.cell? ⟨gF, j, none⟩ = some z := ⟨_, by rw [OJ.out.cellAt j (by omega)]; exact List.getElem?_eq_getElem (by have := HYL.out; omega)⟩
                  obtain ⟨z, hcz⟩ := hcz
                  have fz := OJ.out.frozenAt j
                  have hj0 : (0 : Int) ≤ (j : Int) := by omega
                  have hj1 : (j : Int) < (n : Int) := by omega
                  have R2 : Hid (Rws w1 (wr.setCell ⟨gF, j, none⟩ (.int .u8 10)) (spl (.slice aw K cw) Dw ++ [⟨5, 1, .slice (some ⟨gF, 0, none⟩) (n + 2) cF, n + 2, ys.set j (.int .u8 10)⟩] ++ spl (.slice ac K cc) Dc)) := by
                    have h1 := RJ.out.store HI.out j (.int .u8 10)
                    have e1 : ∀ (A C : List Rw) (x y : Rw), (A ++ [x] ++ C).set A.length y = A ++ [y] ++ C := fun A C x y => by simp
                    rw [e1] at h1
                    exact h1
                  have hT2 : Hid ((ys.set j (.int .u8 10)).take (j + 1) = List.replicate (j + 1) (.int .u8 10)) := take_set (by have := HYL.out; omega) HYT.out
                  have hL2 : Hid ((ys.set j (.int .u8 10)).length = n + 2) := by unfold Hid; rw [List.length_set]; exact HYL.out
                  go_wp2
                  go_roundw
                  case rel => exact ⟨j + 1, _, by omega, by go_num, hL2.out, hT2.out, R2.out⟩
                  case measure => simp [intOf]; omega
                · obtain rfl : j = n := by omega
                  have hlnb2 : ∀ i, i < K → (ln l i).length ≤ 140737488355328 := fun i hi => by have := hlnb.out i hi; omega
                  have LsW := Hid.mk' (ls_of (v := .slice aw K cw) (D := Dw) (K := K) (f := ln l) 0 RJ.out (fun q hq => by rw [Nat.zero_add, List.append_assoc]; exact List.getElem?_append_left (by rw [spl_length]; omega)) DW.out hlnb2)
                  have LsC := Hid.mk' (ls_of (v := .slice ac K cc) (D := Dc) (K := K) (f := ln l) _ RJ.out (fun q hq => at_end _ _ q) DC.out hlnb2)
                  have TI : Hid (Tx wr (some ⟨gF, 0, none⟩) j cF (List.replicate j 10)) := by
                    refine ⟨by simp, by omega, by omega, (fun h => by cases h), fun a ha q hq => ?_⟩
                    obtain rfl : (⟨gF, 0, none⟩ : Addr) = a := by simpa using ha
                    rw [add_none, Nat.zero_add, OJ.out.cellAt q (by omega)]
                    have h1 := congrArg (fun L => L[q]?) HYT.out
                    simp only [List.getElem?_take, if_pos hq, List.getElem?_replicate] at h1
                    rw [h1, show at8 (List.replicate j 10) q = 10 from by simp [at8, List.getD, hq]]
                    rfl
                  have HNL : Hid (nl (List.replicate j (10 : UInt8)) = j) := by unfold Hid nl; rw [List.countP_replicate]; rfl
                  clear hlnb2
                  go_wp2_with fail
                  refine (same_any _ _ K (ln l) _ (by omega) LsC LsW).mono ?_
                  rintro e w13 ⟨rfl, hb13⟩
                  have TI2 := Hid.mk' (TI.out.keep hb13)
                  have B13 := Hid.mk' (bT (bT B1.out RJ.out.bel) hb13)
                  clear hb13 TI LsC LsW RJ
                  go_wp2_with fail
                  refine (count_any _ _ _ _ _ TI2).mono ?_
                  rintro e w14 ⟨rfl, hb14⟩
                  rw [HNL.out]
                  have B14 := Hid.mk' (bT B13.out hb14)
                  go_wp2
                  go_ret
                  exact ⟨rfl, B14.out⟩
end Go.Proofs.Ytkdkkbfbdjeoiaa
