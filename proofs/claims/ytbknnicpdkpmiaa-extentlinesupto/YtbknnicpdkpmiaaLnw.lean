/- ExtentLines walked. -/
import Derived.Test.YtbknnicpdkpmiaaLn0
import Derived.Deep.CutRange
import Derived.Deep.RegionHeld3
namespace Go.Proofs.Ytbknnicpdkpmiaa
open Go.RowKit

set_option maxRecDepth 100000 in
set_option maxHeartbeats 16000000 in
theorem elines_yes (ao : Option Addr) (n c f t : Nat) (l : List UInt8) (w : World) (hn : n ≤ 4398046511103) (hft : f ≤ t) (ht : t ≤ nl l) (HT : Hid (Tx w ao n c l)) :
    Calls Try.prog 6 #[.slice ao n c, .int .i64 (f : Int), .int .i64 (t : Int)] w fun e w' => e = .returned (.bool true) ∧ Below w.heap.size w w' := by
  obtain ⟨i5, hi5, hz5, hs5, hb5⟩ := info_parts info5
  have hlen := Hid.mk' HT.out.len
  have hcap := HT.out.cap
  have hN : nl l ≤ n := by have := nl_le l; rw [hlen.out] at this; exact this
  obtain ⟨F, T, D, hwh, hFT, hTn, hrg, htk, hout⟩ := lines_out hft ht
  rw [hlen.out] at hTn
  have C12 := Hid.mk' (fun W (hb : Below w.heap.size w W) => whole_yes ao n c f t l W (by omega) ht hft (HT.out.keep hb))
  have C14 := Hid.mk' (fun W (hb : Below w.heap.size w W) => take_yes ao n c F T true D l W (by omega) hrg (HT.out.keep hb))
  rw [hwh] at C12
  rw [htk] at C14
  unfold rt at C12
  unfold tr at C14
  dsimp only at C12
  have HOUT := Hid.mk' hout
  clear hwh htk hrg hout
  obtain ⟨q, hq⟩ : ∃ q, cnt l f t = q := ⟨_, rfl⟩
  rw [hq] at C14
  have hqs : ((f = 0 ∧ t = nl l ∧ 0 < t ∧ (ln l t).length = 0) ∧ q = t - f) ∨ (¬ (f = 0 ∧ t = nl l ∧ 0 < t ∧ (ln l t).length = 0) ∧ q = t + 1 - f) := by
    unfold cnt at hq
    by_cases hx : f = 0 ∧ t = nl l ∧ 0 < t ∧ (ln l t).length = 0
    · rw [if_pos hx] at hq; exact .inl ⟨hx, hq.symm⟩
    · rw [if_neg hx] at hq; exact .inr ⟨hx, hq.symm⟩
  have HQS := Hid.mk' hqs
  have hqn : f + q ≤ nl l + 1 := by rcases hqs with ⟨_, h⟩ | ⟨_, h⟩ <;> omega
  have HCL := Hid.mk' (fun k (h : k ≤ q) => cat_len (l := l) (f := f) (k := k) (by omega))
  have HRL := Hid.mk' (fun i (h : i ≤ nl l + 1) => RR_len (l := l) (f := f) (t := t) (i := i) hft h)
  have HRK := Hid.mk' (fun i => RR_skip (l := l) (f := f) (t := t) (i := i))
  have HRS := Hid.mk' (fun i => RR_step (l := l) (f := f) (t := t) (i := i) hft)
  have hlft0 : Hid (lft f t 0 = 0) := if_pos (Nat.zero_le _)
  have hRR0 : Hid (RR l f t 0 = []) := if_pos (Nat.zero_le _)
  clear hq hqs
  obtain ⟨G, hG⟩ : ∃ G, (cat l f q).length = G := ⟨_, rfl⟩
  have hGn : G ≤ n + 1 := by have := HCL.out q (Nat.le_refl _); rw [hlen.out] at this; omega
  have HG := Hid.mk' hG
  rw [hG] at C14
  clear hG
  have hft' : (f : Int) ≤ t := by omega
  have hFT' : (F : Int) ≤ T := by omega
  have hTn' : (T : Int) ≤ n := by omega
  have hnI : (n : Int) ≤ 4398046511103 := by omega
  go_enter Try.func6, Try.ntmps6
  go_wp2_with fail
  refine (alive_any _).mono ?_
  rintro e w1 ⟨rfl, hb1⟩
  have B1 := Hid.mk' hb1
  clear hb1
  go_wp2_with fail
  refine (split_any ao n c l _ (by omega) (HT.out.keep B1.out)).mono ?_
  rintro e w2 ⟨v, D0, rfl, hR, hD⟩
  have HV : Hid (Ls w2 v (nl l + 1) (ln l)) := ls_of 0 hR (fun j _ => by rw [Nat.zero_add]) hD (fun i hi => by rw [ln_length (by omega)]; have := en_le (sp_le (t := l) (n := i) (by omega)); have := hlen.out; omega)
  have B2 := Hid.mk' (bT B1.out hR.bel)
  obtain ⟨av, cv, hv⟩ := HV.out.top
  subst hv
  clear hR hD B1
  go_wp2_with fail
  refine (C12.out _ B2.out).mono ?_
  rintro e w3 ⟨rfl, hb3⟩
  have B3 := Hid.mk' (bT B2.out hb3)
  have V3 := Hid.mk' (HV.out.keep hb3)
  have K3 := Hid.mk' (Blk.new w3 27 #[.int .i64 (F : Int), .int .i64 (T : Int), .bool true, .bool D])
  have U3 := Hid.mk' (bAlloc (Below.refl _ w3) (.cells #[.int .i64 (F : Int), .int .i64 (T : Int), .bool true, .bool D] 27))
  clear hb3 HV B2
  obtain ⟨N, hNe⟩ : ∃ N, nl l = N := ⟨_, rfl⟩
  obtain ⟨K, hKe⟩ : ∃ K, nl l + 1 = K := ⟨_, rfl⟩
  rw [hKe] at V3 hqn HRL HOUT ⊢
  rw [hNe] at hN ht HQS HRS
  have hKN : K = N + 1 := by omega
  have htK : (t : Int) < K := by omega
  have hK1 : (K : Int) - 1 = (N : Int) := by omega
  have hKI : (K : Int) ≤ 4398046511104 := by omega
  clear hKe hNe
  go_wp2_with fail
  refine (C14.out _ (bT B3.out U3.out)).mono ?_
  rintro e w4 ⟨vg, rfl, hog, hb4⟩
  have B4 := Hid.mk' (bT (bT B3.out U3.out) hb4)
  have V4 := Hid.mk' ((V3.out.keep U3.out).keep hb4)
  have K4 := Hid.mk' (K3.out.keep hb4)
  obtain ⟨ag, cg, eg⟩ := own_shape hog
  subst eg
  have TG4 : Hid (Tx w4 ag G cg (cat l f q)) := by
    obtain ⟨ay, cy, hy, hT⟩ := own_txl hog (by omega)
    obtain ⟨e1, e2⟩ : ag = ay ∧ cg = cy := by simpa using hy
    subst e1 e2
    exact hT
  clear hog hb4 V3 K3 U3 C12 C14 B3
  have P5 := Hid.mk' (Blk.new w4 38 #[.bool true, .bool true, .slice ag G cg])
  have U5 := Hid.mk' (bAlloc (Below.refl _ w4) (.cells #[.bool true, .bool true, .slice ag G cg] 38))
  have B5 := Hid.mk' (bT B4.out U5.out)
  have V5 := Hid.mk' (V4.out.keep U5.out)
  have K5 := Hid.mk' (K4.out.keep U5.out)
  have TG5 := Hid.mk' (TG4.out.keep U5.out)
  clear V4 K4 TG4 U5 B4
  obtain ⟨LA, hLA⟩ : ∃ LA : Int, LA + 1 = (f : Int) + q := ⟨(f : Int) + q - 1, by omega⟩
  have HLA := Hid.mk' hLA
  clear hLA
  go_upto_region 12 with fail
  generalize hW5 : w4.alloc (.cells #[.bool true, .bool true, .slice ag G cg] 38) = W5 at *
  clear hW5
  go_cut [103] from 83 to 103 (fun x103 wx => (x103 = .bool true ∧ (t : Int) - 1 = LA ∨ x103 = .bool false ∧ LA = (t : Int)) ∧ W5 = wx)
  case first =>
    obtain ⟨g, c', ai, ci, hv, hcell, hti⟩ := V5.out.each t (by omega)
    have hav : av = some ⟨g, 0, none⟩ := by simp at hv; exact hv.1
    subst hav
    have hgl : g < W5.heap.size := lt_of_cell hcell
    clear hv
    have hLA := HLA.out
    rcases HQS.out with ⟨⟨s1, s2, s3, s4⟩, s5⟩ | ⟨s1, s5⟩
    · have e1 : ((f : Int) == 0) = true := by simp; omega
      have e2 : ((t : Int) == (N : Int)) = true := by simp; omega
      have e3 : (0 : Int) < t := by omega
      have e4 : (((ln l t).length : Int) == 0) = true := by simp only [beq_iff_eq]; omega
      have e5 : Hid ((t : Int) - 1 = LA) := by unfold Hid; omega
      have e6 : (0 : Int) ≤ t := by omega
      clear s1 s2 s3 s4 s5 hLA hti HQS
      go_wp2_with fail
      go_meet
      exact ⟨.inl ⟨rfl, e5.out⟩, rfl⟩
    · have e5 : LA = (t : Int) := by omega
      have e6 : (0 : Int) ≤ t := by omega
      clear hti HQS
      by_cases hf0 : f = 0
      · have e1 : ((f : Int) == 0) = true := by simp; omega
        by_cases htN : t = N
        · have e2 : ((t : Int) == (N : Int)) = true := by simp; omega
          by_cases ht0 : 0 < t
          · have e3 : (0 : Int) < t := by omega
            have e4 : (((ln l t).length : Int) == 0) = false := by
              rw [beq_eq_false_iff_ne]; intro h; exact s1 ⟨hf0, htN, ht0, by omega⟩
            have e7 := Hid.mk' e5
            clear s1 s5 hLA hf0 htN ht0 e5
            go_wp2_with fail
            go_meet
            exact ⟨.inr ⟨rfl, e7.out⟩, rfl⟩
          · have e3 : ¬ (0 : Int) < t := by omega
            have e7 := Hid.mk' e5
            clear s1 s5 hLA hf0 htN ht0 e5
            go_wp2_with fail
            go_meet
            exact ⟨.inr ⟨rfl, e7.out⟩, rfl⟩
        · have e2 : ((t : Int) == (N : Int)) = false := by simp; omega
          have e7 := Hid.mk' e5
          clear s1 s5 hLA hf0 htN e5
          go_wp2_with fail
          go_meet
          exact ⟨.inr ⟨rfl, e7.out⟩, rfl⟩
      · have e1 : ((f : Int) == 0) = false := by simp; omega
        have e7 := Hid.mk' e5
        clear s1 s5 hLA hf0 e5
        go_wp2_with fail
        go_meet
        exact ⟨.inr ⟨rfl, e7.out⟩, rfl⟩
  case rest =>
  obtain ⟨hcb, rfl⟩ := hcut
  have HCB := Hid.mk' hcb
  clear HQS hcb
  go_upto_if 103 with fail
  go_cut [14] from 104 to 105 (fun x14 wx => x14 = .int .i64 LA ∧ W5 = wx)
  case first =>
    rcases HCB.out with ⟨rfl, h⟩ | ⟨rfl, h⟩
    · go_wp2_with fail
      go_meet
      exact ⟨rfl, rfl⟩
    · have e7 := Hid.mk' h
      clear h
      go_wp2_with fail
      go_meet
      exact ⟨by rw [e7.out], rfl⟩
  case rest =>
  obtain ⟨rfl, rfl⟩ := hcut
  clear HCB
  go_wp2_with fail
  go_loopw [12, 15] (fun u x wr => ∃ k : Nat, x = .int .i64 ((f : Int) + k) ∧ k ≤ q ∧ wr.ownsRow W5.heap.size 5 1 u (cat l f k).length (bv (cat l f k)) ∧ Below W5.heap.size W5 wr) (fun _ x _ => f + q - (intOf x).toNat)
  case atStart => exact ⟨0, by simp, Nat.zero_le _, World.ownsRow_nil _ _ _ _, Below.refl _ _⟩
  case round =>
    obtain ⟨k, rfl, hk, hown, hb⟩ := hrel
    have HO := Hid.mk' hown
    have HB := Hid.mk' hb
    obtain ⟨ax, cx, hux⟩ := own_shape hown
    subst hux
    clear hown hb
    have V6 := Hid.mk' (V5.out.keep HB.out)
    by_cases hlt : k < q
    · obtain ⟨p, hp⟩ : ∃ p, f + k = p := ⟨_, rfl⟩
      obtain ⟨g, c', ai, ci, hv, hcell, hti⟩ := V6.out.each p (by omega)
      have hav : av = some ⟨g, 0, none⟩ := by simp at hv; exact hv.1
      subst hav
      have hgl : g < wr.heap.size := lt_of_cell hcell
      have HTI := Hid.mk' hti
      have hpI : (f : Int) + (k : Int) = (p : Int) := by omega
      have hpL : (p : Int) ≤ LA := by have := HLA.out; omega
      have hpK : (p : Int) < K := by omega
      have hp0 : (0 : Int) ≤ p := by omega
      have HC1 : Hid (cat l f (k + 1) = (cat l f k ++ ln l p) ++ [10]) := by unfold Hid; rw [← hp]; rfl
      have HLb : Hid ((cat l f k).length + (ln l p).length + 1 ≤ n + 1) := by
        have := HCL.out (k + 1) (by omega)
        rw [HC1.out, List.length_append, List.length_append, hlen.out] at this
        exact this
      have HP := Hid.mk' hp
      rw [hpI]
      clear hv hti hp hpI
      go_wp2_with (at_builtin; refine append_srv rfl (.tmp 112) (.tmp 116) 22 rfl W5.heap.size 5 i5 (.int .u8 0) 1 1 Try.underlying22 hi5 hz5 hs5 hb5 rfl (by decide) (.slice ax (cat l f k).length cx) (cat l f k).length (bv (cat l f k)) rfl HO.out (.slice ai (ln l p).length ci) (ln l p).length (bv (ln l p)) rfl HTI.out.srv (by rw [bv_length]; omega) (bv_one _) (by have := HLb.out; unfold maxLen; omega) (by have := HLb.out; omega) HB.out.size ?_)
      intro v7 w7 hown7 hgrow7 _
      have HO7 : Hid (w7.ownsRow W5.heap.size 5 1 v7 ((cat l f k).length + (ln l p).length) (bv (cat l f k ++ ln l p))) := by unfold Hid; rw [bv_append]; exact hown7
      have HB7 : Hid (Below W5.heap.size W5 w7) := HB.out.grown hgrow7 HB.out.size (fun k hk => (HO.out.lt k hk).1)
      obtain ⟨ax7, cx7, e7⟩ := own_shape HO7.out
      subst e7
      clear hown7 hgrow7 hcell hgl
      go_wp2_with (at_builtin; refine append_srv rfl (.tmp 117) (.tmp 118) 22 rfl W5.heap.size 5 i5 (.int .u8 0) 1 1 Try.underlying22 hi5 hz5 hs5 hb5 rfl (by decide) (.slice ax7 ((cat l f k).length + (ln l p).length) cx7) ((cat l f k).length + (ln l p).length) (bv (cat l f k ++ ln l p)) rfl (HO7.out.alloc _) (.slice (some ⟨w7.heap.size, 0, none⟩) 1 1) 1 [.int .u8 10] rfl (.inr ⟨⟨w7.heap.size, 0, none⟩, 1, rfl, fun j u hj => lit_cells w7 _ 5 j u hj⟩) rfl (by intro u hu; simp at hu; subst hu; rfl) (by have := HLb.out; unfold maxLen; omega) (by have := HLb.out; omega) (by have := HB7.out.size; simp; omega) ?_)
      intro v8 w8 hown8 hgrow8 _
      have HO8 : Hid (w8.ownsRow W5.heap.size 5 1 v8 (cat l f (k + 1)).length (bv (cat l f (k + 1)))) := by
        unfold Hid; rw [HC1.out, bv_append, List.length_append, List.length_append]; exact hown8
      have HB8 : Hid (Below W5.heap.size W5 w8) := (HB7.out.alloc HB7.out.size _).grown hgrow8 (by have := HB7.out.size; simp; omega) (fun k hk => (HO7.out.lt k hk).1)
      clear hown8 hgrow8
      go_wp2
      go_roundw
      case rel => exact ⟨k + 1, by have := HP.out; go_num, by omega, HO8.out, HB8.out⟩
      case measure => have := HP.out; simp [intOf]; omega
    · obtain rfl : k = q := by omega
      have hx : ¬ (f : Int) + (k : Int) ≤ LA := by have := HLA.out; omega
      have TW : Hid (Tx wr ax G cx (cat l f k)) := by
        obtain ⟨ay, cy, hy, hT⟩ := own_txl HO.out (by have := HG.out; omega)
        obtain ⟨e1, e2⟩ : ax = ay ∧ cx = cy := by simpa using hy
        subst e1 e2
        rw [HG.out] at hT
        exact hT
      rw [HG.out] at HO ⊢
      have B6 := Hid.mk' (bT B5.out HB.out)
      have K6 := Hid.mk' (K5.out.keep HB.out)
      have P6 := Hid.mk' (P5.out.keep HB.out)
      have TG6 := Hid.mk' (TG5.out.keep HB.out)
      clear HO HB K5 P5 TG5 V5 B5 hlt hk HCL
      go_wp2_with fail
      clear hx HLA
      obtain ⟨W6, hW6⟩ : ∃ W6, wr = W6 := ⟨_, rfl⟩
      rw [hW6] at V6 TW B6 K6 P6 TG6 ⊢
      clear hW6 wr
      go_loopw [13, 16, 17] (fun u x y wr => ∃ i : Nat, y = .int .i64 i ∧ x = .int .i64 (lft f t i : Int) ∧ i ≤ K ∧ wr.ownsRow W6.heap.size 5 1 u (RR l f t i).length (bv (RR l f t i)) ∧ Below W6.heap.size W6 wr) (fun _ _ y _ => K - (intOf y).toNat)
      case atStart => exact ⟨0, rfl, by rw [hlft0.out]; rfl, Nat.zero_le _, by rw [hRR0.out]; exact World.ownsRow_nil _ _ _ _, Below.refl _ _⟩
      case round =>
        obtain ⟨i, rfl, rfl, hi, hown, hb⟩ := hrel
        have HO := Hid.mk' hown
        have HB := Hid.mk' hb
        obtain ⟨az, cz, huz⟩ := own_shape hown
        subst huz
        clear hown hb
        have hi0 : (0 : Int) ≤ (i : Int) := by omega
        have hRl := HRL.out i hi
        rw [hlen.out] at hRl
        by_cases hlt : i < K
        · have hiK : (i : Int) < K := by omega
          by_cases hsk : f ≤ i ∧ i ≤ t
          · obtain ⟨r1, r2⟩ := HRK.out i hsk.1 hsk.2
            have HR1 := Hid.mk' r1
            have HR2 := Hid.mk' r2
            have z1 : (f : Int) ≤ i := by omega
            have z2 : (i : Int) ≤ t := by omega
            clear r1 r2 hsk
            go_wp2
            go_roundw
            case rel => exact ⟨i + 1, by go_num, by rw [HR2.out], by omega, by rw [HR1.out]; exact HO.out, HB.out⟩
            case measure => simp [intOf]; omega
          · have hside : i < f ∨ t < i := by omega
            obtain ⟨r1, r2⟩ := HRS.out i (by omega) hside
            have HR2 := Hid.mk' r2
            obtain ⟨g, c', ai, ci, hv, hcell, hti⟩ := (V6.out.keep HB.out).each i (by omega)
            have hav : av = some ⟨g, 0, none⟩ := by simp at hv; exact hv.1
            subst hav
            have hgl : g < wr.heap.size := lt_of_cell hcell
            have HTI := Hid.mk' hti
            have HCX : Hid (∀ W : World, Below wr.heap.size wr W → W.cell? ⟨g, i, none⟩ = some (.slice ai (ln l i).length ci) ∧ Tx W ai (ln l i).length ci (ln l i)) := fun W hW => ⟨keepC hW hcell, HTI.out.keep hW⟩
            have hLn : Hid ((RR l f t (i + 1)).length ≤ n) := by have := HRL.out (i + 1) (by omega); rw [hlen.out] at this; exact this
            have hlf : (lft f t i : Int) ≤ 8796093022208 := by
              have : lft f t i ≤ i + f := by unfold lft; split; omega; split <;> omega
              omega
            have hlf0 : (0 : Int) ≤ (lft f t i : Int) := by omega
            clear hv hti r2 hsk
            by_cases hl0 : 0 < lft f t i
            · rw [if_pos hl0] at r1
              have HR1 := Hid.mk' r1
              have hl0' : (0 : Int) < (lft f t i : Int) := by omega
              have hLn2 : Hid ((RR l f t i).length + 1 + (ln l i).length ≤ n) := by have := hLn.out; rw [HR1.out, List.length_append, List.length_append] at this; exact this
              clear r1
              generalize lft f t i = LF at *
              have hz1 : ((i : Int) < f) ∨ ((f : Int) ≤ i ∧ (t : Int) < i) := by omega
              clear hside
              rcases hz1 with z1 | ⟨z1, z2⟩
              · go_wp2_with (at_builtin; refine append_srv rfl (.tmp 136) (.tmp 137) 22 rfl W6.heap.size 5 i5 (.int .u8 0) 1 1 Try.underlying22 hi5 hz5 hs5 hb5 rfl (by decide) (.slice az (RR l f t i).length cz) (RR l f t i).length (bv (RR l f t i)) rfl (HO.out.alloc _) (.slice (some ⟨wr.heap.size, 0, none⟩) 1 1) 1 [.int .u8 10] rfl (.inr ⟨⟨wr.heap.size, 0, none⟩, 1, rfl, fun j u hj => lit_cells wr _ 5 j u hj⟩) rfl (by intro u hu; simp at hu; subst hu; rfl) (by have := hLn2.out; unfold maxLen; omega) (by have := hLn2.out; omega) (by have := HB.out.size; simp; omega) ?_)
                intro v7 w7 hown7 hgrow7 hfr7
                have HO7 : Hid (w7.ownsRow W6.heap.size 5 1 v7 ((RR l f t i).length + 1) (bv (RR l f t i ++ [10]))) := by unfold Hid; rw [bv_append]; exact hown7
                have HB7 : Hid (Below W6.heap.size W6 w7) := (HB.out.alloc HB.out.size _).grown hgrow7 (by have := HB.out.size; simp; omega) (fun k hk => (HO.out.lt k hk).1)
                obtain ⟨g9, c9, a9, d9, hv9, hcell9, hti9⟩ := (V6.out.keep HB7.out).each i (by omega)
                have hg9 : g = g9 := by simp at hv9; exact hv9.1
                subst hg9
                have hgl9 : g < w7.heap.size := lt_of_cell hcell9
                have HTI9 := Hid.mk' hti9
                obtain ⟨ax7, cx7, e7⟩ := own_shape HO7.out
                subst e7
                clear hown7 hgrow7 hfr7 hcell hgl hti9 hv9 HCX HTI
                go_wp2_with (at_builtin; refine append_srv rfl (.tmp 139) (.tmp 143) 22 rfl W6.heap.size 5 i5 (.int .u8 0) 1 1 Try.underlying22 hi5 hz5 hs5 hb5 rfl (by decide) (.slice ax7 ((RR l f t i).length + 1) cx7) ((RR l f t i).length + 1) (bv (RR l f t i ++ [10])) rfl HO7.out (.slice a9 (ln l i).length d9) (ln l i).length (bv (ln l i)) rfl HTI9.out.srv (by rw [bv_length]; omega) (bv_one _) (by have := hLn2.out; unfold maxLen; omega) (by have := hLn2.out; omega) HB7.out.size ?_)
                intro v8 w8 hown8 hgrow8 _
                have HO8 : Hid (w8.ownsRow W6.heap.size 5 1 v8 (RR l f t (i + 1)).length (bv (RR l f t (i + 1)))) := by
                  unfold Hid; rw [HR1.out, bv_append, List.length_append, List.length_append]; exact hown8
                have HB8 : Hid (Below W6.heap.size W6 w8) := HB7.out.grown hgrow8 HB7.out.size (fun k hk => (HO7.out.lt k hk).1)
                clear hown8 hgrow8
                go_wp2
                go_roundw
                case rel => exact ⟨i + 1, by go_num, by rw [HR2.out]; go_num, by omega, HO8.out, HB8.out⟩
                case measure => simp [intOf]; omega
              · go_wp2_with (at_builtin; refine append_srv rfl (.tmp 136) (.tmp 137) 22 rfl W6.heap.size 5 i5 (.int .u8 0) 1 1 Try.underlying22 hi5 hz5 hs5 hb5 rfl (by decide) (.slice az (RR l f t i).length cz) (RR l f t i).length (bv (RR l f t i)) rfl (HO.out.alloc _) (.slice (some ⟨wr.heap.size, 0, none⟩) 1 1) 1 [.int .u8 10] rfl (.inr ⟨⟨wr.heap.size, 0, none⟩, 1, rfl, fun j u hj => lit_cells wr _ 5 j u hj⟩) rfl (by intro u hu; simp at hu; subst hu; rfl) (by have := hLn2.out; unfold maxLen; omega) (by have := hLn2.out; omega) (by have := HB.out.size; simp; omega) ?_)
                intro v7 w7 hown7 hgrow7 hfr7
                have HO7 : Hid (w7.ownsRow W6.heap.size 5 1 v7 ((RR l f t i).length + 1) (bv (RR l f t i ++ [10]))) := by unfold Hid; rw [bv_append]; exact hown7
                have HB7 : Hid (Below W6.heap.size W6 w7) := (HB.out.alloc HB.out.size _).grown hgrow7 (by have := HB.out.size; simp; omega) (fun k hk => (HO.out.lt k hk).1)
                obtain ⟨g9, c9, a9, d9, hv9, hcell9, hti9⟩ := (V6.out.keep HB7.out).each i (by omega)
                have hg9 : g = g9 := by simp at hv9; exact hv9.1
                subst hg9
                have hgl9 : g < w7.heap.size := lt_of_cell hcell9
                have HTI9 := Hid.mk' hti9
                obtain ⟨ax7, cx7, e7⟩ := own_shape HO7.out
                subst e7
                clear hown7 hgrow7 hfr7 hcell hgl hti9 hv9 HCX HTI
                go_wp2_with (at_builtin; refine append_srv rfl (.tmp 139) (.tmp 143) 22 rfl W6.heap.size 5 i5 (.int .u8 0) 1 1 Try.underlying22 hi5 hz5 hs5 hb5 rfl (by decide) (.slice ax7 ((RR l f t i).length + 1) cx7) ((RR l f t i).length + 1) (bv (RR l f t i ++ [10])) rfl HO7.out (.slice a9 (ln l i).length d9) (ln l i).length (bv (ln l i)) rfl HTI9.out.srv (by rw [bv_length]; omega) (bv_one _) (by have := hLn2.out; unfold maxLen; omega) (by have := hLn2.out; omega) HB7.out.size ?_)
                intro v8 w8 hown8 hgrow8 _
                have HO8 : Hid (w8.ownsRow W6.heap.size 5 1 v8 (RR l f t (i + 1)).length (bv (RR l f t (i + 1)))) := by
                  unfold Hid; rw [HR1.out, bv_append, List.length_append, List.length_append]; exact hown8
                have HB8 : Hid (Below W6.heap.size W6 w8) := HB7.out.grown hgrow8 HB7.out.size (fun k hk => (HO7.out.lt k hk).1)
                clear hown8 hgrow8
                go_wp2
                go_roundw
                case rel => exact ⟨i + 1, by go_num, by rw [HR2.out]; go_num, by omega, HO8.out, HB8.out⟩
                case measure => simp [intOf]; omega
            · rw [if_neg hl0] at r1
              have HR1 := Hid.mk' r1
              have hl0' : ¬ (0 : Int) < (lft f t i : Int) := by omega
              have hLn2 : Hid ((RR l f t i).length + (ln l i).length ≤ n) := by have := hLn.out; rw [HR1.out, List.length_append] at this; exact this
              clear r1
              generalize lft f t i = LF at *
              have hz1 : ((i : Int) < f) ∨ ((f : Int) ≤ i ∧ (t : Int) < i) := by omega
              clear hside
              rcases hz1 with z1 | ⟨z1, z2⟩
              · go_wp2_with (at_builtin; refine append_srv rfl (.tmp 139) (.tmp 143) 22 rfl W6.heap.size 5 i5 (.int .u8 0) 1 1 Try.underlying22 hi5 hz5 hs5 hb5 rfl (by decide) (.slice az (RR l f t i).length cz) (RR l f t i).length (bv (RR l f t i)) rfl HO.out (.slice ai (ln l i).length ci) (ln l i).length (bv (ln l i)) rfl HTI.out.srv (by rw [bv_length]; omega) (bv_one _) (by have := hLn2.out; unfold maxLen; omega) (by have := hLn2.out; omega) HB.out.size ?_)
                intro v8 w8 hown8 hgrow8 _
                have HO8 : Hid (w8.ownsRow W6.heap.size 5 1 v8 (RR l f t (i + 1)).length (bv (RR l f t (i + 1)))) := by
                  unfold Hid; rw [HR1.out, bv_append, List.length_append]; exact hown8
                have HB8 : Hid (Below W6.heap.size W6 w8) := HB.out.grown hgrow8 HB.out.size (fun k hk => (HO.out.lt k hk).1)
                clear hown8 hgrow8
                go_wp2
                go_roundw
                case rel => exact ⟨i + 1, by go_num, by rw [HR2.out]; go_num, by omega, HO8.out, HB8.out⟩
                case measure => simp [intOf]; omega
              · go_wp2_with (at_builtin; refine append_srv rfl (.tmp 139) (.tmp 143) 22 rfl W6.heap.size 5 i5 (.int .u8 0) 1 1 Try.underlying22 hi5 hz5 hs5 hb5 rfl (by decide) (.slice az (RR l f t i).length cz) (RR l f t i).length (bv (RR l f t i)) rfl HO.out (.slice ai (ln l i).length ci) (ln l i).length (bv (ln l i)) rfl HTI.out.srv (by rw [bv_length]; omega) (bv_one _) (by have := hLn2.out; unfold maxLen; omega) (by have := hLn2.out; omega) HB.out.size ?_)
                intro v8 w8 hown8 hgrow8 _
                have HO8 : Hid (w8.ownsRow W6.heap.size 5 1 v8 (RR l f t (i + 1)).length (bv (RR l f t (i + 1)))) := by
                  unfold Hid; rw [HR1.out, bv_append, List.length_append]; exact hown8
                have HB8 : Hid (Below W6.heap.size W6 w8) := HB.out.grown hgrow8 HB.out.size (fun k hk => (HO.out.lt k hk).1)
                clear hown8 hgrow8
                go_wp2
                go_roundw
                case rel => exact ⟨i + 1, by go_num, by rw [HR2.out]; go_num, by omega, HO8.out, HB8.out⟩
                case measure => simp [intOf]; omega
        · obtain rfl : i = K := by omega
          have hiK : ¬ (i : Int) < (i : Int) := by omega
          have TR : Hid (Tx wr az (RR l f t i).length cz (RR l f t i)) := by
            obtain ⟨ay, cy, hy, hT⟩ := own_txl HO.out (by omega)
            obtain ⟨e1, e2⟩ : az = ay ∧ cz = cy := by simpa using hy
            subst e1 e2
            exact hT
          have B7 := Hid.mk' (bT B6.out HB.out)
          have K7 := Hid.mk' (K6.out.keep HB.out)
          have P7 := Hid.mk' (P6.out.keep HB.out)
          have TG7 := Hid.mk' (TG6.out.keep HB.out)
          have TW7 := Hid.mk' (TW.out.keep HB.out)
          have TT7 := Hid.mk' (HT.out.keep B7.out)
          clear HO HB V6 TW B6 K6 P6 TG6 HRL HRK HRS hlft0 hRR0
          rw [← HOUT.out] at TR ⊢
          obtain ⟨OL, hOL⟩ : ∃ OL, l.take F ++ l.drop T = OL := ⟨_, rfl⟩
          rw [hOL] at TR ⊢
          have HOL := Hid.mk' hOL
          clear hOL HOUT
          generalize lft f t i = LF at *
          have q0 := K7.out.cell (j := 0) rfl
          have q1 := K7.out.cell (j := 1) rfl
          have qz := K7.out.lt
          have hl1 : Hid ((l.take F).length = F) := by unfold Hid; rw [List.length_take, hlen.out]; omega
          have hl2 : Hid ((l.drop T).length = n - T) := by unfold Hid; rw [List.length_drop, hlen.out]
          have hS2 : Hid (∀ {W' : World}, Below wr.heap.size wr W' → W'.cell? ⟨w3.heap.size, 0, none⟩ = some (.int .i64 (F : Int)) ∧ W'.cell? ⟨w3.heap.size, 1, none⟩ = some (.int .i64 (T : Int))) := fun hb => ⟨keepC hb q0, keepC hb q1⟩
          have BA := Hid.mk' (bAlloc (Below.refl wr.heap.size wr) (.cells #[] 5)).drew
          have EA : Hid ((wr.alloc (.cells #[] 5)).drew.ownsRow wr.heap.size 5 1 (.slice (some ⟨wr.heap.size, 0, none⟩) 0 0) 0 []) := own_keep (World.ownsRow_made wr #[] 0 (Nat.le_refl _) (by decide) rfl) (Below.refl _ _).drew
          have sD := hS2.out (Below.refl wr.heap.size wr).drew
          have sA := hS2.out BA.out
          have TH := Hid.mk' (TT7.out.head (i := F) (by omega))
          have hFc : (F : Int) ≤ c := by omega
          have hTc : (T : Int) ≤ c := by omega
          have hnc : (n : Int) ≤ c := by omega
          have hF0 : (0 : Int) ≤ F := by omega
          clear q0 q1 hRl
          cases ao with
          | none =>
            obtain ⟨rfl, rfl, rfl⟩ := HT.out.none
            obtain rfl : T = 0 := by omega
            obtain rfl : F = 0 := by omega
            have hd0 : ([] : List UInt8).drop 0 = [] := rfl
            have e0 : ((0 : Nat) : Int) = 0 := rfl
            rw [e0] at sD sA
            go_upto_region 27 with fail
            go_region_held3 (fun w' => w'.cell? ⟨w3.heap.size, 0, none⟩ = some (.int .i64 0) ∧ w'.cell? ⟨w3.heap.size, 1, none⟩ = some (.int .i64 0)) (with_reducible assumption)
              (first
                | (refine step_app (by rfl) (.tmp 147) (.tmp 151) 22 (by rfl) wr.heap.size 5 i5 (.int .u8 0) 1 1 Try.underlying22 hi5 hz5 hs5 hb5 (by rfl) (by decide) (.slice (some ⟨wr.heap.size, 0, none⟩) 0 0) 0 [] (by rfl) EA.out (.slice none 0 0) (0) (bv (([] : List UInt8).take 0)) (by rfl) ((TH.out.keep BA.out).srv) (by have := hl1.out; rw [bv_length]; omega) (bv_one _) (by unfold maxLen; omega) (by omega) BA.out.size ?_
                   intro v8 W8 hO8 hG8 _
                   have O8 : Hid (W8.ownsRow wr.heap.size 5 1 v8 0 (bv (([] : List UInt8).take 0))) := (by unfold Hid; simpa using hO8)
                   have B8 : Hid (Below wr.heap.size wr W8) := BA.out.grown hG8 BA.out.size (fun k hk => by simp [Value.ownBlock] at hk; omega)
                   obtain ⟨a8, c8, e8⟩ := own_shape O8.out
                   subst e8
                   have s8 := hS2.out B8.out
                   rw [e0] at s8
                   clear hO8 hG8)
                | (refine step_app (by rfl) (.tmp 152) (.tmp 156) 22 (by rfl) wr.heap.size 5 i5 (.int .u8 0) 1 1 Try.underlying22 hi5 hz5 hs5 hb5 (by rfl) (by decide) (.slice a8 0 c8) 0 (bv (([] : List UInt8).take 0)) (by rfl) O8.out (.slice none 0 0) (0) (bv (([] : List UInt8).drop 0)) (by rfl) ((.inl ⟨rfl, rfl, rfl⟩ : Srv _ (.slice none 0 0) 0 (bv (([] : List UInt8).drop 0)))) (by have := hl2.out; rw [bv_length]; omega) (bv_one _) (by unfold maxLen; omega) (by omega) B8.out.size ?_
                   intro v9 W9 hO9 hG9 _
                   have O9 : Hid (W9.ownsRow wr.heap.size 5 1 v9 (0) (bv OL)) := (by unfold Hid; rw [← HOL.out, bv_append]; exact hO9)
                   have B9 : Hid (Below wr.heap.size wr W9) := B8.out.grown hG9 B8.out.size (fun k hk => (O8.out.lt k hk).1)
                   have s9 := hS2.out B9.out
                   rw [e0] at s9
                   clear hO9 hG9)
                | fail)
            obtain ⟨a9, c9, hv9, T9⟩ := own_txl O9.out (by omega)
            subst hv9
            have v1 := conv_tx T9
            have v2 := conv_tx (TR.out.keep B9.out)
            have v3 := conv_tx (TG7.out.keep B9.out)
            have v4 := conv_tx (TW7.out.keep B9.out)
            have P9 := Hid.mk' (P7.out.keep B9.out)
            have p0 := P9.out.cell (j := 0) rfl
            have p1 := P9.out.cell (j := 1) rfl
            have p2 := P9.out.cell (j := 2) rfl
            clear T9
            go_wp2
            go_ret
            exact ⟨rfl, bT B7.out B9.out⟩
          | some a =>
            by_cases hcT : c = T
            · subst hcT
              obtain rfl : n = c := by omega
              go_upto_region 27 with fail
              go_region_held3 (fun w' => w'.cell? ⟨w3.heap.size, 0, none⟩ = some (.int .i64 (F : Int)) ∧ w'.cell? ⟨w3.heap.size, 1, none⟩ = some (.int .i64 (n : Int))) (with_reducible assumption)
                (first
                  | (refine step_app (by rfl) (.tmp 147) (.tmp 151) 22 (by rfl) wr.heap.size 5 i5 (.int .u8 0) 1 1 Try.underlying22 hi5 hz5 hs5 hb5 (by rfl) (by decide) (.slice (some ⟨wr.heap.size, 0, none⟩) 0 0) 0 [] (by rfl) EA.out (.slice (some a) F n) (F) (bv (l.take F)) (by rfl) ((TH.out.keep BA.out).srv) (by have := hl1.out; rw [bv_length]; omega) (bv_one _) (by unfold maxLen; omega) (by omega) BA.out.size ?_
                     intro v8 W8 hO8 hG8 _
                     have O8 : Hid (W8.ownsRow wr.heap.size 5 1 v8 F (bv (l.take F))) := (by unfold Hid; simpa using hO8)
                     have B8 : Hid (Below wr.heap.size wr W8) := BA.out.grown hG8 BA.out.size (fun k hk => by simp [Value.ownBlock] at hk; omega)
                     obtain ⟨a8, c8, e8⟩ := own_shape O8.out
                     subst e8
                     have s8 := hS2.out B8.out
                     clear hO8 hG8)
                  | (refine step_app (by rfl) (.tmp 152) (.tmp 156) 22 (by rfl) wr.heap.size 5 i5 (.int .u8 0) 1 1 Try.underlying22 hi5 hz5 hs5 hb5 (by rfl) (by decide) (.slice a8 F c8) F (bv (l.take F)) (by rfl) O8.out (.slice (some a) 0 0) (0) (bv (l.drop n)) (by rfl) ((.inr ⟨a, 0, rfl, fun j u hj => by have h0 : l.drop n = [] := List.eq_nil_of_length_eq_zero (by rw [hl2.out]; omega); rw [h0] at hj; simp [bv] at hj⟩ : Srv _ (.slice (some a) 0 0) 0 (bv (l.drop n)))) (by have := hl2.out; rw [bv_length]; omega) (bv_one _) (by unfold maxLen; omega) (by omega) B8.out.size ?_
                     intro v9 W9 hO9 hG9 _
                     have O9 : Hid (W9.ownsRow wr.heap.size 5 1 v9 (F) (bv OL)) := (by unfold Hid; rw [← HOL.out, bv_append]; exact hO9)
                     have B9 : Hid (Below wr.heap.size wr W9) := B8.out.grown hG9 B8.out.size (fun k hk => (O8.out.lt k hk).1)
                     have s9 := hS2.out B9.out
                     clear hO9 hG9)
                  | fail)
              obtain ⟨a9, c9, hv9, T9⟩ := own_txl O9.out (by omega)
              subst hv9
              have v1 := conv_tx T9
              have v2 := conv_tx (TR.out.keep B9.out)
              have v3 := conv_tx (TG7.out.keep B9.out)
              have v4 := conv_tx (TW7.out.keep B9.out)
              have P9 := Hid.mk' (P7.out.keep B9.out)
              have p0 := P9.out.cell (j := 0) rfl
              have p1 := P9.out.cell (j := 1) rfl
              have p2 := P9.out.cell (j := 2) rfl
              clear T9
              go_wp2
              go_ret
              exact ⟨rfl, bT B7.out B9.out⟩
            · have TT := Hid.mk' (TT7.out.tail (s := T) (by omega))
              go_upto_region 27 with fail
              go_region_held3 (fun w' => w'.cell? ⟨w3.heap.size, 0, none⟩ = some (.int .i64 (F : Int)) ∧ w'.cell? ⟨w3.heap.size, 1, none⟩ = some (.int .i64 (T : Int))) (with_reducible assumption)
                (first
                  | (refine step_app (by rfl) (.tmp 147) (.tmp 151) 22 (by rfl) wr.heap.size 5 i5 (.int .u8 0) 1 1 Try.underlying22 hi5 hz5 hs5 hb5 (by rfl) (by decide) (.slice (some ⟨wr.heap.size, 0, none⟩) 0 0) 0 [] (by rfl) EA.out (.slice (some a) F c) (F) (bv (l.take F)) (by rfl) ((TH.out.keep BA.out).srv) (by have := hl1.out; rw [bv_length]; omega) (bv_one _) (by unfold maxLen; omega) (by omega) BA.out.size ?_
                     intro v8 W8 hO8 hG8 _
                     have O8 : Hid (W8.ownsRow wr.heap.size 5 1 v8 F (bv (l.take F))) := (by unfold Hid; simpa using hO8)
                     have B8 : Hid (Below wr.heap.size wr W8) := BA.out.grown hG8 BA.out.size (fun k hk => by simp [Value.ownBlock] at hk; omega)
                     obtain ⟨a8, c8, e8⟩ := own_shape O8.out
                     subst e8
                     have s8 := hS2.out B8.out
                     clear hO8 hG8)
                  | (refine step_app (by rfl) (.tmp 152) (.tmp 156) 22 (by rfl) wr.heap.size 5 i5 (.int .u8 0) 1 1 Try.underlying22 hi5 hz5 hs5 hb5 (by rfl) (by decide) (.slice a8 F c8) F (bv (l.take F)) (by rfl) O8.out (.slice (some (a.add T)) (n - T) (c - T)) (n - T) (bv (l.drop T)) (by rfl) ((TT.out.keep B8.out).srv) (by have := hl2.out; rw [bv_length]; omega) (bv_one _) (by unfold maxLen; omega) (by omega) B8.out.size ?_
                     intro v9 W9 hO9 hG9 _
                     have O9 : Hid (W9.ownsRow wr.heap.size 5 1 v9 (F + (n - T)) (bv OL)) := (by unfold Hid; rw [← HOL.out, bv_append]; exact hO9)
                     have B9 : Hid (Below wr.heap.size wr W9) := B8.out.grown hG9 B8.out.size (fun k hk => (O8.out.lt k hk).1)
                     have s9 := hS2.out B9.out
                     clear hO9 hG9)
                  | fail)
              obtain ⟨a9, c9, hv9, T9⟩ := own_txl O9.out (by omega)
              subst hv9
              have v1 := conv_tx T9
              have v2 := conv_tx (TR.out.keep B9.out)
              have v3 := conv_tx (TG7.out.keep B9.out)
              have v4 := conv_tx (TW7.out.keep B9.out)
              have P9 := Hid.mk' (P7.out.keep B9.out)
              have p0 := P9.out.cell (j := 0) rfl
              have p1 := P9.out.cell (j := 1) rfl
              have p2 := P9.out.cell (j := 2) rfl
              clear T9
              go_wp2
              go_ret
              exact ⟨rfl, bT B7.out B9.out⟩

theorem extentLines_walk (ao : Option Addr) (n c : Nat) (f t : Int) (l : List UInt8) (w : World) (hn : n ≤ 1048576) (hf : f ≤ 9223372036854775807) (ht : t ≤ 9223372036854775807) (HT : Hid (Tx w ao n c l)) :
    Calls Try.prog 6 #[.slice ao n c, .int .i64 f, .int .i64 t] w fun e w' => e = .returned (.bool true) ∧ Below w.heap.size w w' := by
  by_cases h : f < 0 ∨ t < f ∨ (nl l : Int) < t
  · exact elines_no ao n c f t l w (by omega) hf ht HT h
  · obtain ⟨F, rfl⟩ := Int.eq_ofNat_of_zero_le (show 0 ≤ f by omega)
    obtain ⟨T, rfl⟩ := Int.eq_ofNat_of_zero_le (show 0 ≤ t by omega)
    exact elines_yes ao n c F T l w (by omega) (by omega) (by omega) HT

end Go.Proofs.Ytbknnicpdkpmiaa
