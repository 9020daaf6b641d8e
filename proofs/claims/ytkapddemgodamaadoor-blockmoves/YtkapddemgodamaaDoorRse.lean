/- The contract of quoinref10's Sentences. -/
import Derived.Test.YtkapddemgodamaaDoorRpa
import Derived.Test.YtkapddemgodamaaDoorRbg
namespace Go.Proofs.YtkapddemgodamaaDoor
open Go.RowKit

/-- the stops in line number i, up to its byte number k -/
def sgc (l : List UInt8) (f : Nat → List UInt8) (i k : Nat) : Bool := !blk (bi (f i) k) && bgr l (ap f i + k) (ap f i + k)
def seg (l : List UInt8) (f : Nat → List UInt8) (i : Nat) : Nat → List Nat
  | 0 => []
  | k + 1 => seg l f i k ++ (if sgc l f i k = true then [ap f i + k] else [])
def sec (K : Nat) (f : Nat → List UInt8) (i : Nat) : Bool := emq K f i && !emq K f ((i : Int) - 1)
def sen (l : List UInt8) (K : Nat) (f : Nat → List UInt8) : Nat → List Nat
  | 0 => []
  | i + 1 => sen l K f i ++ (if sec K f i = true then [ap f i] else []) ++ seg l f i (f i).length
theorem seg_len (l : List UInt8) (f : Nat → List UInt8) (i : Nat) : ∀ k, (seg l f i k).length ≤ k
  | 0 => Nat.le_refl _
  | k + 1 => by unfold seg; have := seg_len l f i k; split <;> simp <;> omega
theorem sen_len (l : List UInt8) (K : Nat) (f : Nat → List UInt8) : ∀ i, (sen l K f i).length ≤ ap f i
  | 0 => Nat.le_refl _
  | i + 1 => by
    unfold sen; rw [ap_succ]
    have h1 := sen_len l K f i
    have h2 := seg_len l f i (f i).length
    split <;> simp <;> omega

set_option maxHeartbeats 16000000 in
theorem sen_loop (ao : Option Addr) (n c : Nat) (l : List UInt8) (K : Nat) (f : Nat → List UInt8) (w : World) (hK : K ≤ 1048577) (hn : n ≤ 1048576) (hM : ∀ i, i < K → ap f i + (f i).length ≤ n)
    (HT : Hid (Tx w ao n c l)) (HS : Hid (Calls Tryd.prog 26 #[.slice ao n c] w fun e w' => ∃ v, e = .returned v ∧ Ls w' v K f ∧ Below w.heap.size w w')) :
    Calls Tryd.prog 19 #[.slice ao n c] w fun e w' => ∃ v, e = .returned v ∧ Il w' v (sen l K f K) ∧ Below w.heap.size w w' := by
  obtain ⟨i0, hi, hz0, hz1, hz2⟩ := info_parts info3
  obtain ⟨L, hL⟩ : ∃ L, L = sen l K f K := ⟨_, rfl⟩
  rw [← hL]
  have HLL := Hid.mk' hL
  clear hL
  have HM := Hid.mk' hM
  have HAM := Hid.mk' (ap_mono f K n hM)
  clear hM
  go_enter Tryd.func19, Tryd.ntmps19
  go_wp2_with fail
  refine HS.out.mono ?_
  rintro e w1 ⟨v, rfl, hls, hb1⟩
  have LS := Hid.mk' hls
  have B1 := Hid.mk' hb1
  clear hls hb1 HS
  obtain ⟨av, cv, rfl⟩ := LS.out.top
  go_wp2
  go_loopg [4, 5, 6] K (fun g x6 x7 x8 wx => ∃ i : Nat, i + g = K ∧ x7 = .int .i64 (ap f i : Nat) ∧ x8 = .int .i64 (i : Int) ∧ Hid (wx.ownsRow w1.heap.size 3 1 x6 (sen l K f i).length (iv (sen l K f i))) ∧ Hid (Below w1.heap.size w1 wx))
  case atStart => exact ⟨0, by omega, rfl, rfl, World.ownsRow_nil _ _ _ _, Below.refl _ _⟩
  case round =>
    obtain ⟨i, hig, rfl, rfl, HO, HB⟩ := hrel
    obtain ⟨ax, cx, hax⟩ := own_shape HO.out
    subst hax
    have hi0 : (0 : Int) ≤ (i : Int) := by omega
    have hib : (i : Int) ≤ 1048577 := by omega
    cases gk with
    | zero =>
      have hix : ¬ ((i : Int) < (K : Int)) := by omega
      have HF : Hid (wr.ownsRow w1.heap.size 3 1 (.slice ax (sen l K f i).length cx) L.length (iv L)) := by
        unfold Hid; have := HO.out; obtain rfl : i = K := (by omega); rw [HLL.out]; exact this
      generalize (sen l K f i).length = m at *
      go_wp2
      go_ret
      exact ⟨_, rfl, il_own HF.out, bT B1.out HB.out⟩
    | succ g =>
      have hix : (i : Int) < (K : Int) := by omega
      have hpl := sen_len l K f i
      have hap := HAM.out i (by omega)
      have hfl := HM.out i (by omega)
      have hw2 : IntKind.i64.wrap ((i : Int) - 1) = (i : Int) - 1 := by rw [IntKind.wrap_i64]; omega
      have LX := Hid.mk' (LS.out.keep HB.out)
      obtain ⟨gl, cl, ai, ci, ecl, hcl, htx⟩ := LS.out.each i (by omega)
      cases ecl
      have HCL := Hid.mk' hcl
      have HTX := Hid.mk' htx
      clear hcl htx
      have C1 := Hid.mk' (empty_any _ K f (i : Int) wr LX)
      have C2 := Hid.mk' (empty_any _ K f ((i : Int) - 1) wr LX)
      have hwa : IntKind.i64.wrap ((ap f i : Nat) + ((f i).length : Int)) = (ap f i : Nat) + ((f i).length : Int) := by rw [IntKind.wrap_i64]; omega
      have hwb : IntKind.i64.wrap ((ap f i : Nat) + ((f i).length : Int) + 1) = ((ap f (i + 1) : Nat) : Int) := by rw [IntKind.wrap_i64, ap_succ]; omega
      have HSE : Hid (sen l K f (i + 1) = sen l K f i ++ (if sec K f i = true then [ap f i] else []) ++ seg l f i (f i).length) := rfl
      have HSC : Hid (sec K f i = (emq K f i && !emq K f ((i : Int) - 1))) := rfl
      -- BODY
      cases e1 : emq K f i with
      | false =>
        rw [e1] at C1
        have HSN : Hid (sen l K f (i + 1) = sen l K f i ++ seg l f i (f i).length) := by unfold Hid; rw [HSE.out, if_neg (by rw [HSC.out, e1]; simp), List.append_nil]
        clear e1
        generalize hap1 : ap f (i + 1) = a1 at *
        have HAQ := Hid.mk' hap1
        clear hap1
        generalize ha0 : ap f i = a0 at *
        have HA0 := Hid.mk' ha0
        clear ha0
        generalize hm0 : (f i).length = m0 at *
        have HM0 := Hid.mk' hm0
        clear hm0
        generalize hl1 : sen l K f i = L1 at *
        clear hl1
        go_wp2_with (first | (go_at_call 27; with_reducible (refine C1.out.mono ?_); rintro e w' ⟨rfl, hw⟩; have hq := hw.symm; subst hq; clear hw) | (go_at_call 27; with_reducible (refine C2.out.mono ?_); rintro e w' ⟨rfl, hw⟩; have hq := hw.symm; subst hq; clear hw) | fail)
        go_loopg [4, 7] m0 (fun gg x4 x7 wy => ∃ k : Nat, k + gg = m0 ∧ x7 = .int .i64 (k : Int) ∧ Hid (wy.ownsRow w1.heap.size 3 1 x4 (L1 ++ seg l f i k).length (iv (L1 ++ seg l f i k))) ∧ Hid (Below w1.heap.size w1 wy))
        case atStart => exact ⟨0, by omega, rfl, by unfold Hid seg; rw [List.append_nil]; exact HO.out, HB.out⟩
        case round =>
          clear HO HB LX
          obtain ⟨k, hkg, rfl, HO, HB⟩ := hrel
          obtain ⟨ay, cy, hay⟩ := own_shape HO.out
          subst hay
          have k0 : (0 : Int) ≤ (k : Int) := by omega
          have kb : (k : Int) ≤ 1048577 := by omega
          have hcl := keepC HB.out HCL.out
          have hsl := seg_len l f i k
          have hLL : (L1 ++ seg l f i k).length ≤ 3000000 := by rw [List.length_append]; omega
          cases gk with
          | zero =>
            have hkm : ¬ ((k : Int) < (m0 : Int)) := by omega
            have HF : Hid (wr.ownsRow w1.heap.size 3 1 (.slice ay (L1 ++ seg l f i k).length cy) (sen l K f (i + 1)).length (iv (sen l K f (i + 1)))) := by
              unfold Hid; have := HO.out; rw [HSN.out]; obtain rfl : k = m0 := (by omega); exact this
            generalize (L1 ++ seg l f i k).length = q0 at *
            go_wp2
            go_roundg g
            case measure => omega
            case rel => exact ⟨i + 1, by omega, by rw [HAQ.out], by go_num, HF.out, HB.out⟩
          | succ gg =>
            have hkm : (k : Int) < (m0 : Int) := by omega
            have TW := HTX.out.keep HB.out
            obtain ⟨gi, oi, rfl, hcb⟩ := TW.at (by omega)
            clear hcb
            have cb := cell_bi' TW (j := k) (by omega)
            clear TW
            have C3 := Hid.mk' (blank_any (bi (f i) k) wr)
            have C4 := Hid.mk' (begins_any (b := a0 + k) (by omega) (Hid.mk' (HT.out.keep (bT B1.out HB.out))))
            have hwk : IntKind.i64.wrap ((a0 : Int) + (k : Int)) = ((a0 + k : Nat) : Int) := by rw [IntKind.wrap_i64]; omega
            have HSG : Hid (seg l f i (k + 1) = seg l f i k ++ (if (!blk (bi (f i) k) && bgr l (a0 + k) (a0 + k)) = true then [a0 + k] else [])) := by unfold Hid; rw [seg, sgc, HA0.out]
            generalize bi (f i) k = y at *
            generalize hbk : blk y = yb at *
            clear hbk
            generalize bgr l (a0 + k) (a0 + k) = yr at *
            generalize hL2 : L1 ++ seg l f i k = L2 at *
            have HL2 := Hid.mk' hL2
            clear hL2
            generalize hak : a0 + k = ak at *
            have HAK := Hid.mk' hak
            clear hak
            cases yb with
            | true =>
              have HE : Hid (L1 ++ seg l f i (k + 1) = L2) := by unfold Hid; rw [HSG.out, if_neg (by simp), List.append_nil]; exact HL2.out
              go_wp2_with (go_at_call 28; refine C3.out.mono ?_; rintro e w' ⟨rfl, hw⟩; have hq := hw.symm; subst hq; clear hw)
              go_roundg gg
              case measure => omega
              case rel => exact ⟨k + 1, by omega, by go_num, by unfold Hid; rw [HE.out]; exact HO.out, HB.out⟩
            | false =>
              cases yr with
              | false =>
                have HE : Hid (L1 ++ seg l f i (k + 1) = L2) := by unfold Hid; rw [HSG.out, if_neg (by simp), List.append_nil]; exact HL2.out
                go_wp2_with (first | (go_at_call 28; refine C3.out.mono ?_; rintro e w' ⟨rfl, hw⟩; have hq := hw.symm; subst hq; clear hw) | (go_at_call 29; refine C4.out.mono ?_; rintro e w' ⟨rfl, hw⟩; have hq := hw.symm; subst hq; clear hw))
                go_roundg gg
                case measure => omega
                case rel => exact ⟨k + 1, by omega, by go_num, by unfold Hid; rw [HE.out]; exact HO.out, HB.out⟩
              | true =>
                have HE : Hid (L1 ++ seg l f i (k + 1) = L2 ++ [ak]) := by unfold Hid; rw [HSG.out, if_pos (by simp), ← List.append_assoc, HL2.out]
                go_wp2_with (first | (go_at_call 28; refine C3.out.mono ?_; rintro e w' ⟨rfl, hw⟩; have hq := hw.symm; subst hq; clear hw) | (go_at_call 29; refine C4.out.mono ?_; rintro e w' ⟨rfl, hw⟩; have hq := hw.symm; subst hq; clear hw) | (at_builtin; refine append_srv rfl (.tmp 55) (.tmp 59) 46 rfl w1.heap.size 3 i0 (.int .i64 0) 1 8 Tryd.underlying46 hi hz0 hz1 hz2 rfl (by decide) (.slice ay L2.length cy) L2.length (iv L2) rfl (HO.out.alloc _) (.slice (some ⟨wr.heap.size, 0, none⟩) 1 1) 1 [.int .i64 (ak : Int)] rfl (.inr ⟨⟨wr.heap.size, 0, none⟩, 1, rfl, fun k u hk => lit_cells wr _ 3 k u hk⟩) rfl (iv_one _) (by unfold maxLen; omega) (by omega) (bAlloc HB.out _).size ?_))
                intro v2 w5 hown hgrow _
                have L5 : Hid (Below w1.heap.size w1 w5) := (bAlloc HB.out _).grown hgrow (bAlloc HB.out _).size (fun k hk => (HO.out.lt k hk).1)
                have O5 : Hid (w5.ownsRow w1.heap.size 3 1 v2 (L2 ++ [ak]).length (iv (L2 ++ [ak]))) := by unfold Hid; rw [← iv_snoc, List.length_append]; exact hown
                clear hown hgrow hcl
                go_wp2
                go_roundg gg
                case measure => omega
                case rel => exact ⟨k + 1, by omega, by go_num, by unfold Hid; rw [HE.out]; exact O5.out, L5.out⟩
      | true =>
        rw [e1] at C1
        cases e2 : emq K f ((i : Int) - 1) with
        | true =>
          rw [e2] at C2
          have HSN : Hid (sen l K f (i + 1) = sen l K f i ++ seg l f i (f i).length) := by unfold Hid; rw [HSE.out, if_neg (by rw [HSC.out, e2]; simp), List.append_nil]
          clear e1 e2
          generalize hap1 : ap f (i + 1) = a1 at *
          have HAQ := Hid.mk' hap1
          clear hap1
          generalize ha0 : ap f i = a0 at *
          have HA0 := Hid.mk' ha0
          clear ha0
          generalize hm0 : (f i).length = m0 at *
          have HM0 := Hid.mk' hm0
          clear hm0
          generalize hl1 : sen l K f i = L1 at *
          clear hl1
          go_wp2_with (first | (go_at_call 27; with_reducible (refine C1.out.mono ?_); rintro e w' ⟨rfl, hw⟩; have hq := hw.symm; subst hq; clear hw) | (go_at_call 27; with_reducible (refine C2.out.mono ?_); rintro e w' ⟨rfl, hw⟩; have hq := hw.symm; subst hq; clear hw) | fail)
          go_loopg [4, 7] m0 (fun gg x4 x7 wy => ∃ k : Nat, k + gg = m0 ∧ x7 = .int .i64 (k : Int) ∧ Hid (wy.ownsRow w1.heap.size 3 1 x4 (L1 ++ seg l f i k).length (iv (L1 ++ seg l f i k))) ∧ Hid (Below w1.heap.size w1 wy))
          case atStart => exact ⟨0, by omega, rfl, by unfold Hid seg; rw [List.append_nil]; exact HO.out, HB.out⟩
          case round =>
            clear HO HB LX
            obtain ⟨k, hkg, rfl, HO, HB⟩ := hrel
            obtain ⟨ay, cy, hay⟩ := own_shape HO.out
            subst hay
            have k0 : (0 : Int) ≤ (k : Int) := by omega
            have kb : (k : Int) ≤ 1048577 := by omega
            have hcl := keepC HB.out HCL.out
            have hsl := seg_len l f i k
            have hLL : (L1 ++ seg l f i k).length ≤ 3000000 := by rw [List.length_append]; omega
            cases gk with
            | zero =>
              have hkm : ¬ ((k : Int) < (m0 : Int)) := by omega
              have HF : Hid (wr.ownsRow w1.heap.size 3 1 (.slice ay (L1 ++ seg l f i k).length cy) (sen l K f (i + 1)).length (iv (sen l K f (i + 1)))) := by
                unfold Hid; have := HO.out; rw [HSN.out]; obtain rfl : k = m0 := (by omega); exact this
              generalize (L1 ++ seg l f i k).length = q0 at *
              go_wp2
              go_roundg g
              case measure => omega
              case rel => exact ⟨i + 1, by omega, by rw [HAQ.out], by go_num, HF.out, HB.out⟩
            | succ gg =>
              have hkm : (k : Int) < (m0 : Int) := by omega
              have TW := HTX.out.keep HB.out
              obtain ⟨gi, oi, rfl, hcb⟩ := TW.at (by omega)
              clear hcb
              have cb := cell_bi' TW (j := k) (by omega)
              clear TW
              have C3 := Hid.mk' (blank_any (bi (f i) k) wr)
              have C4 := Hid.mk' (begins_any (b := a0 + k) (by omega) (Hid.mk' (HT.out.keep (bT B1.out HB.out))))
              have hwk : IntKind.i64.wrap ((a0 : Int) + (k : Int)) = ((a0 + k : Nat) : Int) := by rw [IntKind.wrap_i64]; omega
              have HSG : Hid (seg l f i (k + 1) = seg l f i k ++ (if (!blk (bi (f i) k) && bgr l (a0 + k) (a0 + k)) = true then [a0 + k] else [])) := by unfold Hid; rw [seg, sgc, HA0.out]
              generalize bi (f i) k = y at *
              generalize hbk : blk y = yb at *
              clear hbk
              generalize bgr l (a0 + k) (a0 + k) = yr at *
              generalize hL2 : L1 ++ seg l f i k = L2 at *
              have HL2 := Hid.mk' hL2
              clear hL2
              generalize hak : a0 + k = ak at *
              have HAK := Hid.mk' hak
              clear hak
              cases yb with
              | true =>
                have HE : Hid (L1 ++ seg l f i (k + 1) = L2) := by unfold Hid; rw [HSG.out, if_neg (by simp), List.append_nil]; exact HL2.out
                go_wp2_with (go_at_call 28; refine C3.out.mono ?_; rintro e w' ⟨rfl, hw⟩; have hq := hw.symm; subst hq; clear hw)
                go_roundg gg
                case measure => omega
                case rel => exact ⟨k + 1, by omega, by go_num, by unfold Hid; rw [HE.out]; exact HO.out, HB.out⟩
              | false =>
                cases yr with
                | false =>
                  have HE : Hid (L1 ++ seg l f i (k + 1) = L2) := by unfold Hid; rw [HSG.out, if_neg (by simp), List.append_nil]; exact HL2.out
                  go_wp2_with (first | (go_at_call 28; refine C3.out.mono ?_; rintro e w' ⟨rfl, hw⟩; have hq := hw.symm; subst hq; clear hw) | (go_at_call 29; refine C4.out.mono ?_; rintro e w' ⟨rfl, hw⟩; have hq := hw.symm; subst hq; clear hw))
                  go_roundg gg
                  case measure => omega
                  case rel => exact ⟨k + 1, by omega, by go_num, by unfold Hid; rw [HE.out]; exact HO.out, HB.out⟩
                | true =>
                  have HE : Hid (L1 ++ seg l f i (k + 1) = L2 ++ [ak]) := by unfold Hid; rw [HSG.out, if_pos (by simp), ← List.append_assoc, HL2.out]
                  go_wp2_with (first | (go_at_call 28; refine C3.out.mono ?_; rintro e w' ⟨rfl, hw⟩; have hq := hw.symm; subst hq; clear hw) | (go_at_call 29; refine C4.out.mono ?_; rintro e w' ⟨rfl, hw⟩; have hq := hw.symm; subst hq; clear hw) | (at_builtin; refine append_srv rfl (.tmp 55) (.tmp 59) 46 rfl w1.heap.size 3 i0 (.int .i64 0) 1 8 Tryd.underlying46 hi hz0 hz1 hz2 rfl (by decide) (.slice ay L2.length cy) L2.length (iv L2) rfl (HO.out.alloc _) (.slice (some ⟨wr.heap.size, 0, none⟩) 1 1) 1 [.int .i64 (ak : Int)] rfl (.inr ⟨⟨wr.heap.size, 0, none⟩, 1, rfl, fun k u hk => lit_cells wr _ 3 k u hk⟩) rfl (iv_one _) (by unfold maxLen; omega) (by omega) (bAlloc HB.out _).size ?_))
                  intro v2 w5 hown hgrow _
                  have L5 : Hid (Below w1.heap.size w1 w5) := (bAlloc HB.out _).grown hgrow (bAlloc HB.out _).size (fun k hk => (HO.out.lt k hk).1)
                  have O5 : Hid (w5.ownsRow w1.heap.size 3 1 v2 (L2 ++ [ak]).length (iv (L2 ++ [ak]))) := by unfold Hid; rw [← iv_snoc, List.length_append]; exact hown
                  clear hown hgrow hcl
                  go_wp2
                  go_roundg gg
                  case measure => omega
                  case rel => exact ⟨k + 1, by omega, by go_num, by unfold Hid; rw [HE.out]; exact O5.out, L5.out⟩
        | false =>
          rw [e2] at C2
          have HSN : Hid (sen l K f (i + 1) = (sen l K f i ++ [ap f i]) ++ seg l f i (f i).length) := by unfold Hid; rw [HSE.out, if_pos (by rw [HSC.out, e1, e2]; rfl)]
          clear e1 e2
          generalize hap1 : ap f (i + 1) = a1 at *
          have HAQ := Hid.mk' hap1
          clear hap1
          generalize ha0 : ap f i = a0 at *
          have HA0 := Hid.mk' ha0
          clear ha0
          generalize hm0 : (f i).length = m0 at *
          have HM0 := Hid.mk' hm0
          clear hm0
          generalize hl0 : sen l K f i = L0 at *
          clear hl0
          go_wp2_with (first | (go_at_call 27; with_reducible (refine C1.out.mono ?_); rintro e w' ⟨rfl, hw⟩; have hq := hw.symm; subst hq; clear hw) | (go_at_call 27; with_reducible (refine C2.out.mono ?_); rintro e w' ⟨rfl, hw⟩; have hq := hw.symm; subst hq; clear hw) | (at_builtin; refine append_srv rfl (.tmp 26) (.tmp 28) 46 rfl w1.heap.size 3 i0 (.int .i64 0) 1 8 Tryd.underlying46 hi hz0 hz1 hz2 rfl (by decide) (.slice ax L0.length cx) L0.length (iv L0) rfl (HO.out.alloc _) (.slice (some ⟨wr.heap.size, 0, none⟩) 1 1) 1 [.int .i64 (a0 : Int)] rfl (.inr ⟨⟨wr.heap.size, 0, none⟩, 1, rfl, fun k u hk => lit_cells wr _ 3 k u hk⟩) rfl (iv_one _) (by unfold maxLen; omega) (by omega) (bAlloc HB.out _).size ?_))
          intro v2 w5 hown hgrow _
          have L6 : Hid (Below w1.heap.size w1 w5) := (bAlloc HB.out _).grown hgrow (bAlloc HB.out _).size (fun k hk => (HO.out.lt k hk).1)
          have O6 : Hid (w5.ownsRow w1.heap.size 3 1 v2 (L0 ++ [a0]).length (iv (L0 ++ [a0]))) := by unfold Hid; rw [← iv_snoc, List.length_append]; exact hown
          have hl1 : (L0 ++ [a0]).length ≤ a0 + 1 := by rw [List.length_append]; simp; omega
          clear hown hgrow HO HB LX hpl
          have HB := L6
          generalize L0 ++ [a0] = L1 at *
          have LX := HB
          go_wp2
          go_loopg [4, 7] m0 (fun gg x4 x7 wy => ∃ k : Nat, k + gg = m0 ∧ x7 = .int .i64 (k : Int) ∧ Hid (wy.ownsRow w1.heap.size 3 1 x4 (L1 ++ seg l f i k).length (iv (L1 ++ seg l f i k))) ∧ Hid (Below w1.heap.size w1 wy))
          case atStart => exact ⟨0, by omega, rfl, by unfold Hid seg; rw [List.append_nil]; exact O6.out, L6.out⟩
          case round =>
            clear O6 L6 HB LX
            obtain ⟨k, hkg, rfl, HO, HB⟩ := hrel
            obtain ⟨ay, cy, hay⟩ := own_shape HO.out
            subst hay
            have k0 : (0 : Int) ≤ (k : Int) := by omega
            have kb : (k : Int) ≤ 1048577 := by omega
            have hcl := keepC HB.out HCL.out
            have hsl := seg_len l f i k
            have hLL : (L1 ++ seg l f i k).length ≤ 3000000 := by rw [List.length_append]; omega
            cases gk with
            | zero =>
              have hkm : ¬ ((k : Int) < (m0 : Int)) := by omega
              have HF : Hid (wr.ownsRow w1.heap.size 3 1 (.slice ay (L1 ++ seg l f i k).length cy) (sen l K f (i + 1)).length (iv (sen l K f (i + 1)))) := by
                unfold Hid; have := HO.out; rw [HSN.out]; obtain rfl : k = m0 := (by omega); exact this
              generalize (L1 ++ seg l f i k).length = q0 at *
              go_wp2
              go_roundg g
              case measure => omega
              case rel => exact ⟨i + 1, by omega, by rw [HAQ.out], by go_num, HF.out, HB.out⟩
            | succ gg =>
              have hkm : (k : Int) < (m0 : Int) := by omega
              have TW := HTX.out.keep HB.out
              obtain ⟨gi, oi, rfl, hcb⟩ := TW.at (by omega)
              clear hcb
              have cb := cell_bi' TW (j := k) (by omega)
              clear TW
              have C3 := Hid.mk' (blank_any (bi (f i) k) wr)
              have C4 := Hid.mk' (begins_any (b := a0 + k) (by omega) (Hid.mk' (HT.out.keep (bT B1.out HB.out))))
              have hwk : IntKind.i64.wrap ((a0 : Int) + (k : Int)) = ((a0 + k : Nat) : Int) := by rw [IntKind.wrap_i64]; omega
              have HSG : Hid (seg l f i (k + 1) = seg l f i k ++ (if (!blk (bi (f i) k) && bgr l (a0 + k) (a0 + k)) = true then [a0 + k] else [])) := by unfold Hid; rw [seg, sgc, HA0.out]
              generalize bi (f i) k = y at *
              generalize hbk : blk y = yb at *
              clear hbk
              generalize bgr l (a0 + k) (a0 + k) = yr at *
              generalize hL2 : L1 ++ seg l f i k = L2 at *
              have HL2 := Hid.mk' hL2
              clear hL2
              generalize hak : a0 + k = ak at *
              have HAK := Hid.mk' hak
              clear hak
              cases yb with
              | true =>
                have HE : Hid (L1 ++ seg l f i (k + 1) = L2) := by unfold Hid; rw [HSG.out, if_neg (by simp), List.append_nil]; exact HL2.out
                go_wp2_with (go_at_call 28; refine C3.out.mono ?_; rintro e w' ⟨rfl, hw⟩; have hq := hw.symm; subst hq; clear hw)
                go_roundg gg
                case measure => omega
                case rel => exact ⟨k + 1, by omega, by go_num, by unfold Hid; rw [HE.out]; exact HO.out, HB.out⟩
              | false =>
                cases yr with
                | false =>
                  have HE : Hid (L1 ++ seg l f i (k + 1) = L2) := by unfold Hid; rw [HSG.out, if_neg (by simp), List.append_nil]; exact HL2.out
                  go_wp2_with (first | (go_at_call 28; refine C3.out.mono ?_; rintro e w' ⟨rfl, hw⟩; have hq := hw.symm; subst hq; clear hw) | (go_at_call 29; refine C4.out.mono ?_; rintro e w' ⟨rfl, hw⟩; have hq := hw.symm; subst hq; clear hw))
                  go_roundg gg
                  case measure => omega
                  case rel => exact ⟨k + 1, by omega, by go_num, by unfold Hid; rw [HE.out]; exact HO.out, HB.out⟩
                | true =>
                  have HE : Hid (L1 ++ seg l f i (k + 1) = L2 ++ [ak]) := by unfold Hid; rw [HSG.out, if_pos (by simp), ← List.append_assoc, HL2.out]
                  go_wp2_with (first | (go_at_call 28; refine C3.out.mono ?_; rintro e w' ⟨rfl, hw⟩; have hq := hw.symm; subst hq; clear hw) | (go_at_call 29; refine C4.out.mono ?_; rintro e w' ⟨rfl, hw⟩; have hq := hw.symm; subst hq; clear hw) | (at_builtin; refine append_srv rfl (.tmp 55) (.tmp 59) 46 rfl w1.heap.size 3 i0 (.int .i64 0) 1 8 Tryd.underlying46 hi hz0 hz1 hz2 rfl (by decide) (.slice ay L2.length cy) L2.length (iv L2) rfl (HO.out.alloc _) (.slice (some ⟨wr.heap.size, 0, none⟩) 1 1) 1 [.int .i64 (ak : Int)] rfl (.inr ⟨⟨wr.heap.size, 0, none⟩, 1, rfl, fun k u hk => lit_cells wr _ 3 k u hk⟩) rfl (iv_one _) (by unfold maxLen; omega) (by omega) (bAlloc HB.out _).size ?_))
                  intro v2 w5 hown hgrow _
                  have L5 : Hid (Below w1.heap.size w1 w5) := (bAlloc HB.out _).grown hgrow (bAlloc HB.out _).size (fun k hk => (HO.out.lt k hk).1)
                  have O5 : Hid (w5.ownsRow w1.heap.size 3 1 v2 (L2 ++ [ak]).length (iv (L2 ++ [ak]))) := by unfold Hid; rw [← iv_snoc, List.length_append]; exact hown
                  clear hown hgrow hcl
                  go_wp2
                  go_roundg gg
                  case measure => omega
                  case rel => exact ⟨k + 1, by omega, by go_num, by unfold Hid; rw [HE.out]; exact O5.out, L5.out⟩

end Go.Proofs.YtkapddemgodamaaDoor
