/- The reference's Hits. -/
import Derived.Test.YtaakgoojcogbcaaZHtp
import Derived.Test.YtaakgoojcogbcaaZRsw
import Derived.Test.YtaakgoojcogbcaaXn
import Derived.Test.YtaakgoojcogbcaaXp
namespace Go.Proofs.Ytaakgoojcogbcaa
open Go.RowKit
theorem nvs_snoc (xs : List Nat) (y : Nat) : nvs (xs ++ [y]) = nvs xs ++ [.int .i64 (y : Int)] := by simp [nvs]
theorem nvs_len (xs : List Nat) : (nvs xs).length = xs.length := by simp [nvs]
theorem refRest_at' (ao : Option Addr) (n c k : Nat) (l : List UInt8) (w : World) (hk : k ≤ n) (HT : Hid (Tx w ao n c l)) :
    Calls Try.prog 68 #[.slice ao n c, .int .i64 (k : Int)] w fun e w' => e = .returned (.int .i64 (rs l k : Int)) ∧ w' = w := by
  have hlen := HT.out.len
  have hbig := HT.out.big
  have := refRest_any ao n c (k : Int) l w (by omega) (by omega) HT
  rw [show cl l (k : Int) = k by unfold cl; rw [if_neg (by omega), if_neg (by omega)]; omega] at this
  exact this
/-- what Hits answers -/
def HiP (l : List Th) (t : List UInt8) (w : World) (e : Ending) (w' : World) : Prop := ∃ v, e = .returned v ∧ w'.ownsRow w.heap.size 3 1 v (hs l t).length (nvs (hs l t)) ∧ Below w.heap.size w w'
set_option maxRecDepth 8000 in
set_option maxHeartbeats 16000000 in
theorem hits_any (HSC : SearchC) (w : World) (ao : Option Addr) (n c : Nat) (t : List UInt8) (ap : Option Addr) (np cp_ : Nat) (p : List UInt8) (hn : n ≤ 1048576) (hg : gd p) (HT : Hid (Tx w ao n c t)) (HP : Hid (Tx w ap np cp_ p)) :
    Calls Try.prog 41 #[.slice ao n c, .slice ap np cp_] w fun e w' => HiP (cmp p).2 t w e w' := by
  have hlen := HT.out.len
  obtain ⟨i0, hi, hz0, hz1, hz2⟩ := infoI
  obtain ⟨l, HL⟩ : ∃ l, Hid ((cmp p).2 = l) := ⟨_, rfl⟩
  have CRF := Hid.mk' (fun W (h : Below w.heap.size w W) ai lw ci LI f (ht : Tx W ai lw ci LI) => rfind_any HSC W ap np cp_ p ai lw ci LI f (HP.out.keep h) ht)
  have HG : Hid (p.length ≤ 256 ∧ (cmp p).1 = -1) := hg
  go_enter Try.func41, Try.ntmps41
  go_wp2_with fail
  refine (refSplit_any ao n c t w (by omega) HT).mono ?_
  rintro e w7 ⟨v, Dv, rfl, hR, hD⟩
  have HV : Hid (Ls w7 v (nl t + 1) (ln t)) := ls_of 0 hR (fun j _ => by rw [Nat.zero_add]) hD (fun i hi => by rw [ln_length (by omega)]; have := en_le (sp_le (t := t) (n := i) (by omega)); omega)
  have B7 := Hid.mk' hR.bel
  obtain ⟨av, cv, hv⟩ := HV.out.top
  subst hv
  clear hR hD
  have hN : nl t ≤ n := by have := nl_le t; omega
  have HSP : Hid (∀ i, i ≤ nl t → sp t i + (ln t i).length ≤ n) := fun i hi => by
    have h1 := en_le (sp_le hi); have h2 := en_ge t (sp t i)
    rw [ln_length hi]; omega
  have HST : Hid (∀ i, i ≤ nl t → (i + 1 ≤ nl t → sp t (i + 1) = sp t i + (ln t i).length + 1) ∧ (i = nl t → n + 1 = sp t i + (ln t i).length + 1)) := fun i hi => by
    have h2 := en_ge t (sp t i)
    refine ⟨fun h => ?_, fun h => ?_⟩
    · have := (sp_next h).2
      rw [ln_length hi, this]; omega
    · have hs := sp_st hi
      have : en t (sp t i) = t.length := by
        rcases Nat.lt_or_ge (en t (sp t i)) t.length with g | g
        · have := (hs.next g).low; omega
        · have := en_le (sp_le hi); omega
      rw [ln_length hi, this, hlen]
      have := sp_le hi
      omega
  have HMP : Hid (∀ i a, i ≤ nl t → a ≤ (ln t i).length → mp l t (sp t i + a) = mt l (ln t i) a) := fun i a hi ha => by
    rw [ln_length hi] at ha
    obtain ⟨e1, e2, e3⟩ := ln_lp hi ha
    have h1 := sp_le hi
    have h2 := en_le h1
    have h3 := en_ge t (sp t i)
    rw [mp_in (p := sp t i + a) (by omega) (by rw [e2]; omega) (by rw [e3]; omega), e1, e2, Nat.add_sub_cancel_left]
  go_wp2_with fail
  go_loopg [5, 7, 8, 9, 10, 11, 12, 13] (nl t + 1) (fun m x5 x7 x8 x9 x10 x11 x12 x13 wx => ∃ i s : Nat, x8 = .int .i64 (i : Int) ∧ x7 = .int .i64 (s : Int) ∧ i + m = nl t + 1 ∧ s ≤ n + 1 ∧ Hid (i ≤ nl t → s = sp t i) ∧ Hid (i = nl t + 1 → s = n + 1) ∧ Hid (Below w7.heap.size w7 wx) ∧ Hid (wx.ownsRow w7.heap.size 3 1 x5 (hr l t s).length (nvs (hr l t s))))
  case atStart => exact ⟨0, 0, rfl, rfl, by omega, by omega, fun _ => (sp_eq (St.zero t)).symm, fun h => by omega, Below.refl _ _, rfl, .inl ⟨rfl, rfl⟩⟩
  case round =>
    obtain ⟨i, s, rfl, rfl, him, hsn, HS1, HS2, LB, HO⟩ := hrel
    obtain ⟨a5, c5, e5⟩ := own_shape HO.out
    subst e5
    cases gk with
    | zero =>
      have hi1 : ¬ ((i : Int) < ((nl t + 1 : Nat) : Int)) := by omega
      have hi2 : ¬ ((i : Int) < (nl t : Int) + 1) := by omega
      have hsE := HS2.out (by omega)
      have HF : Hid (wr.ownsRow w.heap.size 3 1 (.slice a5 (hr l t s).length c5) (hs l t).length (nvs (hs l t))) := by
        have := own_lower HO.out B7.out.size
        have e : hr l t s = hs l t := by rw [hsE, ← hlen]; exact hr_end
        rw [e] at this ⊢
        exact this
      clear hsE
      go_wp2
      go_ret
      exact ⟨_, rfl, by rw [HL.out]; exact HF.out, bT B7.out LB.out⟩
    | succ m9 =>
      have hi1 : (i : Int) < ((nl t + 1 : Nat) : Int) := by omega
      have hi2 : (i : Int) < (nl t : Int) + 1 := by omega
      have hil : i ≤ nl t := by omega
      have hsp := HS1.out hil
      obtain ⟨g, c', ai, ci, hv, hcell, hti⟩ := (HV.out.keep LB.out).each i (by omega)
      have hav : av = some ⟨g, 0, none⟩ := by simp at hv; exact hv.1
      subst hav
      have hgl : g < w7.heap.size := by
        obtain ⟨g2, c2, a2, d2, h1, h2, _⟩ := HV.out.each i (by omega)
        have e : g2 = g := by injection h1 with h1 _ _; injection h1 with h1; injection h1 with h1 _ _; exact h1.symm
        subst e
        exact lt_of_cell h2
      have HGC : Hid (∀ W', Below w7.heap.size w7 W' → W'.cell? ⟨g, i, none⟩ = some (.slice ai (ln t i).length ci) ∧ Tx W' ai (ln t i).length ci (ln t i)) := fun W' hb => by
        obtain ⟨g2, c2, a2, d2, h1, h2, h3⟩ := (HV.out.keep hb).each i (by omega)
        have e : g2 = g := by injection h1 with h1 _ _; injection h1 with h1; injection h1 with h1 _ _; exact h1.symm
        subst e
        have h5 : W'.cell? ⟨g2, i, none⟩ = w7.cell? ⟨g2, i, none⟩ := hb.cell (show (⟨g2, i, none⟩ : Addr).block < w7.heap.size from hgl)
        have h6 : wr.cell? ⟨g2, i, none⟩ = w7.cell? ⟨g2, i, none⟩ := LB.out.cell (show (⟨g2, i, none⟩ : Addr).block < w7.heap.size from hgl)
        rw [h2, ← h6, hcell] at h5
        injection h5 with h5
        injection h5 with q1 q2 q3
        subst q1 q3
        exact ⟨h2, h3⟩
      have hSL := HSP.out i hil
      have HMI := Hid.mk' (fun a ha => HMP.out i a hil ha)
      have HSI := Hid.mk' (HST.out i hil)
      rw [← hsp] at hSL HMI HSI
      obtain ⟨LI, HLI⟩ : ∃ L, Hid (ln t i = L) := ⟨_, rfl⟩
      obtain ⟨lw, HLN⟩ : ∃ m, Hid ((ln t i).length = m) := ⟨_, rfl⟩
      rw [HLN.out] at HGC hSL HMI HSI
      rw [HLI.out] at HGC HMI
      clear hcell hti hv hsp HS1 HS2
      have hlw : lw ≤ 1048576 := by omega
      have hrl0 := hr_len (l := l) (t := t) s
      go_wp2_with fail
      go_loopg [5, 9, 10, 11, 12, 13] (lw + 1) (fun m x5 x9 x10 x11 x12 x13 wx => ∃ a : Nat, x9 = .int .i64 (a : Int) ∧ a + m = lw + 1 ∧ Hid (Below w7.heap.size w7 wx) ∧ Hid (wx.ownsRow w7.heap.size 3 1 x5 (hr l t (s + a)).length (nvs (hr l t (s + a)))))
      case atStart => exact ⟨0, rfl, by omega, LB.out, HO.out⟩
      case round =>
        clear LB HO
        obtain ⟨a, rfl, ham, LB, HO⟩ := hrel
        obtain ⟨a6, c6, e6⟩ := own_shape HO.out
        subst e6
        obtain ⟨cg, tg9⟩ := HGC.out _ LB.out
        have hw5 : IntKind.i64.wrap ((lw : Int) + 1) = (lw : Int) + 1 := by rw [IntKind.wrap_i64]; omega
        have hw6 : IntKind.i64.wrap ((s : Int) + ((lw : Int) + 1)) = ((s + lw + 1 : Nat) : Int) := by rw [IntKind.wrap_i64]; omega
        have hw7 : IntKind.i64.wrap ((i : Int) + 1) = ((i + 1 : Nat) : Int) := by rw [IntKind.wrap_i64]; omega
        cases gk with
        | zero =>
          have ha1 : ¬ ((a : Int) ≤ (lw : Int)) := by omega
          have haE : a = lw + 1 := by omega
          subst haE
          clear tg9
          go_wp2_with fail
          go_roundg m9
          case measure => omega
          case rel => exact ⟨i + 1, s + lw + 1, rfl, rfl, by omega, by omega, fun h => (HSI.out.1 h).symm, fun h => (HSI.out.2 (by omega)).symm, LB.out, by rw [Nat.add_assoc]; exact HO.out⟩
        | succ m8 =>
          have ha1 : (a : Int) ≤ (lw : Int) := by omega
          have CF := Hid.mk' (CRF.out wr (bT B7.out LB.out) ai lw ci LI (a : Int) tg9)
          have HTL := Hid.mk' tg9.len
          clear tg9
          go_wp2_with fail
          refine CF.out.mono ?_
          rintro e wf ⟨hbf, fa, fb, ok, rfl, hfi⟩
          have hfi2 := hfi HG.out
          rw [HL.out] at hfi2
          have hfs : FS l LI a fa fb ok := by
            rcases hfi2 with ⟨h9, _⟩ | ⟨_, _, h9⟩
            · have := HTL.out; omega
            · rw [Int.toNat_natCast] at h9; exact h9
          have BF := Hid.mk' (bT LB.out hbf)
          have OF := Hid.mk' (own_keep HO.out hbf)
          have cgf := (HGC.out _ BF.out).1
          clear hfi hfi2 hbf CF LB HO cg
          cases ok with
          | false =>
            have HE : Hid (hr l t (s + lw + 1) = hr l t (s + a)) := by
              have := hr_skip (l := l) (t := t) (q := s + a) (lw + 1 - a) (fun q q1 q2 => by
                have h1 := HMI.out (q - s) (by omega)
                rw [show s + (q - s) = q by omega] at h1
                rw [h1]; exact hfs.not _ (by omega))
              rw [show s + a + (lw + 1 - a) = s + lw + 1 by omega] at this
              exact this
            clear hfs
            go_wp2_with fail
            go_roundg m9
            case measure => omega
            case rel => exact ⟨i + 1, s + lw + 1, rfl, rfl, by omega, by omega, fun h => (HSI.out.1 h).symm, fun h => (HSI.out.2 (by omega)).symm, BF.out, by rw [HE.out]; exact OF.out⟩
          | true =>
            obtain ⟨y1, y2, y3, y4⟩ := hfs.yes
            have hfal : fa ≤ lw := by have := HTL.out; omega
            have hafa : a ≤ fa := y1
            have hEA : hr l t (s + fa) = hr l t (s + a) := by
              have := hr_skip (l := l) (t := t) (q := s + a) (fa - a) (fun q q1 q2 => by
                have h1 := HMI.out (q - s) (by omega)
                rw [show s + (q - s) = q by omega] at h1
                rw [h1]; exact y4 _ (by omega) (by omega))
              rw [show s + a + (fa - a) = s + fa by omega] at this
              exact this
            have hmt : mp l t (s + fa) = true := by rw [HMI.out fa hfal]; exact y3
            have hstep := hr_hit hmt
            have hrs9 := hr_ris (l := l) (t := t) (s + fa)
            have hle9 : ∀ x, x ∈ hr l t (s + fa) → x ≤ rs t (s + fa) := fun x hx => hr_le hx
            have hrl := hr_len (l := l) (t := t) (s + fa)
            rw [← hEA] at OF
            have CR := Hid.mk' (refRest_at' ao n c (s + fa) t wf (by omega) (HT.out.keep (bT B7.out BF.out)))
            have hw9 : IntKind.i64.wrap ((s : Int) + (fa : Int)) = ((s + fa : Nat) : Int) := by rw [IntKind.wrap_i64]; omega
            have hw8 : IntKind.i64.wrap ((fa : Int) + 1) = ((fa + 1 : Nat) : Int) := by rw [IntKind.wrap_i64]; omega
            obtain ⟨R, HR⟩ : ∃ R, Hid (rs t (s + fa) = R) := ⟨_, rfl⟩
            rw [HR.out] at CR hstep hle9
            obtain ⟨Hq, HHq⟩ : ∃ Hq, Hid (hr l t (s + fa) = Hq) := ⟨_, rfl⟩
            rw [hEA] at HHq
            rw [hEA, HHq.out] at hstep hrs9 hle9 hrl
            rw [hEA, HHq.out] at OF
            rw [HHq.out]
            rw [show s + fa + 1 = s + (fa + 1) by omega] at hstep
            clear hfs y1 y2 y3 y4 hmt hEA
            by_cases hlen0 : Hq.length = 0
            · have hl0 : ((Hq.length : Int) == 0) = true := by rw [hlen0]; rfl
              have hHn : Hq = [] := List.eq_nil_of_length_eq_zero hlen0
              have HN1 : Hid (hr l t (s + (fa + 1)) = Hq ++ [R]) := by
                unfold Hid; rw [hstep, hHn]; rfl
              clear hstep hrs9 hle9 hlen0 hHn
              go_wp2_with fail
              refine CR.out.mono ?_
              rintro e wg ⟨rfl, hwg⟩
              subst hwg
              go_wp2_with (first | (at_builtin; refine append_srv rfl (.tmp 62) (.tmp 64) 23 rfl w7.heap.size 3 i0 (.int .i64 0) 1 8 Try.underlying23 hi hz0 hz1 hz2 rfl (by decide) (.slice a6 Hq.length c6) Hq.length (nvs Hq) rfl (OF.out.alloc _) (.slice (some ⟨wg.heap.size, 0, none⟩) 1 1) 1 [.int .i64 (R : Int)] rfl (.inr ⟨⟨wg.heap.size, 0, none⟩, 1, rfl, fun k u hk => lit_cells wg _ 3 k u hk⟩) rfl (by intro u hu; simp at hu; subst hu; rfl) (by unfold maxLen; omega) (by omega) (bAlloc BF.out _).size ?_))
              intro v5 w5 hown hgrow _
              have B5 := Hid.mk' ((bAlloc BF.out _).grown hgrow (bAlloc BF.out _).size (fun k hk => (OF.out.lt k hk).1))
              have O5 : Hid (w5.ownsRow w7.heap.size 3 1 v5 (hr l t (s + (fa + 1))).length (nvs (hr l t (s + (fa + 1))))) := by
                unfold Hid; rw [HN1.out, nvs_snoc, List.length_append]; exact hown
              clear hown hgrow OF BF
              go_wp2_with fail
              go_roundg (lw - fa)
              case measure => omega
              case rel => exact ⟨fa + 1, rfl, by omega, B5.out, O5.out⟩
            · have hl0 : ((Hq.length : Int) == 0) = false := beq_false_of_ne (by omega)
              obtain ⟨g6, c66, e66, _, _⟩ := own_some OF.out (by omega)
              injection e66 with e1 e2 e3
              subst e1 e3
              have hlast : Hq.getLast? = some (Hq.getD (Hq.length - 1) 0) := by
                rw [List.getLast?_eq_getElem?, List.getElem?_eq_getElem (by omega), getD_at (by omega)]
              have hmem : Hq.getD (Hq.length - 1) 0 ∈ Hq := List.mem_of_getLast? hlast
              have hle := hle9 _ hmem
              have cl1 : wf.cell? ⟨g6, Hq.length - 1, none⟩ = some (.int .i64 (Hq.getD (Hq.length - 1) 0 : Int)) := row_cell OF.out (nvs_at (by omega))
              obtain ⟨Y, HY⟩ : ∃ Y, Hid (Hq.getD (Hq.length - 1) 0 = Y) := ⟨_, rfl⟩
              rw [HY.out] at cl1 hle hlast
              rw [hlast] at hstep
              have hwl : IntKind.i64.wrap ((Hq.length : Int) - 1) = ((Hq.length - 1 : Nat) : Int) := by rw [IntKind.wrap_i64]; omega
              have hwl2 : ((Hq.length - 1 : Nat) : Int) < (Hq.length : Int) := by omega
              by_cases hYR : Y < R
              · have hYR' : decide ((Y : Int) < (R : Int)) = true := decide_eq_true (by omega)
                have hYRn : (Y : Int) < (R : Int) := by omega
                have HN1 : Hid (hr l t (s + (fa + 1)) = Hq ++ [R]) := by
                  unfold Hid; rw [hstep, if_neg (fun e => by injection e with e; omega)]
                clear hstep hrs9 hle9 hmem hlast hle hYR
                go_wp2_with fail
                refine CR.out.mono ?_
                rintro e wg ⟨rfl, hwg⟩
                subst hwg
                go_wp2_with (first | (at_builtin; refine append_srv rfl (.tmp 62) (.tmp 64) 23 rfl w7.heap.size 3 i0 (.int .i64 0) 1 8 Try.underlying23 hi hz0 hz1 hz2 rfl (by decide) (.slice (some ⟨g6, 0, none⟩) Hq.length c6) Hq.length (nvs Hq) rfl (OF.out.alloc _) (.slice (some ⟨wg.heap.size, 0, none⟩) 1 1) 1 [.int .i64 (R : Int)] rfl (.inr ⟨⟨wg.heap.size, 0, none⟩, 1, rfl, fun k u hk => lit_cells wg _ 3 k u hk⟩) rfl (by intro u hu; simp at hu; subst hu; rfl) (by unfold maxLen; omega) (by omega) (bAlloc BF.out _).size ?_))
                intro v5 w5 hown hgrow _
                have B5 := Hid.mk' ((bAlloc BF.out _).grown hgrow (bAlloc BF.out _).size (fun k hk => (OF.out.lt k hk).1))
                have O5 : Hid (w5.ownsRow w7.heap.size 3 1 v5 (hr l t (s + (fa + 1))).length (nvs (hr l t (s + (fa + 1))))) := by
                  unfold Hid; rw [HN1.out, nvs_snoc, List.length_append]; exact hown
                clear hown hgrow OF BF
                go_wp2_with fail
                go_roundg (lw - fa)
                case measure => omega
                case rel => exact ⟨fa + 1, rfl, by omega, B5.out, O5.out⟩
              · have hYR' : decide ((Y : Int) < (R : Int)) = false := decide_eq_false (by omega)
                have hYRn : ¬ ((Y : Int) < (R : Int)) := by omega
                have HN1 : Hid (hr l t (s + (fa + 1)) = Hq) := by
                  unfold Hid; rw [hstep, if_pos (by congr 1; omega)]
                clear hstep hrs9 hle9 hmem hlast
                go_wp2_with fail
                refine CR.out.mono ?_
                rintro e wg ⟨rfl, hwg⟩
                subst hwg
                go_wp2_with fail
                go_roundg (lw - fa)
                case measure => omega
                case rel => exact ⟨fa + 1, rfl, by omega, BF.out, by rw [HN1.out]; exact OF.out⟩
end Go.Proofs.Ytaakgoojcogbcaa
