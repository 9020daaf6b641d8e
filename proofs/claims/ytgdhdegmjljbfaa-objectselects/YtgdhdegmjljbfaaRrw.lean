/- The reference's rows. -/
import Derived.Test.YtgdhdegmjljbfaaRwd
import Derived.Test.YtgdhdegmjljbfaaRefSplit
namespace Go.Proofs.Ytgdhdegmjljbfaa
open Go.RowKit
/-- the reference's runs of lines -/
def pr9 (l : List UInt8) : List Rn3 := rl (ek l) (nl l + 1) (fun x => x) (eg l)
set_option maxRecDepth 8000 in
set_option maxHeartbeats 8000000 in
theorem rows_any (ao : Option Addr) (n c : Nat) (l : List UInt8) (w : World) (hn : n ≤ 4398046511103) (HT : Hid (Tx w ao n c l)) :
    Calls Try.prog 33 #[.slice ao n c] w fun e w' => WqP (pr9 l) w e w' := by
  obtain ⟨i48, hi7, hz7, hs7, hb7⟩ := info_parts info48
  have hlen := HT.out.len
  go_enter Try.func33, Try.ntmps33
  go_wp2_with fail
  refine (refSplit_any ao n c l w (by omega) HT).mono ?_
  rintro e w7 ⟨v, Dv, rfl, hR, hD⟩
  have HV : Hid (Ls w7 v (nl l + 1) (ln l)) := ls_of 0 hR (fun j _ => by rw [Nat.zero_add]) hD (fun i hi => by rw [ln_length (by omega)]; have := en_le (sp_le (t := l) (n := i) (by omega)); omega)
  have B7 := Hid.mk' hR.bel
  obtain ⟨av, cv, hv⟩ := HV.out.top
  subst hv
  clear hR hD
  have hN : nl l ≤ n := by have := nl_le l; omega
  have HPL : Hid (pr9 l = rl (ek l) (nl l + 1) (fun x => x) (eg l)) := rfl
  obtain ⟨N, HN⟩ : ∃ N, Hid (nl l + 1 = N) := ⟨_, rfl⟩
  have hNn : N ≤ n + 1 := by have := HN.out; omega
  rw [HN.out] at HV HPL ⊢
  go_wp2_with fail
  go_loopg [4, 5, 6, 7] N (fun g x4 x5 x6 x7 wx => ∃ i : Nat, x5 = .int .i64 (i : Int) ∧ i + g = N ∧ Hid (wx.ownsRow w7.heap.size 48 3 x4 (rm (ek l) i) (rvs (rl (ek l) i (fun x => x) (eg l)))) ∧ Hid (Below w7.heap.size w7 wx))
  case atStart => exact ⟨0, rfl, by omega, World.ownsRow_nil _ _ _ _, Below.refl _ _⟩
  case round =>
    obtain ⟨i, rfl, hi, HO, LB⟩ := hrel
    obtain ⟨a3, c3, e3⟩ := own_shape HO.out
    subst e3
    have HRI := Hid.mk' (rm_le (ek l) i)
    cases gk with
    | zero =>
      obtain rfl : i = N := by omega
      have h1 : ¬ ((i : Int) < (i : Int)) := by omega
      have HO2 : Hid (wr.ownsRow w7.heap.size 48 3 (.slice a3 (rm (ek l) i) c3) (pr9 l).length (rvs (pr9 l))) := by
        unfold Hid; rw [HPL.out, rl_len]; exact HO.out
      go_wp2
      all_goals go_ret
      all_goals exact ⟨_, rfl, own_lower HO2.out (by have := B7.out.size; omega), bT B7.out LB.out⟩
    | succ g =>
      have h0 : (0 : Int) ≤ (i : Int) := by omega
      have h1 : (i : Int) < (N : Int) := by omega
      have hil : i ≤ nl l := by have := HN.out; omega
      obtain ⟨gl, cl', ai, ci, hv, hcell, hti⟩ := (HV.out.keep LB.out).each i (by omega)
      have hav : av = some ⟨gl, 0, none⟩ := by simp at hv; exact hv.1
      subst hav
      obtain ⟨T, HTT⟩ : ∃ T, Hid (i + 1 = T) := ⟨_, rfl⟩
      have HGG : Hid (eg l i = decide ((ln l i).length = 0)) := rfl
      obtain ⟨lw, HLW⟩ : ∃ lw, Hid ((ln l i).length = lw) := ⟨_, rfl⟩
      rw [HLW.out] at HGG hcell
      have hw3 : IntKind.i64.wrap ((i : Int) + 1) = (T : Int) := by have := HTT.out; rw [IntKind.wrap_i64]; omega
      have hgb : ((lw : Int) == 0) = eg l i := by rw [HGG.out]; by_cases h : lw = 0 <;> simp [h]
      obtain ⟨G, hG⟩ : ∃ G, eg l i = G := ⟨_, rfl⟩
      rw [hG] at hgb
      have HG := Hid.mk' hG
      clear hv hti HLW hG HGG
      obtain ⟨m, Hm⟩ : ∃ m, Hid (rm (ek l) i = m) := ⟨_, rfl⟩
      rw [Hm.out] at HO HRI ⊢
      have hmn : m ≤ n + 1 := by have := HRI.out; omega
      cases i with
      | zero =>
        obtain rfl : m = 0 := by have := HRI.out; omega
        obtain rfl : T = 1 := by have := HTT.out; omega
        have HNW : Hid (rl (ek l) (0 + 1) (fun x => x) (eg l) = rl (ek l) 0 (fun x => x) (eg l) ++ [(0, 1, G)]) := by unfold Hid; rw [rl_new _ _ (.inl rfl), HG.out]
        have HMW : Hid (rm (ek l) (0 + 1) = 1) := by unfold Hid; rw [← rl_len (ek l) (0 + 1) (fun x => x) (eg l), HNW.out]; rfl
        go_wp2_with (at_builtin; refine append_srv rfl (.tmp 43) (.tmp 49) 49 rfl w7.heap.size 48 i48 (.agg #[.int .i64 0, .int .i64 0, .bool false]) 3 24 Try.underlying49 hi7 hz7 hs7 hb7 rfl (by decide) (.slice a3 0 c3) 0 (rvs (rl (ek l) 0 (fun x => x) (eg l))) rfl (HO.out.alloc _) (.slice (some ⟨wr.heap.size, 0, none⟩) 1 1) 1 [.int .i64 0, .int .i64 1, .bool G] rfl (.inr ⟨⟨wr.heap.size, 0, none⟩, 1, rfl, fun k u hk => lit_cells wr _ 48 k u hk⟩) rfl (one3 _ _ _) (by unfold maxLen; omega) (by omega) (bAlloc LB.out _).size ?_)
        intro v5 w5 hown hgrow _
        have L5 : Hid (Below w7.heap.size w7 w5) := (bAlloc LB.out _).grown hgrow (bAlloc LB.out _).size (fun k hk => (HO.out.lt k hk).1)
        have O5 : Hid (w5.ownsRow w7.heap.size 48 3 v5 (rm (ek l) 1) (rvs (rl (ek l) 1 (fun x => x) (eg l)))) := by
          unfold Hid; have e9 := HNW.out; have e8 := HMW.out; rw [Nat.zero_add] at e9 e8; rw [e9, e8, rvs_snoc]; exact hown
        clear hown hgrow
        go_wp2
        go_roundg g
        case measure => omega
        case rel => exact ⟨1, rfl, by have := HTT.out; omega, O5.out, L5.out⟩
      | succ k =>
        obtain ⟨s0, z, hlast, hz, hm1⟩ := rl_last (K := ek l) k (fun x => x) (eg l)
        rw [Hm.out] at hlast hm1
        obtain ⟨D, HD⟩ : ∃ D, Hid (m - 1 = D) := ⟨_, rfl⟩
        rw [HD.out] at hlast
        have HO' : wr.ownsRow w7.heap.size 48 3 (.slice a3 (rl (ek l) (k + 1) (fun x => x) (eg l)).length c3) (rl (ek l) (k + 1) (fun x => x) (eg l)).length (rvs (rl (ek l) (k + 1) (fun x => x) (eg l))) := by rw [rl_len, Hm.out]; exact HO.out
        obtain ⟨g3, e3, -, hcT, hcG⟩ := rrun_cells HO' hlast
        cases e3
        have hD : IntKind.i64.wrap ((m : Int) - 1) = (D : Int) := by have := HD.out; rw [IntKind.wrap_i64]; omega
        have hD0 : (0 : Int) ≤ (D : Int) := by omega
        have hD1 : (D : Int) < (m : Int) := by have := HD.out; omega
        have hm2 : (0 : Int) < (m : Int) := by omega
        simp only at hcT hcG
        clear HO'
        obtain ⟨I, HI⟩ : ∃ I, Hid (k + 1 = I) := ⟨_, rfl⟩
        by_cases hK : ek l k = ek l (k + 1)
        · obtain ⟨X, s, b, q1, q2, q3, _⟩ := rl_grow (fun x => x) (eg l) hK
          have hbG : eg l z = G := by rw [← HG.out]; exact ek_eq.1 (hz.trans hK)
          rw [hbG] at hcG
          have hXD : X.length = D := by have := HD.out; have := Hm.out; omega
          have fz := HO.out.frozenAt (D * 3 + 1)
          obtain ⟨s1, s2⟩ := HO.out.stored (D * 3 + 1) (.int .i64 (T : Int))
          have hrm : rm (ek l) (k + 1 + 1) = m := by
            rw [← rl_len (ek l) (k + 1 + 1) (fun x => x) (eg l), q2, ← Hm.out, ← rl_len (ek l) (k + 1) (fun x => x) (eg l), q1]; simp
          have O5 : Hid ((wr.setCell ⟨g3, D * 3 + 1, none⟩ (.int .i64 (T : Int))).ownsRow w7.heap.size 48 3 (.slice (some ⟨g3, 0, none⟩) m c3) (rm (ek l) T) (rvs (rl (ek l) T (fun x => x) (eg l)))) := by
            unfold Hid
            rw [← HTT.out, hrm, q2, HTT.out, rvs_set (t := k + 1), ← q1, hXD]
            exact s1
          have L5 : Hid (Below w7.heap.size w7 (wr.setCell ⟨g3, D * 3 + 1, none⟩ (.int .i64 (T : Int)))) := LB.out.grown s2 LB.out.size (fun k hk => by injection hk with hk; subst hk; exact (HO.out.lt _ rfl).1)
          clear s1 s2 hrm hXD q1 q2 q3 hlast hz hK hbG
          have hGG : (G == G) = true := by simp
          rw [HI.out] at hcell hw3 hcT h0 h1 ⊢
          go_wp2
          go_roundg g
          case measure => omega
          case rel => exact ⟨T, rfl, by have := HTT.out; omega, O5.out, L5.out⟩
        · have hbG : (eg l z == G) = false := by
            rw [beq_eq_false_iff_ne, ← HG.out]
            exact fun h => hK (hz.symm.trans (ek_eq.2 h))
          have HNW : Hid (rl (ek l) (k + 1 + 1) (fun x => x) (eg l) = rl (ek l) (k + 1) (fun x => x) (eg l) ++ [(k + 1, T, G)]) := by unfold Hid; rw [rl_new _ _ (.inr hK), HTT.out, HG.out]
          have HMW : Hid (rm (ek l) (k + 1 + 1) = m + 1) := by unfold Hid; rw [← rl_len (ek l) (k + 1 + 1) (fun x => x) (eg l), HNW.out, List.length_append, rl_len, Hm.out]; rfl
          clear hlast hz hK hcT
          generalize eg l z = b at *
          rw [HTT.out] at HNW HMW
          rw [HI.out] at HNW
          rw [HI.out] at hcell hw3 h0 h1 ⊢
          go_wp2_with (at_builtin; refine append_srv rfl (.tmp 43) (.tmp 49) 49 rfl w7.heap.size 48 i48 (.agg #[.int .i64 0, .int .i64 0, .bool false]) 3 24 Try.underlying49 hi7 hz7 hs7 hb7 rfl (by decide) (.slice (some ⟨g3, 0, none⟩) m c3) m (rvs (rl (ek l) (k + 1) (fun x => x) (eg l))) rfl (HO.out.alloc _) (.slice (some ⟨wr.heap.size, 0, none⟩) 1 1) 1 [.int .i64 (I : Int), .int .i64 (T : Int), .bool G] rfl (.inr ⟨⟨wr.heap.size, 0, none⟩, 1, rfl, fun k u hk => lit_cells wr _ 48 k u hk⟩) rfl (one3 _ _ _) (by unfold maxLen; omega) (by omega) (bAlloc LB.out _).size ?_)
          intro v5 w5 hown hgrow _
          have L5 : Hid (Below w7.heap.size w7 w5) := (bAlloc LB.out _).grown hgrow (bAlloc LB.out _).size (fun k hk => (HO.out.lt k hk).1)
          have O5 : Hid (w5.ownsRow w7.heap.size 48 3 v5 (rm (ek l) T) (rvs (rl (ek l) T (fun x => x) (eg l)))) := by
            unfold Hid
            rw [HNW.out, HMW.out, rvs_snoc]
            have := hown
            rw [HI.out] at this
            exact this
          clear hown hgrow
          go_wp2
          go_roundg g
          case measure => omega
          case rel => exact ⟨T, rfl, by have := HTT.out; omega, O5.out, L5.out⟩
end Go.Proofs.Ytgdhdegmjljbfaa
