/- object.lineRuns. -/
import Derived.Test.YtgdhdegmjljbfaaWrn
import Derived.Test.YtgdhdegmjljbfaaLists
import Derived.Laws.OwnMore
namespace Go.Proofs.Ytgdhdegmjljbfaa
open Go.RowKit
/-- is a line empty; its sort; where it starts, the end of the text counted as one more -/
def eg (l : List UInt8) (x : Nat) : Bool := decide ((ln l x).length = 0)
def ek (l : List UInt8) (x : Nat) : Int := if eg l x then 1 else 0
def ls9 (l : List UInt8) (x : Nat) : Nat := if x ≤ nl l then sp l x else l.length + 1
/-- the runs of lines -/
def pl (l : List UInt8) : List Rn3 := rl (ek l) (nl l + 1) (ls9 l) (eg l)
theorem ek_eq {l : List UInt8} {x y : Nat} : ek l x = ek l y ↔ eg l x = eg l y := by
  unfold ek
  cases eg l x <;> cases eg l y <;> simp
theorem ls9_next {l : List UInt8} {x : Nat} (h : x ≤ nl l) : ls9 l (x + 1) = ls9 l x + (ln l x).length + 1 := by
  have h2 := en_ge l (sp l x)
  unfold ls9
  rw [if_pos h, ln_length h]
  by_cases h3 : x + 1 ≤ nl l
  · rw [if_pos h3, (sp_next h3).2]; omega
  · rw [if_neg h3]
    have hs := sp_st h
    have : en l (sp l x) = l.length := by
      rcases Nat.lt_or_ge (en l (sp l x)) l.length with g | g
      · have := (hs.next g).low; omega
      · have := en_le (sp_le h); omega
    have := sp_le h
    omega
theorem ls9_le {l : List UInt8} (x : Nat) : ls9 l x ≤ l.length + 1 := by
  unfold ls9; split
  · next h => have := sp_le h; omega
  · omega
/-- the last run -/
theorem rl_last {K : Nat → Int} (k : Nat) (f : Nat → Nat) (g : Nat → Bool) : ∃ s z, (rl K (k + 1) f g)[rm K (k + 1) - 1]? = some (s, f (k + 1), g z) ∧ K z = K k ∧ 1 ≤ rm K (k + 1) := by
  have h1 := rm_pos (K := K) (n := k + 1) (by omega)
  have h2 := re_last (K := K) (n := k + 1) (by omega)
  have h3 := run_at (K := K) (n := k + 1) (j := rm K (k + 1) - 1) (by omega)
  refine ⟨f (rf K (k + 1) (rm K (k + 1) - 1)), rf K (k + 1) (rm K (k + 1) - 1), ?_, ?_, h1⟩
  · rw [rl_at f g (by omega), h2]
  · have h4 := h3.up
    exact (h3.same k (by omega) (by omega)).symm
theorem rvs_set {X : List Rn3} {s t t' : Nat} {b : Bool} : rvs (X ++ [(s, t', b)]) = (rvs (X ++ [(s, t, b)])).set (X.length * 3 + 1) (.int .i64 (t' : Int)) := by
  rw [rvs_snoc, rvs_snoc, List.set_append_right _ _ (by rw [rvs_len]; omega), rvs_len, Nat.add_sub_cancel_left]
  rfl
set_option maxRecDepth 8000 in
set_option maxHeartbeats 8000000 in
theorem lineRuns_any (ao : Option Addr) (n c : Nat) (l : List UInt8) (w : World) (hn : n ≤ 4398046511103) (HT : Hid (Tx w ao n c l)) :
    Calls Try.prog 40 #[.slice ao n c] w fun e w' => WrP (pl l) w e w' := by
  obtain ⟨i77, hi7, hz7, hs7, hb7⟩ := info_parts info77
  have hlen := HT.out.len
  go_enter Try.func40, Try.ntmps40
  go_wp2_with fail
  refine (split_any ao n c l w (by omega) HT).mono ?_
  rintro e w7 ⟨v, Dv, rfl, hR, hD⟩
  have HV : Hid (Ls w7 v (nl l + 1) (ln l)) := ls_of 0 hR (fun j _ => by rw [Nat.zero_add]) hD (fun i hi => by rw [ln_length (by omega)]; have := en_le (sp_le (t := l) (n := i) (by omega)); omega)
  have B7 := Hid.mk' hR.bel
  obtain ⟨av, cv, hv⟩ := HV.out.top
  subst hv
  clear hR hD
  have hN : nl l ≤ n := by have := nl_le l; omega
  have HPL : Hid (pl l = rl (ek l) (nl l + 1) (ls9 l) (eg l)) := rfl
  obtain ⟨N, HN⟩ : ∃ N, Hid (nl l + 1 = N) := ⟨_, rfl⟩
  have hNn : N ≤ n + 1 := by have := HN.out; omega
  rw [HN.out] at HV HPL ⊢
  go_wp2_with fail
  go_loopg [3, 4, 6, 7, 8, 9, 13] N (fun g x3 x4 x6 x7 x8 x9 x13 wx => ∃ i F : Nat, x13 = .int .i64 (i : Int) ∧ x4 = .int .i64 (F : Int) ∧ i + g = N ∧ Hid (F = ls9 l i) ∧ Hid (wx.ownsRow w7.heap.size 77 3 x3 (rm (ek l) i) (rvs (rl (ek l) i (ls9 l) (eg l)))) ∧ Hid (Below w7.heap.size w7 wx))
  case atStart => exact ⟨0, 0, rfl, rfl, by omega, by unfold Hid ls9; rw [if_pos (Nat.zero_le _), sp_zero], World.ownsRow_nil _ _ _ _, Below.refl _ _⟩
  case round =>
    obtain ⟨i, F, rfl, rfl, hi, HF, HO, LB⟩ := hrel
    obtain ⟨a3, c3, e3⟩ := own_shape HO.out
    subst e3
    have HRI := Hid.mk' (rm_le (ek l) i)
    cases gk with
    | zero =>
      obtain rfl : i = N := by omega
      have h1 : ¬ ((i : Int) < (i : Int)) := by omega
      have HO2 : Hid (wr.ownsRow w7.heap.size 77 3 (.slice a3 (rm (ek l) i) c3) (pl l).length (rvs (pl l))) := by
        unfold Hid; rw [HPL.out, rl_len]; exact HO.out
      go_wp2
      all_goals go_ret
      all_goals exact ⟨_, rfl, own_lower HO2.out (by have := B7.out.size; omega), bT B7.out LB.out⟩
    | succ g =>
      have h0 : (0 : Int) ≤ (i : Int) := by omega
      have h1 : (i : Int) < (N : Int) := by omega
      have hil : i ≤ nl l := by have := HN.out; omega
      obtain ⟨gl, cl', ai, ci, hv, hcell, hti⟩ := (HV.out.keep LB.out).each i (by omega)
      have hav : av = some ⟨gl, 0, none⟩ := by simp at hv; exact hv.1
      subst hav
      have HNX := Hid.mk' (ls9_next hil)
      have hFL := ls9_le (l := l) (i + 1)
      obtain ⟨T, HTT⟩ : ∃ T, Hid (ls9 l (i + 1) = T) := ⟨_, rfl⟩
      rw [HTT.out, ← HF.out] at HNX
      rw [HTT.out] at hFL
      have HGG : Hid (eg l i = decide ((ln l i).length = 0)) := rfl
      obtain ⟨lw, HLW⟩ : ∃ lw, Hid ((ln l i).length = lw) := ⟨_, rfl⟩
      rw [HLW.out] at HNX HGG hcell
      have hlw : lw ≤ n + 1 := by have := HNX.out; omega
      have hFn : F ≤ n + 1 := by have := HNX.out; omega
      have hTn : T ≤ n + 1 := by omega
      have hw1 : IntKind.i64.wrap ((F : Int) + (lw : Int)) = (F : Int) + (lw : Int) := by rw [IntKind.wrap_i64]; omega
      have hw2 : IntKind.i64.wrap ((F : Int) + (lw : Int) + 1) = (T : Int) := by have := HNX.out; rw [IntKind.wrap_i64]; omega
      have hw3 : IntKind.i64.wrap ((i : Int) + 1) = ((i + 1 : Nat) : Int) := by rw [IntKind.wrap_i64]; omega
      have hgb : ((lw : Int) == 0) = eg l i := by rw [HGG.out]; by_cases h : lw = 0 <;> simp [h]
      obtain ⟨G, hG⟩ : ∃ G, eg l i = G := ⟨_, rfl⟩
      rw [hG] at hgb
      have HG := Hid.mk' hG
      clear hv hti HLW HNX hG hFL HGG
      obtain ⟨m, Hm⟩ : ∃ m, Hid (rm (ek l) i = m) := ⟨_, rfl⟩
      rw [Hm.out] at HO HRI ⊢
      have hmn : m ≤ n + 1 := by have := HRI.out; omega
      cases i with
      | zero =>
        obtain rfl : m = 0 := by have := HRI.out; omega
        have HNW : Hid (rl (ek l) (0 + 1) (ls9 l) (eg l) = rl (ek l) 0 (ls9 l) (eg l) ++ [(F, T, G)]) := by unfold Hid; rw [rl_new _ _ (.inl rfl), HTT.out, ← HF.out, HG.out]
        have HMW : Hid (rm (ek l) (0 + 1) = 1) := by unfold Hid; rw [← rl_len (ek l) (0 + 1) (ls9 l) (eg l), HNW.out]; rfl
        go_wp2_with (at_builtin; refine append_srv rfl (.tmp 44) (.tmp 49) 68 rfl w7.heap.size 77 i77 (.agg #[.int .i64 0, .int .i64 0, .bool false]) 3 24 Try.underlying68 hi7 hz7 hs7 hb7 rfl (by decide) (.slice a3 0 c3) 0 (rvs (rl (ek l) 0 (ls9 l) (eg l))) rfl (HO.out.alloc _) (.slice (some ⟨wr.heap.size, 0, none⟩) 1 1) 1 [.int .i64 (F : Int), .int .i64 (T : Int), .bool G] rfl (.inr ⟨⟨wr.heap.size, 0, none⟩, 1, rfl, fun k u hk => lit_cells wr _ 77 k u hk⟩) rfl (one3 _ _ _) (by unfold maxLen; omega) (by omega) (bAlloc LB.out _).size ?_)
        intro v5 w5 hown hgrow _
        have L5 : Hid (Below w7.heap.size w7 w5) := (bAlloc LB.out _).grown hgrow (bAlloc LB.out _).size (fun k hk => (HO.out.lt k hk).1)
        have O5 : Hid (w5.ownsRow w7.heap.size 77 3 v5 (rm (ek l) (0 + 1)) (rvs (rl (ek l) (0 + 1) (ls9 l) (eg l)))) := by
          unfold Hid; rw [HNW.out, HMW.out, rvs_snoc]; exact hown
        clear hown hgrow
        go_wp2
        go_roundg g
        case measure => omega
        case rel => exact ⟨0 + 1, T, rfl, rfl, by omega, HTT.out.symm, O5.out, L5.out⟩
      | succ k =>
        obtain ⟨s0, z, hlast, hz, hm1⟩ := rl_last (K := ek l) k (ls9 l) (eg l)
        rw [Hm.out] at hlast hm1
        obtain ⟨D, HD⟩ : ∃ D, Hid (m - 1 = D) := ⟨_, rfl⟩
        rw [HD.out] at hlast
        have HO' : wr.ownsRow w7.heap.size 77 3 (.slice a3 (rl (ek l) (k + 1) (ls9 l) (eg l)).length c3) (rl (ek l) (k + 1) (ls9 l) (eg l)).length (rvs (rl (ek l) (k + 1) (ls9 l) (eg l))) := by rw [rl_len, Hm.out]; exact HO.out
        obtain ⟨g3, e3, -, hcT, hcG⟩ := run_cells HO' hlast
        cases e3
        have hD : IntKind.i64.wrap ((m : Int) - 1) = (D : Int) := by have := HD.out; rw [IntKind.wrap_i64]; omega
        have hD0 : (0 : Int) ≤ (D : Int) := by omega
        have hD1 : (D : Int) < (m : Int) := by have := HD.out; omega
        simp only at hcT hcG
        clear HO'
        by_cases hK : ek l k = ek l (k + 1)
        · obtain ⟨X, s, b, g1, g2, g3', _⟩ := rl_grow (ls9 l) (eg l) hK
          have hbG : eg l z = G := by rw [← HG.out]; exact ek_eq.1 (hz.trans hK)
          rw [hbG] at hcG
          have hXD : X.length = D := by have := HD.out; have := Hm.out; omega
          have fz := HO.out.frozenAt (D * 3 + 1)
          obtain ⟨s1, s2⟩ := HO.out.stored (D * 3 + 1) (.int .i64 (T : Int))
          have hrm : rm (ek l) (k + 1 + 1) = m := by
            rw [← rl_len (ek l) (k + 1 + 1) (ls9 l) (eg l), g2, ← Hm.out, ← rl_len (ek l) (k + 1) (ls9 l) (eg l), g1]; simp
          have O5 : Hid ((wr.setCell ⟨g3, D * 3 + 1, none⟩ (.int .i64 (T : Int))).ownsRow w7.heap.size 77 3 (.slice (some ⟨g3, 0, none⟩) m c3) (rm (ek l) (k + 1 + 1)) (rvs (rl (ek l) (k + 1 + 1) (ls9 l) (eg l)))) := by
            unfold Hid
            rw [hrm, g2, HTT.out, rvs_set (t := ls9 l (k + 1)), ← g1, hXD]
            exact s1
          have L5 : Hid (Below w7.heap.size w7 (wr.setCell ⟨g3, D * 3 + 1, none⟩ (.int .i64 (T : Int)))) := LB.out.grown s2 LB.out.size (fun k hk => by injection hk with hk; subst hk; exact (HO.out.lt _ rfl).1)
          clear s1 s2 hrm hXD g1 g2 g3' hlast hz hK hbG
          have hGG : (G == G) = true := by simp
          go_wp2
          go_roundg g
          case measure => omega
          case rel => exact ⟨k + 1 + 1, T, rfl, rfl, by omega, HTT.out.symm, O5.out, L5.out⟩
        · have hbG : (eg l z == G) = false := by
            rw [beq_eq_false_iff_ne, ← HG.out]
            exact fun h => hK (hz.symm.trans (ek_eq.2 h))
          have HNW : Hid (rl (ek l) (k + 1 + 1) (ls9 l) (eg l) = rl (ek l) (k + 1) (ls9 l) (eg l) ++ [(F, T, G)]) := by unfold Hid; rw [rl_new _ _ (.inr hK), HTT.out, ← HF.out, HG.out]
          have HMW : Hid (rm (ek l) (k + 1 + 1) = m + 1) := by unfold Hid; rw [← rl_len (ek l) (k + 1 + 1) (ls9 l) (eg l), HNW.out, List.length_append, rl_len, Hm.out]; rfl
          clear hlast hz hK hcT
          generalize eg l z = b at *
          go_wp2_with (at_builtin; refine append_srv rfl (.tmp 44) (.tmp 49) 68 rfl w7.heap.size 77 i77 (.agg #[.int .i64 0, .int .i64 0, .bool false]) 3 24 Try.underlying68 hi7 hz7 hs7 hb7 rfl (by decide) (.slice (some ⟨g3, 0, none⟩) m c3) m (rvs (rl (ek l) (k + 1) (ls9 l) (eg l))) rfl (HO.out.alloc _) (.slice (some ⟨wr.heap.size, 0, none⟩) 1 1) 1 [.int .i64 (F : Int), .int .i64 (T : Int), .bool G] rfl (.inr ⟨⟨wr.heap.size, 0, none⟩, 1, rfl, fun k u hk => lit_cells wr _ 77 k u hk⟩) rfl (one3 _ _ _) (by unfold maxLen; omega) (by omega) (bAlloc LB.out _).size ?_)
          intro v5 w5 hown hgrow _
          have L5 : Hid (Below w7.heap.size w7 w5) := (bAlloc LB.out _).grown hgrow (bAlloc LB.out _).size (fun k hk => (HO.out.lt k hk).1)
          have O5 : Hid (w5.ownsRow w7.heap.size 77 3 v5 (rm (ek l) (k + 1 + 1)) (rvs (rl (ek l) (k + 1 + 1) (ls9 l) (eg l)))) := by
            unfold Hid; rw [HNW.out, HMW.out, rvs_snoc]; exact hown
          clear hown hgrow
          go_wp2
          go_roundg g
          case measure => omega
          case rel => exact ⟨k + 1 + 1, T, rfl, rfl, by omega, HTT.out.symm, O5.out, L5.out⟩
end Go.Proofs.Ytgdhdegmjljbfaa
