/- The reference's words. -/
import Derived.Test.YtgdhdegmjljbfaaRar
namespace Go.Proofs.Ytgdhdegmjljbfaa
open Go.RowKit
theorem rn_congr {K K' : Nat → Int} {n : Nat} (h : ∀ x, x < n → K x = K' x) : ∀ k, k ≤ n → rn K n k = rn K' n k
  | 0, _ => rfl
  | k + 1, hk => by
    have ih := rn_congr h k (by omega)
    have e : cut K n k = cut K' n k := by
      unfold cut
      congr 1
      apply propext
      rcases Nat.lt_or_ge (k + 1) n with h1 | h1
      · rw [h k (by omega), h (k + 1) h1]
      · constructor <;> (intro _; exact .inl (by omega))
    cases hc : cut K n k with
    | true => rw [rn_yes hc, rn_yes (e ▸ hc), ih]
    | false => rw [rn_no hc, rn_no (e ▸ hc), ih]
theorem rl_congr {K K' : Nat → Int} {n : Nat} {f : Nat → Nat} {g g' : Nat → Bool} (h : ∀ x, x < n → K x = K' x) (hg : ∀ x, x < n → g x = g' x) : rl K n f g = rl K' n f g' := by
  have e := rn_congr h n (Nat.le_refl _)
  have em : rm K n = rm K' n := by unfold rm; rw [e]
  have ee : ∀ j, re K n j = re K' n j := fun j => by unfold re; rw [e]
  have ef : ∀ j, rf K n j = rf K' n j := fun j => by unfold rf; split; rfl; exact ee _
  unfold rl
  rw [em]
  apply List.map_congr_left
  intro j hj
  have hj := List.mem_range.1 hj
  rw [ee, ef, hg _ (by have := (run_at hj).up; have := (run_at hj).le; omega)]
/-- the kinds from s on -/
def kq (l : List UInt8) (s : Nat) (big : Bool) (x : Nat) : Int := kd (bi l (s + x)) big
/-- the reference's runs of a line -/
def wr9 (l : List UInt8) (s e : Nat) (big : Bool) : List Rn3 := rl (kq l s big) (e - s) (fun x => s + x) (fun x => kq l s big x == 0)
theorem wr9_wl (l : List UInt8) (k : Nat) (big : Bool) : wr9 l (bg l k) (en l (bg l k)) big = wl l k big := by
  have hM : lm l k = en l (bg l k) - bg l k := rfl
  unfold wr9 wl
  rw [← hM]
  refine rl_congr (fun x hx => ?_) (fun x hx => ?_)
  · unfold kq kn bi; rw [lq_at hx]
  · unfold kq bi; rw [kd_bl, lq_at hx]
/-- what words answers -/
def WqP (R : List Rn3) (w : World) (e : Ending) (w' : World) : Prop := ∃ v, e = .returned v ∧ w'.ownsRow w.heap.size 48 3 v R.length (rvs R) ∧ Below w.heap.size w w'
set_option maxRecDepth 8000 in
set_option maxHeartbeats 8000000 in
theorem words_any (ao : Option Addr) (n c s e : Nat) (big : Bool) (l : List UInt8) (w : World) (hn : n ≤ 4398046511103) (hse : s ≤ e) (hen : e ≤ n) (HT : Hid (Tx w ao n c l)) :
    Calls Try.prog 20 #[.slice ao n c, .int .i64 (s : Int), .int .i64 (e : Int), .bool big] w fun x w' => WqP (wr9 l s e big) w x w' := by
  obtain ⟨i48, hi7, hz7, hs7, hb7⟩ := info_parts info48
  have hlen := HT.out.len
  have HPL : Hid (wr9 l s e big = rl (kq l s big) (e - s) (fun x => s + x) (fun x => kq l s big x == 0)) := rfl
  have COF := Hid.mk' (fun b W => rof_any b big W)
  have HKK : Hid (∀ x, kd (bi l (s + x)) big = kq l s big x) := fun x => rfl
  obtain ⟨N, HN⟩ : ∃ N, Hid (e - s = N) := ⟨_, rfl⟩
  rw [HN.out] at HPL
  generalize kq l s big = K at *
  go_enter Try.func20, Try.ntmps20
  go_wp2_with fail
  go_loopg [9, 10, 11, 12] N (fun g x9 x10 x11 x12 wx => ∃ i F : Nat, x10 = .int .i64 (F : Int) ∧ i + g = N ∧ Hid (F = s + i) ∧ Hid (wx.ownsRow w.heap.size 48 3 x9 (rm K i) (rvs (rl K i (fun x => s + x) (fun x => K x == 0)))) ∧ Hid (Below w.heap.size w wx))
  case atStart => exact ⟨0, s, rfl, by omega, rfl, World.ownsRow_nil _ _ _ _, Below.refl _ _⟩
  case round =>
    obtain ⟨i, F, rfl, hi, HF, HO, LB⟩ := hrel
    obtain ⟨a3, c3, e3⟩ := own_shape HO.out
    subst e3
    have HRI := Hid.mk' (rm_le K i)
    have hFs : s ≤ F := by have := HF.out; omega
    cases gk with
    | zero =>
      have h1 : ¬ ((F : Int) < (e : Int)) := by have := HF.out; have := HN.out; omega
      have HO2 : Hid (wr.ownsRow w.heap.size 48 3 (.slice a3 (rm K i) c3) (wr9 l s e big).length (rvs (wr9 l s e big))) := by
        unfold Hid; rw [HPL.out, rl_len, show N = i by omega]; exact HO.out
      go_wp2
      all_goals go_ret
      all_goals exact ⟨_, rfl, HO2.out, LB.out⟩
    | succ g =>
      have h0 : (0 : Int) ≤ (F : Int) := by omega
      have hFe : F < e := by have := HF.out; have := HN.out; omega
      have h1 : (F : Int) < (e : Int) := by omega
      have h2 : (F : Int) < (n : Int) := by omega
      obtain ⟨gt, ot, rfl, hct⟩ := (HT.out.keep LB.out).at (by omega)
      have cF : wr.cell? ⟨gt, ot + F, none⟩ = some (.int .u8 (bi l F)) := hct F (by omega)
      have CF := Hid.mk' (COF.out (bi l F))
      have HKF : Hid (kd (bi l F) big = K i) := by unfold Hid; rw [HF.out]; exact HKK.out i
      rw [HKF.out] at CF
      obtain ⟨k9, HK9⟩ : ∃ k9, Hid (K i = k9) := ⟨_, rfl⟩
      rw [HK9.out] at CF
      obtain ⟨T, HTT⟩ : ∃ T, Hid (F + 1 = T) := ⟨_, rfl⟩
      have hw2 : IntKind.i64.wrap ((F : Int) + 1) = (T : Int) := by have := HTT.out; rw [IntKind.wrap_i64]; omega
      obtain ⟨m, Hm⟩ : ∃ m, Hid (rm K i = m) := ⟨_, rfl⟩
      rw [Hm.out] at HO HRI ⊢
      have hmn : m ≤ n := by have := HRI.out; have := HN.out; omega
      cases i with
      | zero =>
        obtain rfl : m = 0 := by have := HRI.out; omega
        have hsF : ¬ ((s : Int) < (F : Int)) := by have := HF.out; omega
        have HNW : Hid (rl K (0 + 1) (fun x => s + x) (fun x => K x == 0) = rl K 0 (fun x => s + x) (fun x => K x == 0) ++ [(F, T, k9 == 0)]) := by
          unfold Hid; rw [rl_new _ _ (.inl rfl), HK9.out]
          have e1 := HF.out
          have e2 := HTT.out
          rw [show s + 0 = F by omega, show s + (0 + 1) = T by omega]
        have HMW : Hid (rm K (0 + 1) = 1) := by unfold Hid; rw [← rl_len K (0 + 1) (fun x => s + x) (fun x => K x == 0), HNW.out]; rfl
        clear hct
        obtain ⟨kz, hkz⟩ : ∃ kz, (k9 == 0) = kz := ⟨_, rfl⟩
        rw [hkz] at HNW
        go_wp2_with (first | (go_at_call 31; refine (CF.out _).mono ?_; rintro e w' ⟨rfl, hw⟩; have hq := hw.symm; subst hq; clear hw) | (at_builtin; refine append_srv rfl (.tmp 48) (.tmp 55) 49 rfl w.heap.size 48 i48 (.agg #[.int .i64 0, .int .i64 0, .bool false]) 3 24 Try.underlying49 hi7 hz7 hs7 hb7 rfl (by decide) (.slice a3 0 c3) 0 (rvs (rl K 0 (fun x => s + x) (fun x => K x == 0))) rfl (HO.out.alloc _) (.slice (some ⟨wr.heap.size, 0, none⟩) 1 1) 1 [.int .i64 (F : Int), .int .i64 (T : Int), .bool kz] rfl (.inr ⟨⟨wr.heap.size, 0, none⟩, 1, rfl, fun k u hk => lit_cells wr _ 48 k u hk⟩) rfl (one3 _ _ _) (by unfold maxLen; omega) (by omega) (bAlloc LB.out _).size ?_))
        intro v5 w5 hown hgrow _
        have L5 : Hid (Below w.heap.size w w5) := (bAlloc LB.out _).grown hgrow (bAlloc LB.out _).size (fun k hk => (HO.out.lt k hk).1)
        have O5 : Hid (w5.ownsRow w.heap.size 48 3 v5 (rm K (0 + 1)) (rvs (rl K (0 + 1) (fun x => s + x) (fun x => K x == 0)))) := by
          unfold Hid; rw [HNW.out, HMW.out, rvs_snoc]; exact hown
        clear hown hgrow
        go_wp2
        go_roundg g
        case measure => omega
        case rel => exact ⟨0 + 1, T, rfl, by omega, by have := HTT.out; have := HF.out; unfold Hid; omega, O5.out, L5.out⟩
      | succ k =>
        obtain ⟨D, HDF⟩ : ∃ D, Hid (F - 1 = D) := ⟨_, rfl⟩
        have hsF : (s : Int) < (F : Int) := by have := HF.out; omega
        have hwD : IntKind.i64.wrap ((F : Int) - 1) = (D : Int) := by have := HDF.out; rw [IntKind.wrap_i64]; omega
        have hD0 : (0 : Int) ≤ (D : Int) := by omega
        have hD1 : (D : Int) < (n : Int) := by have := HDF.out; omega
        have cD : wr.cell? ⟨gt, ot + D, none⟩ = some (.int .u8 (bi l D)) := hct D (by have := HDF.out; omega)
        have CD := Hid.mk' (COF.out (bi l D))
        have HKD : Hid (kd (bi l D) big = K k) := by
          unfold Hid
          have e1 := HF.out
          have e2 := HDF.out
          rw [show D = s + k by omega]; exact HKK.out k
        rw [HKD.out] at CD
        obtain ⟨k8, HK8⟩ : ∃ k8, Hid (K k = k8) := ⟨_, rfl⟩
        rw [HK8.out] at CD
        clear hct
        generalize bi l D = bD at *
        generalize bi l F = bF at *
        by_cases hK : K k = K (k + 1)
        · obtain ⟨X, s', b, q1, q2, q3, _⟩ := rl_grow (fun x => s + x) (fun x => K x == 0) hK
          have hkk : (k8 == k9) = true := by rw [← HK8.out, ← HK9.out, hK]; simp
          have hm1 : 1 ≤ m := by have := Hm.out; omega
          have HO' : wr.ownsRow w.heap.size 48 3 (.slice a3 (X ++ [(s', s + (k + 1), b)]).length c3) (X ++ [(s', s + (k + 1), b)]).length (rvs (X ++ [(s', s + (k + 1), b)])) := by
            have := HO.out
            rw [q1] at this
            rw [List.length_append, List.length_singleton, q3, Hm.out]; exact this
          have hlast : (X ++ [(s', s + (k + 1), b)])[X.length]? = some (s', s + (k + 1), b) := by rw [List.getElem?_append_right (Nat.le_refl _), Nat.sub_self]; rfl
          obtain ⟨g3, e3, -, hcT, -⟩ := rrun_cells HO' hlast
          subst e3
          simp only at hcT
          obtain ⟨M9, HM9⟩ : ∃ M9, Hid (X.length = M9) := ⟨_, rfl⟩
          rw [HM9.out] at hcT
          have hwM : IntKind.i64.wrap ((m : Int) - 1) = (M9 : Int) := by have := HM9.out; have := Hm.out; rw [IntKind.wrap_i64]; omega
          have hM0 : (0 : Int) ≤ (M9 : Int) := by omega
          have hM1 : (M9 : Int) < (m : Int) := by have := HM9.out; have := Hm.out; omega
          have fz := HO.out.frozenAt (M9 * 3 + 1)
          obtain ⟨s1, s2⟩ := HO.out.stored (M9 * 3 + 1) (.int .i64 (T : Int))
          have hrm : rm K (k + 1 + 1) = m := by
            rw [← rl_len K (k + 1 + 1) (fun x => s + x) (fun x => K x == 0), q2, ← Hm.out, ← rl_len K (k + 1) (fun x => s + x) (fun x => K x == 0), q1]; simp
          have O5 : Hid ((wr.setCell ⟨g3, M9 * 3 + 1, none⟩ (.int .i64 (T : Int))).ownsRow w.heap.size 48 3 (.slice (some ⟨g3, 0, none⟩) m c3) (rm K (k + 1 + 1)) (rvs (rl K (k + 1 + 1) (fun x => s + x) (fun x => K x == 0)))) := by
            unfold Hid
            have e1 := HTT.out
            have e2 := HF.out
            rw [hrm, q2, rvs_set (t := s + (k + 1)), ← q1, HM9.out, show s + (k + 1 + 1) = T by omega]
            exact s1
          have L5 : Hid (Below w.heap.size w (wr.setCell ⟨g3, M9 * 3 + 1, none⟩ (.int .i64 (T : Int)))) := LB.out.grown s2 LB.out.size (fun k hk => by injection hk with hk; subst hk; exact (HO.out.lt _ rfl).1)
          generalize ((s + (k + 1) : Nat) : Int) = oldT at *
          clear s1 s2 hrm q1 q2 q3 hlast hK HO'
          go_wp2_with (first | (go_at_call 31; with_reducible (refine (CF.out _).mono ?_); rintro e w' ⟨rfl, hw⟩; have hq := hw.symm; subst hq; clear hw) | (go_at_call 31; with_reducible (refine (CD.out _).mono ?_); rintro e w' ⟨rfl, hw⟩; have hq := hw.symm; subst hq; clear hw))
          go_roundg g
          case measure => omega
          case rel => exact ⟨k + 1 + 1, T, rfl, by omega, by have := HTT.out; have := HF.out; unfold Hid; omega, O5.out, L5.out⟩
        · have hkk : (k8 == k9) = false := by rw [← HK8.out, ← HK9.out]; simpa using hK
          have HNW : Hid (rl K (k + 1 + 1) (fun x => s + x) (fun x => K x == 0) = rl K (k + 1) (fun x => s + x) (fun x => K x == 0) ++ [(F, T, k9 == 0)]) := by
            unfold Hid; rw [rl_new _ _ (.inr hK), HK9.out]
            have e1 := HF.out
            have e2 := HTT.out
            rw [show s + (k + 1) = F by omega, show s + (k + 1 + 1) = T by omega]
          have HMW : Hid (rm K (k + 1 + 1) = m + 1) := by unfold Hid; rw [← rl_len K (k + 1 + 1) (fun x => s + x) (fun x => K x == 0), HNW.out, List.length_append, rl_len, Hm.out]; rfl
          clear hK
          obtain ⟨kz, hkz⟩ : ∃ kz, (k9 == 0) = kz := ⟨_, rfl⟩
          rw [hkz] at HNW
          go_wp2_with (first | (go_at_call 31; with_reducible (refine (CF.out _).mono ?_); rintro e w' ⟨rfl, hw⟩; have hq := hw.symm; subst hq; clear hw) | (go_at_call 31; with_reducible (refine (CD.out _).mono ?_); rintro e w' ⟨rfl, hw⟩; have hq := hw.symm; subst hq; clear hw) | (at_builtin; refine append_srv rfl (.tmp 48) (.tmp 55) 49 rfl w.heap.size 48 i48 (.agg #[.int .i64 0, .int .i64 0, .bool false]) 3 24 Try.underlying49 hi7 hz7 hs7 hb7 rfl (by decide) (.slice a3 m c3) m (rvs (rl K (k + 1) (fun x => s + x) (fun x => K x == 0))) rfl (HO.out.alloc _) (.slice (some ⟨wr.heap.size, 0, none⟩) 1 1) 1 [.int .i64 (F : Int), .int .i64 (T : Int), .bool kz] rfl (.inr ⟨⟨wr.heap.size, 0, none⟩, 1, rfl, fun k u hk => lit_cells wr _ 48 k u hk⟩) rfl (one3 _ _ _) (by unfold maxLen; omega) (by omega) (bAlloc LB.out _).size ?_))
          intro v5 w5 hown hgrow _
          have L5 : Hid (Below w.heap.size w w5) := (bAlloc LB.out _).grown hgrow (bAlloc LB.out _).size (fun k hk => (HO.out.lt k hk).1)
          have O5 : Hid (w5.ownsRow w.heap.size 48 3 v5 (rm K (k + 1 + 1)) (rvs (rl K (k + 1 + 1) (fun x => s + x) (fun x => K x == 0)))) := by
            unfold Hid; rw [HNW.out, HMW.out, rvs_snoc]; exact hown
          clear hown hgrow
          go_wp2
          go_roundg g
          case measure => omega
          case rel => exact ⟨k + 1 + 1, T, rfl, by omega, by have := HTT.out; have := HF.out; unfold Hid; omega, O5.out, L5.out⟩
end Go.Proofs.Ytgdhdegmjljbfaa
