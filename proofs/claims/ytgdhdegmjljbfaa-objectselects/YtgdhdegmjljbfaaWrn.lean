/- object.wordRuns. -/
import Derived.Test.YtgdhdegmjljbfaaQud
import Derived.Test.YtgdhdegmjljbfaaRpr
import Derived.Test.YtgdhdegmjljbfaaAro
namespace Go.Proofs.Ytgdhdegmjljbfaa
open Go.RowKit
theorem info77 : (Try.prog.info? 77).map (fun i => (i.zero, i.size, i.bytes)) = some (some (.agg #[.int .i64 0, .int .i64 0, .bool false]), 3, 24) := by kernel_rfl
/-- the runs of the line of a place -/
def wl (l : List UInt8) (k : Nat) (big : Bool) : List Rn3 := rl (kn (lq l k) big) (lm l k) (fun x => bg l k + x) (fun x => bl (at8 (lq l k) x))
theorem lq_at {l : List UInt8} {k x : Nat} (hx : x < lm l k) : at8 (lq l k) x = at8 l (bg l k + x) := by
  unfold lq at8
  simp [List.getD, hx]
theorem one3 (a b : Int) (g : Bool) : ∀ u ∈ [Value.int .i64 a, .int .i64 b, .bool g], u.oneCell' = true := by
  intro u hu; simp at hu; rcases hu with rfl | rfl | rfl <;> rfl
/-- what wordRuns answers -/
def WrP (R : List Rn3) (w : World) (e : Ending) (w' : World) : Prop := ∃ v, e = .returned v ∧ w'.ownsRow w.heap.size 77 3 v R.length (rvs R) ∧ Below w.heap.size w w'
theorem take_snoc {R : List Rn3} {j : Nat} {x : Rn3} (h : R[j]? = some x) : R.take (j + 1) = R.take j ++ [x] := by
  obtain ⟨h1, h2⟩ := List.getElem?_eq_some_iff.1 h
  rw [List.take_succ_eq_append_getElem h1, h2]
set_option maxRecDepth 8000 in
set_option maxHeartbeats 8000000 in
theorem wordRuns_any (ao : Option Addr) (n c k : Nat) (big : Bool) (l : List UInt8) (w : World) (hn : n ≤ 4398046511104) (hk : k ≤ n) (HT : Hid (Tx w ao n c l)) :
    Calls Try.prog 39 #[.slice ao n c, .int .i64 (k : Int), .bool big] w fun e w' => WrP (wl l k big) w e w' := by
  obtain ⟨i77, hi7, hz7, hs7, hb7⟩ := info_parts info77
  have hl := HT.out.len
  have hcap := HT.out.cap
  have C1 := Hid.mk' (lineOf_any ao n c k l w hk HT)
  have hb := bg_le l k
  have he := en_le (t := l) (s := bg l k) (by omega)
  have hke := place_en (t := l) (i := k) (by omega)
  cases ao with
  | none =>
    obtain ⟨rfl, rfl, rfl⟩ := HT.out.none
    obtain rfl : k = 0 := by omega
    have e1 : bg [] 0 = 0 := rfl
    have e2 : en [] 0 = 0 := rfl
    have HQ : Hid (wl [] 0 big = []) := rfl
    rw [e1, e2] at C1
    have CR := Hid.mk' (fun W => runs_any none 0 0 [] big W (by omega) (tx_nil W))
    go_enter Try.func39, Try.ntmps39
    go_wp2_with (first | (go_at_call 28; refine C1.out.mono ?_; rintro e w1 ⟨rfl, hb1⟩; have B1 := Hid.mk' hb1; clear hb1) | (go_at_call 54; refine (CR.out _).mono ?_; rintro e w2 ⟨v, rfl, hv, hb2⟩; have B2 := Hid.mk' hb2; obtain ⟨av, cv, hvv⟩ := own_shape hv; have hr0 : (rn (kn [] big) 0 0).length = 0 := rfl; rw [hr0] at hvv; subst hvv; clear hb2 hv))
    go_loopg [9, 10, 12, 27] 0 (fun _ x9 x10 x12 x27 wx => x9 = .slice none 0 0 ∧ x27 = .int .i64 0 ∧ w2 = wx)
    case atStart => exact ⟨rfl, rfl, rfl⟩
    case round =>
      obtain ⟨rfl, rfl, rfl⟩ := hrel
      go_wp2
      all_goals go_ret
      all_goals exact ⟨_, rfl, by rw [HQ.out]; exact World.ownsRow_nil _ _ _ _, bT B1.out B2.out⟩
  | some ad =>
    have HL1 := Hid.mk' (fun W (_ : ¬ c = bg l k) (hW : Tx W (some ad) n c l) => tx_line1 hk hW)
    have HL0 := Hid.mk' (fun W (hc : c = bg l k) (hW : Tx W (some ad) n c l) => tx_line0 hk hW hc)
    have HM0 : Hid (lm l k = en l (bg l k) - bg l k) := rfl
    have HRAT := Hid.mk' (fun j (h : j < rm (kn (lq l k) big) (lm l k)) => rl_at (fun x => bg l k + x) (fun x => bl (at8 (lq l k) x)) h)
    have HBY := Hid.mk' (fun x (h : x < lm l k) => lq_at h)
    have HRL : Hid ((wl l k big).length = rm (kn (lq l k) big) (lm l k)) := rl_len ..
    have HWL : Hid (wl l k big = rl (kn (lq l k) big) (lm l k) (fun x => bg l k + x) (fun x => bl (at8 (lq l k) x))) := rfl
    rw [← HWL.out] at HRAT
    have HUP := Hid.mk' (fun j (h : j < rm (kn (lq l k) big) (lm l k)) => run_at h)
    have HRN := Hid.mk' (fun j (h : j < rm (kn (lq l k) big) (lm l k)) => (by unfold re rm at *; rw [List.getD_eq_getElem?_getD, List.getElem?_eq_getElem h]; rfl : (rn (kn (lq l k) big) (lm l k) (lm l k))[j]? = some (re (kn (lq l k) big) (lm l k) j)))
    have HRM := Hid.mk' (rm_le (kn (lq l k) big) (lm l k))
    obtain ⟨R, HRR⟩ : ∃ R, Hid (wl l k big = R) := ⟨_, rfl⟩
    rw [HRR.out] at HRAT HRL HWL ⊢
    obtain ⟨s, Hs⟩ : ∃ s, Hid (bg l k = s) := ⟨_, rfl⟩
    rw [Hs.out] at C1 hb he hke HL1 HL0 HM0 HRAT HBY
    obtain ⟨e, He⟩ : ∃ e, Hid (en l s = e) := ⟨_, rfl⟩
    rw [He.out] at C1 he hke HL1 HL0 HM0
    obtain ⟨L, HLq⟩ : ∃ L, Hid (lq l k = L) := ⟨_, rfl⟩
    rw [HM0.out] at HRAT HBY HRL HUP HRN HRM
    rw [HLq.out] at HL1 HL0 HRAT HBY HRL HUP HRN HRM
    have CR := Hid.mk' (fun W A c' (h : Tx W A (e - s) c' L) => runs_any A (e - s) c' L big W (by omega) h)
    have HZ : Hid (rm (kn L big) (e - s) = (rn (kn L big) (e - s) (e - s)).length) := rfl
    rw [← HZ.out] at CR
    generalize kn L big = K at *
    obtain ⟨M, HMM⟩ : ∃ M, Hid (rm K (e - s) = M) := ⟨_, rfl⟩
    rw [HMM.out] at HRAT HRL HUP HRN HRM CR
    clear HZ HWL HRR Hs He HLq
    have hs0 : (0 : Int) ≤ (s : Int) := by omega
    have hs1 : (s : Int) ≤ (e : Int) := by omega
    have hs2 : (e : Int) ≤ (c : Int) := by omega
    go_enter Try.func39, Try.ntmps39
    go_wp2_with (first | (go_at_call 28; refine C1.out.mono ?_; rintro e w1 ⟨rfl, hb1⟩; have B1 := Hid.mk' hb1; clear hb1) | (go_at_call 54; refine (CR.out _ _ _ (by first | exact HL1.out _ (by first | assumption | omega) (HT.out.keep B1.out) | exact HL0.out _ rfl (HT.out.keep B1.out) | exact HL0.out _ (by assumption) (HT.out.keep B1.out))).mono ?_; rintro e w2 ⟨v, rfl, hv, hb2⟩; have OV := Hid.mk' hv; have B2 := Hid.mk' hb2; obtain ⟨av, cv, hvv⟩ := own_shape hv; subst hvv; clear hb2 hv))
    all_goals (
      have hVN : (M : Int) ≤ (n : Int) := by have := HRM.out; omega
      have B0 := Hid.mk' (bT B1.out B2.out)
      clear B1
      go_loopg [9, 10, 12, 27] M (fun g x9 x10 x12 x27 wx => ∃ j : Nat, x27 = .int .i64 (j : Int) ∧ j + g = M ∧ Hid (∃ F : Nat, x10 = .int .i64 (F : Int) ∧ F = s + rf K (e - s) j) ∧ Hid (wx.ownsRow w2.heap.size 77 3 x9 j (rvs (R.take j))) ∧ Hid (Below w2.heap.size w2 wx))
      case atStart => exact ⟨0, rfl, by omega, ⟨s, rfl, by rw [rf_zero]; rfl⟩, World.ownsRow_nil _ _ _ _, Below.refl _ _⟩
      case round =>
        obtain ⟨j, rfl, hj, HFF, HO, LB⟩ := hrel
        obtain ⟨F, rfl, hF⟩ := HFF.out
        obtain ⟨a9, c9, e9⟩ := own_shape HO.out
        subst e9
        clear HFF
        cases gk with
        | zero =>
          have h1 : ¬ ((j : Int) < (M : Int)) := by omega
          have HO2 : Hid (wr.ownsRow w2.heap.size 77 3 (.slice a9 j c9) R.length (rvs R)) := by
            have e : R.take j = R := List.take_of_length_le (by rw [HRL.out]; omega)
            have := HO.out
            rw [e] at this
            rw [HRL.out, show M = j by omega]
            exact this
          clear hF
          go_wp2
          all_goals go_ret
          all_goals exact ⟨_, rfl, own_lower HO2.out (by have := B0.out.size; omega), bT B0.out LB.out⟩
        | succ g =>
          have hjM : j < M := by omega
          have h0 : (0 : Int) ≤ (j : Int) := by omega
          have h1 : (j : Int) < (M : Int) := by omega
          have hU := HUP.out j hjM
          have hu1 := hU.up
          have hu2 := hU.le
          have HX := Hid.mk' (HRAT.out j hjM)
          have HBB := HBY.out (rf K (e - s) j) (by omega)
          rw [HBB, ← hF] at HX
          have HEE : Hid (∃ E : Nat, E = s + re K (e - s) j) := ⟨_, rfl⟩
          obtain ⟨E, hE⟩ := HEE.out
          rw [← hE] at HX
          have HTK := Hid.mk' (take_snoc HX.out)
          have hjn : j ≤ n := by omega
          obtain ⟨gv, cpv, hgv, -, -⟩ := own_some OV.out (by omega)
          have hcv : wr.cell? ⟨gv, j, none⟩ = some (.int .i64 (re K (e - s) j : Int)) := by
            have ho := own_keep OV.out LB.out
            rw [hgv] at ho
            exact row_cell ho (iv_at (HRN.out j hjM))
          injection hgv with q1 q2 q3
          subst q1 q3
          have hRF : F < n := by omega
          have hwE : IntKind.i64.wrap ((s : Int) + (re K (e - s) j : Int)) = (E : Int) := by rw [IntKind.wrap_i64]; omega
          have hF0 : (0 : Int) ≤ (F : Int) := by omega
          have hF1 : (F : Int) < (n : Int) := by omega
          have hcF := (HT.out.keep (bT B0.out LB.out)).cells ad rfl F hRF
          have CB := Hid.mk' (fun W => isBlank_any (at8 l F) W)
          have HNX : Hid (∃ F' : Nat, F' = E ∧ F' = s + rf K (e - s) (j + 1)) := ⟨E, rfl, hE⟩
          have hwj : IntKind.i64.wrap ((j : Int) + 1) = ((j + 1 : Nat) : Int) := by rw [IntKind.wrap_i64]; omega
          clear HBB hU hu1 hu2 hE hF HEE hjM
          generalize re K (e - s) j = Z at *
          generalize bl (at8 l F) = bb at *
          go_wp2_with (first | (go_at_call 55; refine (CB.out _).mono ?_; rintro e w' ⟨rfl, hw⟩; have hq := hw.symm; subst hq; clear hw) | (at_builtin; refine append_srv rfl (.tmp 31) (.tmp 42) 68 rfl w2.heap.size 77 i77 (.agg #[.int .i64 0, .int .i64 0, .bool false]) 3 24 Try.underlying68 hi7 hz7 hs7 hb7 rfl (by decide) (.slice a9 j c9) j (rvs (R.take j)) rfl (HO.out.alloc _) (.slice (some ⟨wr.heap.size, 0, none⟩) 1 1) 1 [.int .i64 (F : Int), .int .i64 (E : Int), .bool bb] rfl (.inr ⟨⟨wr.heap.size, 0, none⟩, 1, rfl, fun k u hk => lit_cells wr _ 77 k u hk⟩) rfl (one3 _ _ _) (by unfold maxLen; omega) (by omega) (bAlloc LB.out _).size ?_))
          intro v5 w5 hown hgrow _
          have L5 : Hid (Below w2.heap.size w2 w5) := (bAlloc LB.out _).grown hgrow (bAlloc LB.out _).size (fun k hk => (HO.out.lt k hk).1)
          have O5 : Hid (w5.ownsRow w2.heap.size 77 3 v5 (j + 1) (rvs (R.take (j + 1)))) := by
            unfold Hid; rw [HTK.out, rvs_snoc]; exact hown
          clear hown hgrow
          go_wp2
          go_roundg g
          case measure => omega
          case rel =>
            obtain ⟨F', f1, f2⟩ := HNX.out
            exact ⟨j + 1, rfl, by omega, ⟨F', by rw [f1], f2⟩, O5.out, L5.out⟩)
end Go.Proofs.Ytgdhdegmjljbfaa
