/- PatternQuotes, walked. -/
import Derived.Test.YtimbnbkgdbhaeaaQuo
import Derived.Test.YtimbnbkgdbhaeaaFromW
namespace Go.Proofs.Ytimbnbkgdbhaeaa
open Go.RowKit
theorem tx_own {W : World} {base : Nat} {v : Value} {l : List UInt8} (h : W.ownsRow base 5 1 v l.length (bv l)) (hb : l.length ≤ 140737488355328) : ∃ ao c, v = .slice ao l.length c ∧ Tx W ao l.length c l := by
  rcases h.2 with ⟨e, h0⟩ | ⟨g, cap, cur, e1, h3, h4, h5, h6, h7, h8⟩
  · refine ⟨none, 0, by rw [e, h0], rfl, by omega, hb, fun _ => rfl, fun a ha => by cases ha⟩
  · refine ⟨some ⟨g, 0, none⟩, cap, e1, rfl, h5, hb, fun e => (by cases e), fun a ha j hj => ?_⟩
    injection ha with ha
    subst ha
    subst e1
    have := own_srv h
    rcases this with ⟨e, _⟩ | ⟨ad, c, e, hc⟩
    · cases e
    · injection e with e _ _
      injection e with e
      subst e
      exact hc j _ (bv_at l j hj)
/-- a stretch of a text -/
theorem tx_cut {W : World} {g o n c : Nat} {l : List UInt8} (h : Tx W (some ⟨g, o, none⟩) n c l) {i k : Nat} (hi : i + k ≤ n) : Tx W (some ⟨g, o + i, none⟩) k (c - i) ((l.drop i).take k) := by
  have hl := h.len
  have hc := h.cap
  have hb := h.big
  refine ⟨by rw [List.length_take, List.length_drop]; omega, by omega, by omega, fun e => (by cases e), fun a ha j hj => ?_⟩
  injection ha with ha
  subst ha
  rw [add_none]
  have := h.cells _ rfl (i + j) (by omega)
  rw [add_none, ← Nat.add_assoc] at this
  rw [this]
  congr 3
  unfold at8
  simp [List.getD, hj, List.getElem?_drop]
theorem sta_iff {s line : List UInt8} {i : Nat} (hi : i + s.length ≤ line.length) : (line.drop i).take s.length = s ↔ Sta s line i := by
  unfold Sta bn
  constructor
  · intro h j hj
    have h2 : ((line.drop i).take s.length)[j]? = s[j]? := by rw [h]
    rw [List.getElem?_take, if_pos hj, List.getElem?_drop] at h2
    unfold at8
    rw [List.getD, List.getD, h2]
  · intro h
    apply List.ext_getElem
    · rw [List.length_take, List.length_drop]; omega
    · intro j h1 h2
      have h3 := h j h2
      rw [at8_eq (by omega), at8_eq h2] at h3
      rw [List.getElem_take, List.getElem_drop]
      exact UInt8.toNat_inj.1 h3

theorem conv0 (a : Addr) (c : Nat) (W : World) : (convert 24 9 (.slice (some a) 0 c)).run Try.prog W = .ok (.string ⟨#[]⟩) W :=
  conv_tx (l := []) ⟨rfl, Nat.zero_le _, by omega, fun e => (by cases e), fun _ _ j hj => by omega⟩
theorem conv00 (W : World) : (convert 24 9 (.slice none 0 0)).run Try.prog W = .ok (.string ⟨#[]⟩) W := conv_tx (tx_nil W)
set_option maxRecDepth 8000 in
set_option maxHeartbeats 8000000 in
theorem patternQuotes_walk (w : World) (at0 : Option Addr) (ns cs : Nat) (al : Option Addr) (nl cl : Nat) (s line : List UInt8) (f : Int) (hns : ns ≤ 70368744177664) (HS : Hid (Tx w at0 ns cs s)) (HL : Hid (Tx w al nl cl line)) :
    Calls Try.prog 6 #[.slice at0 ns cs, .slice al nl cl, .int .i64 f] w fun e w' => e = .returned (.bool true) ∧ Below w.heap.size w w' := by
  have hlen := HL.out.len
  have hbig := HL.out.big
  have hslen := HS.out.len
  have hql := qt_len s
  go_enter Try.func6, Try.ntmps6
  go_wp2_with (go_at_call 9; refine (alive_any _).mono ?_; rintro e w1 ⟨rfl, hb1⟩; have B1 := Hid.mk' hb1; clear hb1)
  refine (quote_any w1 at0 ns cs s hns (HS.out.keep B1.out)).mono ?_
  rintro e w2 ⟨v, rfl, ho, hb2⟩
  obtain ⟨aq, cq, e2, htq⟩ := tx_own ho (by omega)
  subst e2
  have B2 := Hid.mk' (bT B1.out hb2)
  have HQ := Hid.mk' htq
  clear ho hb2 htq B1
  have q1' : ¬ (((qt s).length : Int) < (ns : Int)) := by omega
  have q1d : decide (((qt s).length : Int) < (ns : Int)) = false := decide_eq_false q1'
  have q2' : ¬ (2 * (ns : Int) < ((qt s).length : Int)) := by omega
  have q2d : decide (2 * (ns : Int) < ((qt s).length : Int)) = false := decide_eq_false q2'
  have HCQ := Hid.mk' (cmp_quote s)
  have hns1 : 2 * (ns : Int) ≤ 140737488355328 := by omega
  have CC := Hid.mk' (compile_any aq (qt s).length cq (qt s) w2 HQ)
  generalize hN : (qt s).length = N at *
  go_wp2_with fail
  refine CC.out.mono ?_
  intro e w3 hC
  obtain ⟨hb3, h | h | h⟩ := hC
  · obtain ⟨h256, rfl⟩ := h
    have h1 : (256 : Int) < (N : Int) := by omega
    have B3 := Hid.mk' (bT B2.out hb3)
    clear hb3 CC
    go_wp2
    go_ret
    exact ⟨rfl, B3.out⟩
  · exact absurd (by rw [HCQ.out]) h.2.1
  · obtain ⟨h256, _, hl, P, rfl, hP⟩ := h
    rw [HCQ.out] at hP
    have B3 := Hid.mk' (bT B2.out hb3)
    have HPt := Hid.mk' hP
    have h1 : ¬ ((256 : Int) < (N : Int)) := by omega
    have h1d : decide ((256 : Int) < (N : Int)) = false := decide_eq_false h1
    have CF := Hid.mk' (find_any _ w3 P (s.map sg) al nl cl line f (by rw [List.length_map]; omega) HPt (HL.out.keep B3.out))
    clear hb3 hP CC B2
    go_wp2_with fail
    refine CF.out.mono ?_
    rintro e w4 ⟨a, b, ok, rfl, hfi, hb4⟩
    have B4 := Hid.mk' (bT B3.out hb4)
    have HF := Hid.mk' hfi
    clear hb4 hfi B3 HPt CF
    by_cases h0 : f < 0
    · have h0d : decide (f < 0) = true := decide_eq_true h0
      obtain ⟨rfl, rfl, rfl⟩ := HF.out.one (.inl ⟨.inl h0, rfl, rfl, rfl⟩)
      go_wp2
      go_ret
      exact ⟨rfl, B4.out⟩
    · have h0d : decide (f < 0) = false := decide_eq_false h0
      by_cases h2 : (nl : Int) < f
      · have h2d : decide ((nl : Int) < f) = true := decide_eq_true h2
        obtain ⟨rfl, rfl, rfl⟩ := HF.out.one (.inl ⟨.inr (by omega), rfl, rfl, rfl⟩)
        go_wp2
        go_ret
        exact ⟨rfl, B4.out⟩
      · have h2d : decide ((nl : Int) < f) = false := decide_eq_false h2
        obtain ⟨k, hk⟩ : ∃ k : Nat, f = (k : Int) := ⟨f.toNat, by omega⟩
        subst hk
        have HFS : Hid (FS (s.map sg) line k a b ok) := by
          rcases HF.out with h | ⟨_, _, h⟩
          · omega
          · rw [Int.toNat_natCast] at h; exact h
        clear HF
        go_wp2_with fail
        go_loopg [14] (nl + 1 - k) (fun m x14 wx => ∃ i : Nat, x14 = .int .i64 (i : Int) ∧ k ≤ i ∧ i ≤ nl + 1 ∧ m = nl + 1 - i ∧ Hid (∀ j, k ≤ j → j < i → ¬ Sta s line j) ∧ Hid (Below w4.heap.size w4 wx))
        case atStart => exact ⟨k, rfl, Nat.le_refl _, by omega, rfl, (fun j h1 h2 => by omega), Below.refl _ _⟩
        case round =>
          obtain ⟨i, rfl, hi1, hi2, hm, HN, HB⟩ := hrel
          by_cases hc : i + ns ≤ nl
          · have hc' : (i : Int) ≤ (nl : Int) - (ns : Int) := by omega
            have B5 := Hid.mk' (bT B4.out HB.out)
            have hii : (i : Int) ≤ (nl : Int) := by omega
            have hin : (i : Int) + (ns : Int) ≤ (nl : Int) := by omega
            have hin2 : ((i : Int) + (ns : Int)).toNat = i + ns := by omega
            have hcap := HL.out.cap
            have hic : (i : Int) + (ns : Int) ≤ (cl : Int) := by omega
            have hi4 : (i : Int) + (ns : Int) ≤ 140737488355328 := by omega
            by_cases hz : ns = 0
            · have hs0 : s = [] := List.eq_nil_of_length_eq_zero (by omega)
              have HF1 : Hid (FS (s.map sg) line k i (i + ns) true) := by rw [← hslen]; exact fs_hit hi1 (by omega) (fun j hj => by rw [hs0] at hj; simp at hj) HN.out
              obtain ⟨ea, eb, eo⟩ := HFS.out.one HF1.out
              subst ea eb eo
              subst hz
              have k0 := conv0
              have k00 := conv00
              have hsz : at0 = none → cs = 0 := HS.out.nil
              have hlz : al = none → cl = 0 := HL.out.nil
              clear HF1 HFS hs0
              cases at0 with
              | none =>
                have := hsz rfl
                subst this
                cases al with
                | none =>
                  have := hlz rfl
                  subst this
                  have ha0 : a = 0 := by omega
                  subst ha0
                  go_wp2_with fail
                  go_region
                  go_wp2_with fail
                  go_ret
                  exact ⟨rfl, B5.out.drew⟩
                | some y =>
                  have hle9 : a ≤ cl := by omega
                  by_cases hca : cl = a
                  · subst hca
                    go_wp2_with fail
                    go_region
                    go_wp2_with fail
                    go_ret
                    exact ⟨rfl, B5.out.drew⟩
                  · obtain ⟨yb, yo, ys⟩ := y
                    go_wp2_with fail
                    go_region
                    go_wp2_with fail
                    go_ret
                    exact ⟨rfl, B5.out.drew⟩
              | some x =>
                cases al with
                | none =>
                  have := hlz rfl
                  subst this
                  have ha0 : a = 0 := by omega
                  subst ha0
                  go_wp2_with fail
                  go_region
                  go_wp2_with fail
                  go_ret
                  exact ⟨rfl, B5.out.drew⟩
                | some y =>
                  have hle9 : a ≤ cl := by omega
                  by_cases hca : cl = a
                  · subst hca
                    go_wp2_with fail
                    go_region
                    go_wp2_with fail
                    go_ret
                    exact ⟨rfl, B5.out.drew⟩
                  · obtain ⟨yb, yo, ys⟩ := y
                    go_wp2_with fail
                    go_region
                    go_wp2_with fail
                    go_ret
                    exact ⟨rfl, B5.out.drew⟩
            · have cv20 := fun n => conv_tx ((HS.out.keep B5.out).keep (bDrewN wr n))
              have cv2 := conv_tx ((HS.out.keep B5.out).keep (Below.refl _ _).drew)
              obtain ⟨g, o, e1, hcl⟩ := HL.out.at (by omega)
              subst e1
              have cv1 := conv_tx ((tx_cut (HL.out.keep B5.out) (i := i) (k := ns) hc).keep (Below.refl _ _).drew)
              have hne : cl ≠ i := by omega
              have hnat : i + ns - i = ns := by omega
              have hle9 : i ≤ i + ns := by omega
              clear hcl cv20
              by_cases hst : (line.drop i).take ns = s
              · have HF1 : Hid (FS (s.map sg) line k i (i + ns) true) := by rw [← hslen]; exact fs_hit hi1 (by omega) ((sta_iff (by omega)).1 (by rw [hslen]; exact hst)) HN.out
                obtain ⟨ea, eb, eo⟩ := HFS.out.one HF1.out
                rw [hst] at cv1
                subst ea eb eo
                clear hst
                go_wp2_with fail
                go_region
                go_wp2_with fail
                go_ret
                exact ⟨rfl, B5.out.drew⟩
              · generalize hgl : (line.drop i).take ns = L at *
                have hbe : (L == s) = false := by simpa using hst
                have HNS : Hid (¬ Sta s line i) := fun h => hst (by rw [← hgl, ← hslen]; exact (sta_iff (by omega)).2 h)
                clear hst hgl
                go_wp2_with fail
                go_region
                go_wp2_with fail
                go_roundg (nl + 1 - (i + 1))
                case measure => omega
                case rel =>
                  refine ⟨i + 1, by go_num, by omega, by omega, rfl, fun j h1 h2 => ?_, HB.out.drew⟩
                  by_cases hj : j = i
                  · subst hj; exact HNS.out
                  · exact HN.out j h1 (by omega)
          · have hc' : ¬ ((i : Int) ≤ (nl : Int) - (ns : Int)) := by omega
            have HF1 : Hid (FS (s.map sg) line k 0 0 false) := fs_miss (i := i) (by omega) HN.out
            obtain ⟨ea, eb, eo⟩ := HFS.out.one HF1.out
            subst ea eb eo
            go_wp2
            go_ret
            exact ⟨rfl, bT B4.out HB.out⟩
end Go.Proofs.Ytimbnbkgdbhaeaa
