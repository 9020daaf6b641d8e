/- HuntRests, walked. -/
import Derived.Test.YtaakgoojcogbcaaXi
import Derived.Test.YtaakgoojcogbcaaXn
namespace Go.Proofs.Ytaakgoojcogbcaa
open Go.RowKit
/-- was a hit at X passed among the first q places? -/
def hv (l : List Th) (t : List UInt8) (X q : Nat) : Bool := (List.range q).any fun p => mp l t p && (rs t p == X)
section
variable {l : List Th} {t : List UInt8} {X q : Nat}
theorem hv_succ : hv l t X (q + 1) = (hv l t X q || (mp l t q && (rs t q == X))) := by
  unfold hv
  rw [List.range_succ, List.any_append]
  simp
theorem hv_end (h : X ∈ hs l t) : hv l t X (t.length + 1) = true := by
  obtain ⟨p, h1, h2⟩ := hs_iff.1 h
  unfold hv
  rw [List.any_eq_true]
  exact ⟨p, List.mem_range.2 (by have := mp_le h1; omega), by rw [Bool.and_eq_true, beq_iff_eq]; exact ⟨h1, h2⟩⟩
/-- none between was passed by -/
theorem fwd_between {k r : Nat} (h0 : 0 < (hs l t).length) (hr : r ∈ hs l t) : ¬ (k < fwd (hs l t) k ∧ k < r ∧ r < fwd (hs l t) k) ∧ ¬ (fwd (hs l t) k ≤ k ∧ (k < r ∨ r < fwd (hs l t) k)) := by
  obtain ⟨j, hj, rfl⟩ := List.mem_iff_getElem.1 hr
  have hu := hUp_le (H := hs l t) (at_ := k)
  rcases Nat.lt_or_ge (hUp (hs l t) k) (hs l t).length with hlt | hge
  · have e : fwd (hs l t) k = (hs l t)[hUp (hs l t) k] := by unfold fwd; rw [Nat.mod_eq_of_lt hlt, getD_at hlt]
    rw [e]
    have h1 : k < (hs l t)[hUp (hs l t) k] := by
      rcases Nat.lt_or_ge k (hs l t)[hUp (hs l t) k] with h | h
      · exact h
      · have := (hUp_iff hs_ris _ hlt).1 h; omega
    refine ⟨fun ⟨_, a, b⟩ => ?_, fun ⟨a, _⟩ => by omega⟩
    have := (ris_lt hs_ris hj hlt).1 b
    have := (hUp_iff (at_ := k) hs_ris j hj).2 this
    omega
  · have e : fwd (hs l t) k = (hs l t)[0] := by unfold fwd; rw [show hUp (hs l t) k = (hs l t).length by omega, Nat.mod_self, getD_at h0]
    rw [e]
    have h1 := (hUp_iff (at_ := k) hs_ris j hj).2 (by omega)
    have h2 := (hUp_iff (at_ := k) hs_ris 0 h0).2 (by omega)
    have h3 := (ris_le hs_ris h0 hj).2 (Nat.zero_le _)
    exact ⟨fun ⟨a, _⟩ => by omega, fun ⟨_, a⟩ => by omega⟩
theorem fwd_mem {k : Nat} (h0 : 0 < (hs l t).length) : fwd (hs l t) k ∈ hs l t := by
  unfold fwd
  rw [getD_at (Nat.mod_lt _ h0)]
  exact List.getElem_mem _
/-- hits are where a cursor rests -/
theorem rs_rs {t : List UInt8} {p : Nat} (hp : p ≤ t.length) : rs t (rs t p) = rs t p := by
  rcases rs_cases (t := t) p with h | h
  · rw [h, h]
  · have hne : ¬ ((p < t.length ∧ le (at8 t p) = false) ∨ bg t p = p) := fun hh => by
      have : rs t p = p := by unfold rs; rw [if_pos hh]
      omega
    have hb : bg t p ≠ p := fun e => hne (.inr e)
    obtain ⟨q, rfl⟩ : ∃ q, p = q + 1 := ⟨p - 1, by omega⟩
    have e : rs t (q + 1) = q := by omega
    rw [e]
    have : le (at8 t q) = false := by
      cases hq : le (at8 t q) with
      | false => rfl
      | true => exact absurd (by unfold bg; rw [if_pos hq]) hb
    unfold rs
    rw [if_pos (.inl ⟨by omega, this⟩)]
theorem hs_rest {X : Nat} (h : X ∈ hs l t) : rs t X = X := by
  obtain ⟨p, h1, rfl⟩ := hs_iff.1 h
  exact rs_rs (mp_le h1)
theorem ln_lp {t : List UInt8} {i a : Nat} (hi : i ≤ nl t) (ha : a ≤ en t (sp t i) - sp t i) : lp t (sp t i + a) = ln t i ∧ bg t (sp t i + a) = sp t i ∧ en t (sp t i + a) = en t (sp t i) := by
  have hs := sp_st hi
  have hb := bg_self hs
  have hge := en_ge t (sp t i)
  have e1 : bg t (sp t i + a) = sp t i := by
    have := bg_same (t := t) (p := sp t i) (q := sp t i + a) hs.low' (by rw [hb]; omega) (by omega)
    rw [this, hb]
  have e2 : en t (sp t i + a) = en t (sp t i) := en_same hs.low' (by omega) (by omega)
  refine ⟨?_, e1, e2⟩
  unfold lp ln
  rw [e1, e2]
end
set_option maxRecDepth 8000 in
set_option maxHeartbeats 16000000 in
theorem huntRests_walk (w : World) (ao : Option Addr) (n c : Nat) (ap : Option Addr) (np cp_ : Nat) (k C : Int) (b : Bool) (t p : List UInt8) (HT : Hid (Tx w ao n c t)) (HP : Hid (Tx w ap np cp_ p)) :
    Calls Try.prog 8 #[.agg #[.slice ao n c, .slice ap np cp_, .int .i64 k, .int .i64 C, .bool b]] w fun e w' => e = .returned (.bool true) ∧ Below w.heap.size w w' := by
  have hlen := HT.out.len
  have U0 := Hid.mk' (bAlloc (Below.refl _ w) (.cells #[.slice ao n c, .slice ap np cp_, .int .i64 k, .int .i64 C, .bool b] 40))
  have K0 := Hid.mk' (Blk.new w 40 #[.slice ao n c, .slice ap np cp_, .int .i64 k, .int .i64 C, .bool b])
  go_enter Try.func8, Try.ntmps8
  go_wp2_with fail
  refine (awake_any _).mono ?_
  rintro e w1 ⟨rfl, hb1⟩
  have U1 := Hid.mk' (bT U0.out hb1)
  have K1 := Hid.mk' (K0.out.keep hb1)
  clear hb1 U0 K0
  have c0 : w1.cell? ⟨w.heap.size, 0, none⟩ = some (.slice ao n c) := K1.out.cell (j := 0) rfl
  have c1 : w1.cell? ⟨w.heap.size, 1, none⟩ = some (.slice ap np cp_) := K1.out.cell (j := 1) rfl
  have c2 : w1.cell? ⟨w.heap.size, 2, none⟩ = some (.int .i64 k) := K1.out.cell (j := 2) rfl
  have c3 : w1.cell? ⟨w.heap.size, 3, none⟩ = some (.int .i64 C) := K1.out.cell (j := 3) rfl
  have c4 : w1.cell? ⟨w.heap.size, 4, none⟩ = some (.bool b) := K1.out.cell (j := 4) rfl
  go_wp2_with fail
  refine (compiled_any w1 (.slice ao n c) ap np cp_ k C b p (HP.out.keep U1.out)).mono ?_
  rintro e w2 ⟨hb2, hres⟩
  have U2 := Hid.mk' (bT U1.out hb2)
  have K2 := Hid.mk' (K1.out.keep hb2)
  clear hb2 c0 c1 c2 c3 c4 K1
  have c0 : w2.cell? ⟨w.heap.size, 0, none⟩ = some (.slice ao n c) := K2.out.cell (j := 0) rfl
  rcases hres with ⟨hg, hl, P, rfl, hP⟩ | ⟨_, rfl⟩
  · have HLw : Hid (Lw w w2 w.heap.size w1.heap.size P ao n c ap np cp_ k C b t (cmp p).2) := ⟨U2.out, Nat.le_refl _, K2.out, hP, HT.out.keep U2.out⟩
    clear hP K2 U2 c0 hg
    obtain ⟨l, HL⟩ : ∃ l, Hid ((cmp p).2 = l) := ⟨_, rfl⟩
    rw [HL.out] at HLw hl
    have d0 := HLw.out.c0
    have d2 := HLw.out.c2
    by_cases h300 : 1000 < n
    · have h300' : decide ((1000 : Int) < (n : Int)) = true := decide_eq_true (by omega)
      have HB := Hid.mk' HLw.out.bel
      clear h300
      go_wp2
      go_ret
      exact ⟨rfl, HB.out⟩
    · have h300' : decide ((1000 : Int) < (n : Int)) = false := decide_eq_false (by omega)
      have H300 : Hid (n ≤ 1000) := by unfold Hid; omega
      clear h300
      go_wp2_with fail
      refine (next_any w1.heap.size w2 P ao n c t l k 1 false hl HLw.out.pat HLw.out.tx).mono ?_
      rintro e w3 ⟨he, hb3⟩
      have L3 := Hid.mk' (HLw.out.keep hb3)
      clear hb3 d0 d2 HLw
      by_cases hok : 0 ≤ k ∧ k ≤ t.length ∧ (0 : Int) ≤ 1 ∧ (1 : Int) ≤ 9999
      · cases hH : okh (hs l t) with
        | false =>
          rw [nx_none hok hH, tg_def] at he
          subst he
          clear hok
          go_wp2
          go_ret
          exact ⟨rfl, bAlloc L3.out.bel _⟩
        | true =>
          rw [nx_yes hok hH, tg_def] at he
          subst he
          obtain ⟨kn, rfl⟩ : ∃ j : Nat, k = (j : Int) := ⟨k.toNat, by omega⟩
          have hkn : kn ≤ t.length := by omega
          have h0 := okh_pos hH
          rw [show (max (1 : Int) 1).toNat = 1 from rfl, Int.toNat_natCast, show itr (wy false (hs l t)) 1 kn = fwd (hs l t) kn from rfl]
          have HM := Hid.mk' (fwd_mem (l := l) (t := t) (k := kn) h0)
          have HBT : Hid (∀ r, r ∈ hs l t → ¬ (kn < fwd (hs l t) kn ∧ kn < r ∧ r < fwd (hs l t) kn) ∧ ¬ (fwd (hs l t) kn ≤ kn ∧ (kn < r ∨ r < fwd (hs l t) kn))) := fun r hr => fwd_between h0 hr
          obtain ⟨X, HX⟩ : ∃ X, Hid (fwd (hs l t) kn = X) := ⟨_, rfl⟩
          rw [HX.out] at HM HBT ⊢
          have hXl : X ≤ n := by have := hs_low HM.out; omega
          have CR := Hid.mk' (fun W (h : Tx W ao n c t) => rest_at' ao n c X t W hXl h)
          rw [hs_rest HM.out] at CR
          clear hok hH
          go_wp2_with fail
          have K5 := Hid.mk' (Blk.new w3 42 #[.int .i64 (kn : Int), .int .i64 (X : Int), .int .i64 1])
          have L5 := Hid.mk' (L3.out.keep (bAlloc (Below.refl _ _) (.cells #[.int .i64 (kn : Int), .int .i64 (X : Int), .int .i64 1] 42)))
          obtain ⟨b5, HB5⟩ : ∃ b5, Hid (w3.heap.size = b5) := ⟨_, rfl⟩
          rw [HB5.out] at K5 ⊢
          generalize w3.alloc (.cells #[.int .i64 (kn : Int), .int .i64 (X : Int), .int .i64 1] 42) = w5 at *
          clear L3 HB5
          have q0 := L5.out.c0
          have q2 := L5.out.c2
          have e0 : w5.cell? ⟨b5, 0, none⟩ = some (.int .i64 (kn : Int)) := K5.out.cell (j := 0) rfl
          have e1 : w5.cell? ⟨b5, 1, none⟩ = some (.int .i64 (X : Int)) := K5.out.cell (j := 1) rfl
          have e2 : w5.cell? ⟨b5, 2, none⟩ = some (.int .i64 1) := K5.out.cell (j := 2) rfl
          have CR5 := Hid.mk' (fun q => CR.out (w5.drewN q) (L5.out.tx.keep (bDrewN w5 q)))
          go_quiet (first | (go_at_call 25; exact Calls.quiet_of_same (CR5.out _)) | fail)
          have L6 := Hid.mk' (L5.out.keep (bDrewN _ nq))
          have K6 := Hid.mk' (K5.out.keep (bDrewN _ nq))
          clear L5 K5 e0 e1 e2 q0 q2 CR5 CR
          generalize w5.drewN nq = w6 at *
          have q0 := L6.out.c0
          go_wp2_with fail
          refine (split_any ao n c t w6 (by have := H300.out; omega) L6.out.tx).mono ?_
          rintro e w7 ⟨v, Dv, rfl, hR, hD⟩
          have HV : Hid (Ls w7 v (nl t + 1) (ln t)) := ls_of 0 hR (fun j _ => by rw [Nat.zero_add]) hD (fun i hi => by rw [ln_length (by omega)]; have := en_le (sp_le (t := t) (n := i) (by omega)); have := H300.out; omega)
          have L7 := Hid.mk' (L6.out.keep hR.bel)
          have K7 := Hid.mk' (K6.out.keep hR.bel)
          obtain ⟨av, cv, hv⟩ := HV.out.top
          subst hv
          clear hR hD L6 K6 q0
          have hN : nl t ≤ n := by have := nl_le t; omega
          have HSP : Hid (∀ i, i ≤ nl t → sp t i + (ln t i).length ≤ n) := fun i hi => by
            have h1 := en_le (sp_le hi); have h2 := en_ge t (sp t i)
            rw [ln_length hi]; omega
          have HST : Hid (∀ i, i ≤ nl t → (i + 1 ≤ nl t → sp t (i + 1) = sp t i + (ln t i).length + 1) ∧ (i = nl t → n + 1 = sp t i + (ln t i).length + 1)) := fun i hi => by
            have h2 := en_ge t (sp t i)
            refine ⟨fun h => ?_, fun h => ?_⟩
            · have := (sp_next h).2
              rw [ln_length hi, this]; omega
            · have hs := sp_st hi
              have : en t (sp t i) = t.length := by
                rcases Nat.lt_or_ge (en t (sp t i)) t.length with g | g
                · have := (hs.next g).low; omega
                · have := en_le (sp_le hi); omega
              rw [ln_length hi, this, hlen]
              have := sp_le hi
              omega
          have HMP : Hid (∀ i a, i ≤ nl t → a ≤ (ln t i).length → mp l t (sp t i + a) = mt l (ln t i) a) := fun i a hi ha => by
            rw [ln_length hi] at ha
            obtain ⟨e1, e2, e3⟩ := ln_lp hi ha
            have h1 := sp_le hi
            have h2 := en_le h1
            have h3 := en_ge t (sp t i)
            rw [mp_in (p := sp t i + a) (by omega) (by rw [e2]; omega) (by rw [e3]; omega), e1, e2, Nat.add_sub_cancel_left]
          have hv0 : hv l t X 0 = false := rfl
          go_wp2_with fail
          go_loopg [8, 9, 10, 11, 12, 13, 14, 15] (nl t + 1) (fun m x8 x9 x10 x11 x12 x13 x14 x15 wx => ∃ i s : Nat, x10 = .int .i64 (i : Int) ∧ x8 = .int .i64 (s : Int) ∧ x9 = .bool (hv l t X s) ∧ i + m = nl t + 1 ∧ s ≤ n + 1 ∧ Hid (i ≤ nl t → s = sp t i) ∧ Hid (i = nl t + 1 → s = n + 1) ∧ Hid (Lw w wx w.heap.size w1.heap.size P ao n c ap np cp_ (kn : Int) C b t l) ∧ Hid (Blk wx b5 42 #[.int .i64 (kn : Int), .int .i64 (X : Int), .int .i64 1]) ∧ Hid (Ls wx (.slice av (nl t + 1) cv) (nl t + 1) (ln t)))
          case atStart => exact ⟨0, 0, rfl, rfl, by rw [hv0], by omega, by omega, fun _ => (sp_eq (St.zero t)).symm, fun h => by omega, L7.out, K7.out, HV.out⟩
          case round =>
            clear L7 K7 HV hv0
            obtain ⟨i, s, rfl, rfl, rfl, him, hsn, HS1, HS2, L7, K7, V7⟩ := hrel
            cases gk with
            | zero =>
              have hi1 : ¬ ((i : Int) < ((nl t + 1 : Nat) : Int)) := by omega
              have hi2 : ¬ ((i : Int) < (nl t : Int) + 1) := by omega
              have HE : Hid (hv l t X s = true) := by unfold Hid; rw [HS2.out (by omega), ← hlen]; exact hv_end HM.out
              go_wp2
              go_ret
              exact ⟨by rw [HE.out]; rfl, L7.out.bel⟩
            | succ m9 =>
              have hi1 : (i : Int) < ((nl t + 1 : Nat) : Int) := by omega
              have hi2 : (i : Int) < (nl t : Int) + 1 := by omega
              have hil : i ≤ nl t := by omega
              have hsp := HS1.out hil
              obtain ⟨g, c', ai, ci, hv, hcell, hti⟩ := V7.out.each i (by omega)
              have hav : av = some ⟨g, 0, none⟩ := by simp at hv; exact hv.1
              subst hav
              have HGC : Hid (∀ W', Below wr.heap.size wr W' → W'.cell? ⟨g, i, none⟩ = some (.slice ai (ln t i).length ci) ∧ Tx W' ai (ln t i).length ci (ln t i)) := fun W' hb => ⟨keepC hb hcell, hti.keep hb⟩
              have hSL := HSP.out i hil
              have HMI := Hid.mk' (fun a ha => HMP.out i a hil ha)
              have HSI := Hid.mk' (HST.out i hil)
              rw [← hsp] at hSL HMI HSI
              obtain ⟨LI, HLI⟩ : ∃ L, Hid (ln t i = L) := ⟨_, rfl⟩
              obtain ⟨lw, HLN⟩ : ∃ m, Hid ((ln t i).length = m) := ⟨_, rfl⟩
              rw [HLN.out] at HGC hSL HMI HSI
              rw [HLI.out] at HGC HMI
              obtain ⟨W9, hW9⟩ : ∃ W9, W9 = wr := ⟨_, rfl⟩
              subst hW9
              clear hcell hti hv hsp HS1 HS2
              have H9 : Hid (n ≤ 1000) := H300
              have hlw : lw ≤ 1000 := by have := H300.out; omega
              go_wp2_with fail
              go_loopg [9, 11, 12, 13, 14, 15] (lw + 1) (fun m x9 x11 x12 x13 x14 x15 wx => ∃ a : Nat, x11 = .int .i64 (a : Int) ∧ x9 = .bool (hv l t X (s + a)) ∧ a + m = lw + 1 ∧ Hid (Below W9.heap.size W9 wx))
              case atStart => exact ⟨0, rfl, rfl, by omega, Below.refl _ _⟩
              case round =>
                obtain ⟨a, rfl, rfl, ham, HBB⟩ := hrel
                obtain ⟨cg, tg9⟩ := HGC.out _ HBB.out
                have LX := Hid.mk' (L7.out.keep HBB.out)
                have KX := Hid.mk' (K7.out.keep HBB.out)
                have VX := Hid.mk' (V7.out.keep HBB.out)
                cases gk with
                | zero =>
                  have ha1 : ¬ ((a : Int) ≤ (lw : Int)) := by omega
                  have haE : a = lw + 1 := by omega
                  subst haE
                  have hw5 : IntKind.i64.wrap ((lw : Int) + 1) = (lw : Int) + 1 := by rw [IntKind.wrap_i64]; omega
                  have hw6 : IntKind.i64.wrap ((s : Int) + ((lw : Int) + 1)) = ((s + lw + 1 : Nat) : Int) := by have := H9.out; rw [IntKind.wrap_i64]; omega
                  have hw7 : IntKind.i64.wrap ((i : Int) + 1) = ((i + 1 : Nat) : Int) := by have := H9.out; rw [IntKind.wrap_i64]; omega
                  clear tg9
                  go_wp2_with fail
                  go_roundg m9
                  case measure => omega
                  case rel => exact ⟨i + 1, s + lw + 1, rfl, rfl, by rw [Nat.add_assoc], by omega, by omega, fun h => (HSI.out.1 h).symm, fun h => (HSI.out.2 (by omega)).symm, LX.out, KX.out, VX.out⟩
                | succ m8 =>
                  have ha1 : (a : Int) ≤ (lw : Int) := by omega
                  have CF := Hid.mk' (find_any w1.heap.size wr P l ai lw ci LI (a : Int) hl LX.out.pat tg9)
                  have hma := HMI.out a (by omega)
                  have HTL := Hid.mk' tg9.len
                  clear tg9
                  go_wp2_with fail
                  refine CF.out.mono ?_
                  rintro e wf ⟨fa, fb, ok, rfl, hfi, hbf⟩
                  have hfs : FS l LI a fa fb ok := by
                    rcases hfi with ⟨h9, _⟩ | ⟨_, _, h9⟩
                    · have := HTL.out; omega
                    · rw [Int.toNat_natCast] at h9; exact h9
                  have BF := Hid.mk' (bT HBB.out hbf)
                  have LF := Hid.mk' (LX.out.keep hbf)
                  have KF := Hid.mk' (KX.out.keep hbf)
                  have HVS := Hid.mk' (hv_succ (l := l) (t := t) (X := X) (q := s + a))
                  rw [hma] at HVS
                  have hw8 : IntKind.i64.wrap ((a : Int) + 1) = ((a + 1 : Nat) : Int) := by have := H9.out; rw [IntKind.wrap_i64]; omega
                  clear hfi hbf CF HBB cg LX KX VX
                  cases hmt : mt l LI a with
                  | false =>
                    rw [hmt] at HVS
                    have HVE : Hid (hv l t X (s + (a + 1)) = hv l t X (s + a)) := by unfold Hid; rw [← Nat.add_assoc, HVS.out]; simp
                    cases ok with
                    | false =>
                      clear hfs hmt hma
                      go_wp2_with fail
                      go_roundg m8
                      case measure => omega
                      case rel => exact ⟨a + 1, rfl, by rw [HVE.out], by omega, BF.out⟩
                    | true =>
                      have hne : fa ≠ a := fun e => by have := hfs.yes.2.2.1; rw [e, hmt] at this; cases this
                      have hne' : ((fa : Int) != (a : Int)) = true := by simp; omega
                      clear hfs hmt hma hne
                      go_wp2_with fail
                      go_roundg m8
                      case measure => omega
                      case rel => exact ⟨a + 1, rfl, by rw [HVE.out], by omega, BF.out⟩
                  | true =>
                    cases ok with
                    | false => have := hfs.not a (Nat.le_refl _); rw [hmt] at this; cases this
                    | true =>
                      have hfa : fa = a := by
                        obtain ⟨y1, y2, y3, y4⟩ := hfs.yes
                        rcases Nat.lt_or_ge a fa with h | h
                        · have := y4 a (Nat.le_refl _) h; rw [hmt] at this; cases this
                        · omega
                      subst hfa
                      have HRM := Hid.mk' (hs_iff (l := l) (t := t) (h := rs t (s + fa)) |>.2 ⟨s + fa, by rw [hma]; exact hmt, rfl⟩)
                      rw [hmt] at HVS
                      have CR := Hid.mk' (rest_at' ao n c (s + fa) t wf (by omega) LF.out.tx)
                      obtain ⟨R, HR⟩ : ∃ R, Hid (rs t (s + fa) = R) := ⟨_, rfl⟩
                      rw [HR.out] at HRM HVS CR
                      have hbt := HBT.out R HRM.out
                      have hw9 : IntKind.i64.wrap ((s : Int) + (fa : Int)) = ((s + fa : Nat) : Int) := by have := H9.out; rw [IntKind.wrap_i64]; omega
                      have r0 := LF.out.c0
                      have r2 := LF.out.c2
                      have g1 : wf.cell? ⟨b5, 1, none⟩ = some (.int .i64 (X : Int)) := KF.out.cell (j := 1) rfl
                      have HVE : Hid (hv l t X (s + (fa + 1)) = (hv l t X (s + fa) || (R == X))) := by unfold Hid; rw [← Nat.add_assoc, HVS.out]; simp
                      clear hfs hmt hma HRM HVS
                      obtain ⟨H1, HH1⟩ : ∃ H1, Hid (hv l t X (s + fa) = H1) := ⟨_, rfl⟩
                      rw [HH1.out] at HVE ⊢
                      by_cases hXk : kn < X
                      · have d1 : decide ((kn : Int) < (X : Int)) = true := decide_eq_true (by omega)
                        have d1' : (kn : Int) < (X : Int) := by omega
                        have d4 : decide ((X : Int) ≤ (kn : Int)) = false := decide_eq_false (by omega)
                        have d4' : ¬ ((X : Int) ≤ (kn : Int)) := by omega
                        by_cases hRk : kn < R
                        · have d2 : decide ((kn : Int) < (R : Int)) = true := decide_eq_true (by omega)
                          have d2' : (kn : Int) < (R : Int) := by omega
                          have d3 : decide ((R : Int) < (X : Int)) = false := decide_eq_false (by omega)
                          have d3' : ¬ ((R : Int) < (X : Int)) := by omega
                          clear hbt hXk hRk
                          cases H1 with
                          | true =>
                            go_wp2_with fail
                            refine CR.out.mono ?_
                            rintro e wg ⟨rfl, hwg⟩
                            subst hwg
                            go_wp2_with fail
                            go_roundg m8
                            case measure => omega
                            case rel => exact ⟨fa + 1, rfl, by rw [HVE.out]; rfl, by omega, BF.out⟩
                          | false =>
                            by_cases hRX : R = X
                            · have hRX' : ((R : Int) == (X : Int)) = true := by simp; omega
                              have HQ : Hid ((R == X) = true) := by simp [Hid, hRX]
                              clear hRX
                              go_wp2_with fail
                              refine CR.out.mono ?_
                              rintro e wg ⟨rfl, hwg⟩
                              subst hwg
                              go_wp2_with fail
                              go_roundg m8
                              case measure => omega
                              case rel => exact ⟨fa + 1, rfl, by rw [HVE.out, HQ.out]; rfl, by omega, BF.out⟩
                            · have hRX' : ((R : Int) == (X : Int)) = false := by simp; omega
                              have HQ : Hid ((R == X) = false) := by simp [Hid, hRX]
                              clear hRX
                              go_wp2_with fail
                              refine CR.out.mono ?_
                              rintro e wg ⟨rfl, hwg⟩
                              subst hwg
                              go_wp2_with fail
                              go_roundg m8
                              case measure => omega
                              case rel => exact ⟨fa + 1, rfl, by rw [HVE.out, HQ.out]; rfl, by omega, BF.out⟩
                        · have d2 : decide ((kn : Int) < (R : Int)) = false := decide_eq_false (by omega)
                          have d2' : ¬ ((kn : Int) < (R : Int)) := by omega
                          clear hbt hXk hRk
                          cases H1 with
                          | true =>
                            go_wp2_with fail
                            refine CR.out.mono ?_
                            rintro e wg ⟨rfl, hwg⟩
                            subst hwg
                            go_wp2_with fail
                            go_roundg m8
                            case measure => omega
                            case rel => exact ⟨fa + 1, rfl, by rw [HVE.out]; rfl, by omega, BF.out⟩
                          | false =>
                            by_cases hRX : R = X
                            · have hRX' : ((R : Int) == (X : Int)) = true := by simp; omega
                              have HQ : Hid ((R == X) = true) := by simp [Hid, hRX]
                              clear hRX
                              go_wp2_with fail
                              refine CR.out.mono ?_
                              rintro e wg ⟨rfl, hwg⟩
                              subst hwg
                              go_wp2_with fail
                              go_roundg m8
                              case measure => omega
                              case rel => exact ⟨fa + 1, rfl, by rw [HVE.out, HQ.out]; rfl, by omega, BF.out⟩
                            · have hRX' : ((R : Int) == (X : Int)) = false := by simp; omega
                              have HQ : Hid ((R == X) = false) := by simp [Hid, hRX]
                              clear hRX
                              go_wp2_with fail
                              refine CR.out.mono ?_
                              rintro e wg ⟨rfl, hwg⟩
                              subst hwg
                              go_wp2_with fail
                              go_roundg m8
                              case measure => omega
                              case rel => exact ⟨fa + 1, rfl, by rw [HVE.out, HQ.out]; rfl, by omega, BF.out⟩
                      · have d1 : decide ((kn : Int) < (X : Int)) = false := decide_eq_false (by omega)
                        have d1' : ¬ ((kn : Int) < (X : Int)) := by omega
                        have d4 : decide ((X : Int) ≤ (kn : Int)) = true := decide_eq_true (by omega)
                        have d4' : ((X : Int) ≤ (kn : Int)) := by omega
                        have d2 : decide ((kn : Int) < (R : Int)) = false := decide_eq_false (by omega)
                        have d2' : ¬ ((kn : Int) < (R : Int)) := by omega
                        have d3 : decide ((R : Int) < (X : Int)) = false := decide_eq_false (by omega)
                        have d3' : ¬ ((R : Int) < (X : Int)) := by omega
                        clear hbt hXk
                        cases H1 with
                        | true =>
                          go_wp2_with fail
                          refine CR.out.mono ?_
                          rintro e wg ⟨rfl, hwg⟩
                          subst hwg
                          go_wp2_with fail
                          go_roundg m8
                          case measure => omega
                          case rel => exact ⟨fa + 1, rfl, by rw [HVE.out]; rfl, by omega, BF.out⟩
                        | false =>
                          by_cases hRX : R = X
                          · have hRX' : ((R : Int) == (X : Int)) = true := by simp; omega
                            have HQ : Hid ((R == X) = true) := by simp [Hid, hRX]
                            clear hRX
                            go_wp2_with fail
                            refine CR.out.mono ?_
                            rintro e wg ⟨rfl, hwg⟩
                            subst hwg
                            go_wp2_with fail
                            go_roundg m8
                            case measure => omega
                            case rel => exact ⟨fa + 1, rfl, by rw [HVE.out, HQ.out]; rfl, by omega, BF.out⟩
                          · have hRX' : ((R : Int) == (X : Int)) = false := by simp; omega
                            have HQ : Hid ((R == X) = false) := by simp [Hid, hRX]
                            clear hRX
                            go_wp2_with fail
                            refine CR.out.mono ?_
                            rintro e wg ⟨rfl, hwg⟩
                            subst hwg
                            go_wp2_with fail
                            go_roundg m8
                            case measure => omega
                            case rel => exact ⟨fa + 1, rfl, by rw [HVE.out, HQ.out]; rfl, by omega, BF.out⟩
      · rw [nx_bad hok, tg_def] at he
        subst he
        clear hok
        go_wp2
        go_ret
        exact ⟨rfl, bAlloc L3.out.bel _⟩
  · go_wp2
    go_ret
    exact ⟨rfl, U2.out⟩
end Go.Proofs.Ytaakgoojcogbcaa
