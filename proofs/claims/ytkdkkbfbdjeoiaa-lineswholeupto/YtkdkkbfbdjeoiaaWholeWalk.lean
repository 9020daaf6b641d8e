/- The walk of quoinlaw05.LinesWhole. -/
import Derived.Test.YtkdkkbfbdjeoiaaLists
namespace Go.Proofs.Ytkdkkbfbdjeoiaa
open Go.RowKit

theorem startL {ao : Option Addr} {n c k : Nat} {l : List UInt8} {w : World} (hk : k ≤ nl l) (HT : Hid (Tx w ao n c l)) :
    Calls Try.prog 11 #[.slice ao n c, .int .i64 k] w fun e w' => e = .returned (.tuple #[.int .i64 (sp l k), .int .i64 0]) ∧ w' = w := by
  have hl := HT.out.len
  have hb := HT.out.big
  have h2 := nl_le l
  have := start_any ao n c k l w (by omega) HT
  have e : pr (aStart l (k : Nat)) = .returned (.tuple #[.int .i64 (sp l k), .int .i64 0]) := by
    unfold pr aStart ans lnB
    rw [decide_eq_true (by omega), Int.toNat_natCast]; rfl
  rwa [e] at this
theorem endL {ao : Option Addr} {n c k : Nat} {l : List UInt8} {w : World} (hk : k ≤ nl l) (HT : Hid (Tx w ao n c l)) :
    Calls Try.prog 13 #[.slice ao n c, .int .i64 k] w fun e w' => e = .returned (.tuple #[.int .i64 (en l (sp l k)), .int .i64 0]) ∧ w' = w := by
  have hl := HT.out.len
  have hb := HT.out.big
  have h2 := nl_le l
  have := end_any ao n c k l w (by omega) HT
  have e : pr (aEnd l (k : Nat)) = .returned (.tuple #[.int .i64 (en l (sp l k)), .int .i64 0]) := by
    unfold pr aEnd ans lnB
    rw [decide_eq_true (by omega), Int.toNat_natCast]; rfl
  rwa [e] at this

set_option maxHeartbeats 4000000 in
set_option maxRecDepth 100000 in
theorem linesWhole_walk (ao : Option Addr) (n c : Nat) (l : List UInt8) (w : World) (hn : n ≤ 4398046511104) (HT : Hid (Tx w ao n c l)) :
    Calls Try.prog 6 #[.slice ao n c] w fun e w' => e = .returned (.bool true) ∧ Below w.heap.size w w' := by
  obtain ⟨i5, hi5, hz5, hs5, hb5⟩ := info_parts info5
  have HL := Hid.mk' HT.out.len
  have hcap := HT.out.cap
  have hN : nl l ≤ n := by have := nl_le l; rw [HL.out] at this; exact this
  have hN' : (nl l : Int) ≤ 4398046511104 := by omega
  have hN0 : (0 : Int) ≤ (nl l : Int) := by omega
  go_enter Try.func6, Try.ntmps6
  go_wp2_with fail
  refine (alive_any _).mono ?_
  rintro e w1 ⟨rfl, hb1⟩
  have T1 := Hid.mk' (HT.out.keep hb1)
  go_wp2_with fail
  refine (split_any _ _ _ l _ hn T1).mono ?_
  rintro e w2 ⟨v, D, rfl, hR, hD⟩
  have HV : Hid (Ls w2 v (nl l + 1) (ln l)) := ls_of 0 hR (fun j _ => by rw [Nat.zero_add]) hD (fun i hi => by rw [ln_length (by omega)]; have := en_le (sp_le (t := l) (n := i) (by omega)); have := HL.out; omega)
  have B2 := Hid.mk' (bT hb1 hR.bel)
  have T2 := Hid.mk' (HT.out.keep B2.out)
  obtain ⟨av, cv, hv⟩ := HV.out.top
  subst hv
  clear hb1 hR hD T1
  go_wp2_with fail
  refine (count_any _ _ _ l _ T2).mono ?_
  rintro e w3 ⟨rfl, hb3⟩
  have HV3 := Hid.mk' (HV.out.keep hb3)
  have B3 := Hid.mk' (bT B2.out hb3)
  have T3 := Hid.mk' (HT.out.keep B3.out)
  clear hb3 B2 T2 HV
  by_cases hbig : (nl l : Int) + 1 > 3000
  · go_wp2
    go_ret
    exact ⟨rfl, B3.out⟩
  go_wp2_with fail
  go_loopw [4, 5] (fun u x wr => ∃ i : Nat, x = .int .i64 i ∧ i ≤ nl l + 1 ∧ wr.ownsRow w3.heap.size 5 1 u (jl l i).length (bv (jl l i)) ∧ Below w3.heap.size w3 wr) (fun _ x _ => nl l + 1 - (intOf x).toNat)
  case atStart => exact ⟨0, rfl, Nat.zero_le _, World.ownsRow_nil _ _ _ _, Below.refl _ _⟩
  case round =>
    obtain ⟨i, rfl, hi, hown, hb⟩ := hrel
    have HO := Hid.mk' hown
    have HB := Hid.mk' hb
    have T4 := Hid.mk' (T3.out.keep hb)
    have V4 := Hid.mk' (HV3.out.keep hb)
    obtain ⟨ax, cx, hux⟩ := own_shape hown
    subst hux
    clear hown hb
    by_cases hlt : i < nl l + 1
    · obtain ⟨g, c', ai, ci, hv, hcell, hti⟩ := V4.out.each i hlt
      have hav : av = some ⟨g, 0, none⟩ := by simp at hv; exact hv.1
      subst hav
      have hS := sp_le (t := l) (n := i) (by omega)
      have hSE := en_ge l (sp l i)
      have hE := en_le hS
      rw [HL.out] at hS hE
      have HLn : Hid ((ln l i).length = en l (sp l i) - sp l i) := ln_length (by omega)
      have C1 := Hid.mk' (startL (k := i) (show i ≤ nl l by omega) T4)
      have C2 := Hid.mk' (endL (k := i) (show i ≤ nl l by omega) T4)
      have HJ := Hid.mk' (jl_next (l := l) (i := i) (by omega))
      have HK : Hid (i ≠ 0 → jl l i ++ [10] = l.take (sp l i)) := fun h => by
        obtain ⟨k, rfl⟩ : ∃ k, i = k + 1 := ⟨i - 1, by omega⟩
        exact jl_end (by omega)
      have HK0 : Hid (i = 0 → jl l i = l.take (sp l i)) := fun h => by subst h; rw [sp_zero]; rfl
      have HJL : Hid ((l.take (sp l i)).length = sp l i) := by unfold Hid; rw [List.length_take, HL.out]; omega
      have HJN : Hid ((jl l (i + 1)).length = en l (sp l i)) := by show (l.take (en l (sp l i))).length = _; rw [List.length_take, HL.out]; omega
      have HLD : Hid (ln l i = (l.drop (sp l i)).take (en l (sp l i) - sp l i)) := rfl
      clear hv
      generalize en l (sp l i) = E at *
      generalize sp l i = S at *
      have VB := conv_drew hti
      have HTI := Hid.mk' hti
      have V4at : Hid (∀ W, Below w3.heap.size w3 W → W.cell? ⟨g, i, none⟩ = some (.slice ai (ln l i).length ci) ∧ Tx W ai (ln l i).length ci (ln l i)) := fun W hW => by
        obtain ⟨g2, c2, a2, d2, e1, e2, e3⟩ := (HV3.out.keep hW).each i hlt
        obtain ⟨g3, c3, a3, d3, f1, f2, f3⟩ := HV3.out.each i hlt
        have x1 : g3 = g2 := by rw [e1] at f1; simp at f1; exact f1.1.symm
        have x2 : g3 = g := by simp at f1; exact f1.1.symm
        have y1 := (HB.out.cell (lt_of_cell f2))
        subst x1 x2
        rw [f2] at y1
        rw [hcell] at y1
        have y2 := (hW.cell (lt_of_cell f2))
        rw [f2, e2] at y2
        simp at y1 y2
        obtain ⟨z1, z2⟩ := y1
        obtain ⟨z3, z4⟩ := y2
        subst z1 z2 z3 z4
        exact ⟨e2, e3⟩
      clear hti V4
      have hi0 : (0 : Int) ≤ (i : Int) := by omega
      have hiK : (i : Int) < (nl l : Int) + 1 := by omega
      have hS0 : (0 : Int) ≤ (S : Int) := by omega
      have hSE' : (S : Int) ≤ (E : Int) := by omega
      have hEn' : (E : Int) ≤ (n : Int) := by omega
      have hE1 : E ≤ c := by omega
      have hE2 : (E : Int) ≤ (c : Int) := by omega
      have hE3 : (0 : Int) ≤ (E : Int) := by omega
      have d1 : decide ((S : Int) < 0) = false := decide_eq_false (by omega)
      have d2 : decide ((E : Int) < (S : Int)) = false := decide_eq_false (by omega)
      have d3 : decide ((E : Int) > (n : Int)) = false := decide_eq_false (by omega)
      cases ao with
      | none =>
        obtain rfl : n = 0 := T4.out.none.1
        obtain rfl : c = 0 := T4.out.none.2.1
        obtain rfl : E = 0 := by omega
        obtain rfl : S = 0 := by omega
        have VA : ∀ q, (convert 22 9 (.slice none 0 0)).run Try.prog (wr.drewN q) = .ok (.string ⟨(ln l i).toArray⟩) (wr.drewN q) := conv_drew (by rw [HLD.out]; have := T4.out.head (i := 0) (Nat.le_refl _); simpa using this)
        go_wp2_with fail
        refine C1.out.mono ?_
        rintro e w9 ⟨rfl, hw⟩
        have hq := hw.symm
        subst hq
        clear hw
        go_wp2_with fail
        refine C2.out.mono ?_
        rintro e w9 ⟨rfl, hw⟩
        have hq := hw.symm
        subst hq
        clear hw
        go_wp2
        go_quiet (fail)
        have kq := below_drewN wr nq
        have HOq := Hid.mk' (own_keep HO.out kq)
        have hcq : (wr.drewN nq).cell? ⟨g, i, none⟩ = some (.slice ai (ln l i).length ci) := hcell
        have HBq := Hid.mk' (bT HB.out kq)
        have HTq := Hid.mk' (HTI.out.keep kq)
        clear hcell HO HB HTI VA VB kq T4 C1 C2
        generalize wr.drewN nq = wq at *
        by_cases hi1 : i = 0
        · have HU : Hid (jl l i = l.take 0) := HK0.out hi1
          have HUL : Hid ((jl l i).length = 0) := by unfold Hid; rw [HU.out, HJL.out]
          have hi2 : ¬ (0 : Int) < (i : Int) := by omega
          clear hi1
          go_wp2_with (at_builtin; refine append_srv rfl (.tmp 79) (.tmp 83) 22 rfl w3.heap.size 5 i5 (.int .u8 0) 1 1 Try.underlying22 hi5 hz5 hs5 hb5 rfl (by decide) (.slice ax (jl l i).length cx) (jl l i).length (bv (jl l i)) rfl HOq.out (.slice ai (ln l i).length ci) (ln l i).length (bv (ln l i)) rfl HTq.out.srv (by rw [bv_length]; omega) (bv_one _) ?q2 ?q3 ?q4 ?_)
          case q2 => have := HLn.out; have := HUL.out; unfold maxLen; omega
          case q3 => have := HLn.out; have := HUL.out; omega
          case q4 => exact HBq.out.size
          intro v5 w5 hown5 hgrow5 _
          have HO5 : Hid (w5.ownsRow w3.heap.size 5 1 v5 (jl l (i + 1)).length (bv (jl l (i + 1)))) := by
            unfold Hid
            rw [← HJ.out, ← HU.out, List.length_append]
            have e5 : bv (jl l i ++ ln l i) = bv (jl l i) ++ bv (ln l i) := by simp [bv]
            rw [e5]
            exact hown5
          have HB5 : Hid (Below w3.heap.size w3 w5) := HBq.out.grown hgrow5 HBq.out.size (fun k hk => (HOq.out.lt k hk).1)
          clear hown5 hgrow5
          go_wp2
          go_roundw
          case rel => exact ⟨i + 1, by go_num, by omega, HO5.out, HB5.out⟩
          case measure => first | (simp [intOf]; done) | (simp [intOf]; omega)
        · exfalso
          have := congrArg List.length (HK.out hi1)
          rw [List.length_append, HJL.out] at this
          simp at this
      | some a =>
        by_cases hcs : c = S
        · obtain rfl : S = n := by omega
          obtain rfl : S = E := by omega
          obtain rfl : S = c := hcs.symm
          have VA : ∀ q, (convert 22 9 (.slice (some a) 0 0)).run Try.prog (wr.drewN q) = .ok (.string ⟨(ln l i).toArray⟩) (wr.drewN q) := conv_drew (by rw [HLD.out]; have := (T4.out.tail0 hS rfl).mid hE hSE; simpa using this)
          go_wp2_with fail
          refine C1.out.mono ?_
          rintro e w9 ⟨rfl, hw⟩
          have hq := hw.symm
          subst hq
          clear hw
          go_wp2_with fail
          refine C2.out.mono ?_
          rintro e w9 ⟨rfl, hw⟩
          have hq := hw.symm
          subst hq
          clear hw
          go_wp2
          go_quiet (fail)
          have kq := below_drewN wr nq
          have HOq := Hid.mk' (own_keep HO.out kq)
          have hcq : (wr.drewN nq).cell? ⟨g, i, none⟩ = some (.slice ai (ln l i).length ci) := hcell
          have HBq := Hid.mk' (bT HB.out kq)
          have HTq := Hid.mk' (HTI.out.keep kq)
          clear hcell HO HB HTI VA VB kq T4 C1 C2
          generalize wr.drewN nq = wq at *
          by_cases hi1 : i = 0
          · have HU : Hid (jl l i = l.take S) := HK0.out hi1
            have HUL : Hid ((jl l i).length = S) := by unfold Hid; rw [HU.out, HJL.out]
            have hi2 : ¬ (0 : Int) < (i : Int) := by omega
            clear hi1
            go_wp2_with (at_builtin; refine append_srv rfl (.tmp 79) (.tmp 83) 22 rfl w3.heap.size 5 i5 (.int .u8 0) 1 1 Try.underlying22 hi5 hz5 hs5 hb5 rfl (by decide) (.slice ax (jl l i).length cx) (jl l i).length (bv (jl l i)) rfl HOq.out (.slice ai (ln l i).length ci) (ln l i).length (bv (ln l i)) rfl HTq.out.srv (by rw [bv_length]; omega) (bv_one _) ?q2 ?q3 ?q4 ?_)
            case q2 => have := HLn.out; have := HUL.out; unfold maxLen; omega
            case q3 => have := HLn.out; have := HUL.out; omega
            case q4 => exact HBq.out.size
            intro v5 w5 hown5 hgrow5 _
            have HO5 : Hid (w5.ownsRow w3.heap.size 5 1 v5 (jl l (i + 1)).length (bv (jl l (i + 1)))) := by
              unfold Hid
              rw [← HJ.out, ← HU.out, List.length_append]
              have e5 : bv (jl l i ++ ln l i) = bv (jl l i) ++ bv (ln l i) := by simp [bv]
              rw [e5]
              exact hown5
            have HB5 : Hid (Below w3.heap.size w3 w5) := HBq.out.grown hgrow5 HBq.out.size (fun k hk => (HOq.out.lt k hk).1)
            clear hown5 hgrow5
            go_wp2
            go_roundw
            case rel => exact ⟨i + 1, by go_num, by omega, HO5.out, HB5.out⟩
            case measure => first | (simp [intOf]; done) | (simp [intOf]; omega)
          · have hi2 : (0 : Int) < (i : Int) := by omega
            have HU := Hid.mk' (HK.out hi1)
            have HUL : Hid ((jl l i).length + 1 = S) := by have := congrArg List.length HU.out; rw [List.length_append, HJL.out] at this; exact this
            go_wp2_with (at_builtin; refine append_srv rfl (.tmp 76) (.tmp 77) 22 rfl w3.heap.size 5 i5 (.int .u8 0) 1 1 Try.underlying22 hi5 hz5 hs5 hb5 rfl (by decide) (.slice ax (jl l i).length cx) (jl l i).length (bv (jl l i)) rfl (HOq.out.alloc _) (.slice (some ⟨wq.heap.size, 0, none⟩) 1 1) 1 [.int .u8 10] rfl (.inr ⟨⟨wq.heap.size, 0, none⟩, 1, rfl, fun j t hj => lit_cells wq _ 5 j t hj⟩) rfl ?p1 ?p2 ?p3 ?p4 ?_)
            case p1 => intro u hu; simp at hu; subst hu; rfl
            case p2 => have := HUL.out; unfold maxLen; omega
            case p3 => have := HUL.out; omega
            case p4 => have := HBq.out.size; simp; omega
            intro v4 w4 hown4 hgrow4 _
            have HO4 : Hid (w4.ownsRow w3.heap.size 5 1 v4 S (bv (l.take S))) := by
              unfold Hid
              rw [← HU.out]
              have e5 : bv (jl l i ++ [10]) = bv (jl l i) ++ [.int .u8 10] := by simp [bv]
              rw [e5, ← HUL.out]
              exact hown4
            have hlo : ∀ k, (Value.slice ax (jl l i).length cx).ownBlock = some k → w3.heap.size ≤ k := fun k hk => (HOq.out.lt k hk).1
            have HB4 : Hid (Below w3.heap.size w3 w4) := (bAlloc HBq.out _).grown hgrow4 (by have := HBq.out.size; simp; omega) hlo
            have hcell4 := V4at.out w4 HB4.out
            obtain ⟨hc4, ht4⟩ := hcell4
            have HT4 := Hid.mk' ht4
            obtain ⟨a4, c4, hv4⟩ := own_shape HO4.out
            subst hv4
            clear hown4 hgrow4 ht4
            go_wp2_with (at_builtin; refine append_srv rfl (.tmp 79) (.tmp 83) 22 rfl w3.heap.size 5 i5 (.int .u8 0) 1 1 Try.underlying22 hi5 hz5 hs5 hb5 rfl (by decide) (.slice a4 S c4) S (bv (l.take S)) rfl HO4.out (.slice ai (ln l i).length ci) (ln l i).length (bv (ln l i)) rfl HT4.out.srv (by rw [bv_length]; omega) (bv_one _) ?q2 ?q3 ?q4 ?_)
            case q2 => have := HLn.out; have := HJL.out; unfold maxLen; omega
            case q3 => have := HLn.out; have := HJL.out; omega
            case q4 => exact HB4.out.size
            intro v5 w5 hown5 hgrow5 _
            have HO5 : Hid (w5.ownsRow w3.heap.size 5 1 v5 (jl l (i + 1)).length (bv (jl l (i + 1)))) := by
              unfold Hid
              rw [← HJ.out, List.length_append, HJL.out]
              have e5 : bv (l.take S ++ ln l i) = bv (l.take S) ++ bv (ln l i) := by simp [bv]
              rw [e5]
              exact hown5
            have HB5 : Hid (Below w3.heap.size w3 w5) := HB4.out.grown hgrow5 HB4.out.size (fun k hk => (HO4.out.lt k hk).1)
            clear hown5 hgrow5
            go_wp2
            go_roundw
            case rel => exact ⟨i + 1, by go_num, by omega, HO5.out, HB5.out⟩
            case measure => first | (simp [intOf]; done) | (simp [intOf]; omega)

        · have VA : ∀ q, (convert 22 9 (.slice (some (a.add S)) (E - S) (c - S))).run Try.prog (wr.drewN q) = .ok (.string ⟨(ln l i).toArray⟩) (wr.drewN q) := conv_drew (by rw [HLD.out]; exact (T4.out.tail hS).mid hE hSE)
          go_wp2_with fail
          refine C1.out.mono ?_
          rintro e w9 ⟨rfl, hw⟩
          have hq := hw.symm
          subst hq
          clear hw
          go_wp2_with fail
          refine C2.out.mono ?_
          rintro e w9 ⟨rfl, hw⟩
          have hq := hw.symm
          subst hq
          clear hw
          go_wp2
          go_quiet (fail)
          have kq := below_drewN wr nq
          have HOq := Hid.mk' (own_keep HO.out kq)
          have hcq : (wr.drewN nq).cell? ⟨g, i, none⟩ = some (.slice ai (ln l i).length ci) := hcell
          have HBq := Hid.mk' (bT HB.out kq)
          have HTq := Hid.mk' (HTI.out.keep kq)
          clear hcell HO HB HTI VA VB kq T4 C1 C2
          generalize wr.drewN nq = wq at *
          by_cases hi1 : i = 0
          · have HU : Hid (jl l i = l.take S) := HK0.out hi1
            have HUL : Hid ((jl l i).length = S) := by unfold Hid; rw [HU.out, HJL.out]
            have hi2 : ¬ (0 : Int) < (i : Int) := by omega
            clear hi1
            go_wp2_with (at_builtin; refine append_srv rfl (.tmp 79) (.tmp 83) 22 rfl w3.heap.size 5 i5 (.int .u8 0) 1 1 Try.underlying22 hi5 hz5 hs5 hb5 rfl (by decide) (.slice ax (jl l i).length cx) (jl l i).length (bv (jl l i)) rfl HOq.out (.slice ai (ln l i).length ci) (ln l i).length (bv (ln l i)) rfl HTq.out.srv (by rw [bv_length]; omega) (bv_one _) ?q2 ?q3 ?q4 ?_)
            case q2 => have := HLn.out; have := HUL.out; unfold maxLen; omega
            case q3 => have := HLn.out; have := HUL.out; omega
            case q4 => exact HBq.out.size
            intro v5 w5 hown5 hgrow5 _
            have HO5 : Hid (w5.ownsRow w3.heap.size 5 1 v5 (jl l (i + 1)).length (bv (jl l (i + 1)))) := by
              unfold Hid
              rw [← HJ.out, ← HU.out, List.length_append]
              have e5 : bv (jl l i ++ ln l i) = bv (jl l i) ++ bv (ln l i) := by simp [bv]
              rw [e5]
              exact hown5
            have HB5 : Hid (Below w3.heap.size w3 w5) := HBq.out.grown hgrow5 HBq.out.size (fun k hk => (HOq.out.lt k hk).1)
            clear hown5 hgrow5
            go_wp2
            go_roundw
            case rel => exact ⟨i + 1, by go_num, by omega, HO5.out, HB5.out⟩
            case measure => first | (simp [intOf]; done) | (simp [intOf]; omega)
          · have hi2 : (0 : Int) < (i : Int) := by omega
            have HU := Hid.mk' (HK.out hi1)
            have HUL : Hid ((jl l i).length + 1 = S) := by have := congrArg List.length HU.out; rw [List.length_append, HJL.out] at this; exact this
            go_wp2_with (at_builtin; refine append_srv rfl (.tmp 76) (.tmp 77) 22 rfl w3.heap.size 5 i5 (.int .u8 0) 1 1 Try.underlying22 hi5 hz5 hs5 hb5 rfl (by decide) (.slice ax (jl l i).length cx) (jl l i).length (bv (jl l i)) rfl (HOq.out.alloc _) (.slice (some ⟨wq.heap.size, 0, none⟩) 1 1) 1 [.int .u8 10] rfl (.inr ⟨⟨wq.heap.size, 0, none⟩, 1, rfl, fun j t hj => lit_cells wq _ 5 j t hj⟩) rfl ?p1 ?p2 ?p3 ?p4 ?_)
            case p1 => intro u hu; simp at hu; subst hu; rfl
            case p2 => have := HUL.out; unfold maxLen; omega
            case p3 => have := HUL.out; omega
            case p4 => have := HBq.out.size; simp; omega
            intro v4 w4 hown4 hgrow4 _
            have HO4 : Hid (w4.ownsRow w3.heap.size 5 1 v4 S (bv (l.take S))) := by
              unfold Hid
              rw [← HU.out]
              have e5 : bv (jl l i ++ [10]) = bv (jl l i) ++ [.int .u8 10] := by simp [bv]
              rw [e5, ← HUL.out]
              exact hown4
            have hlo : ∀ k, (Value.slice ax (jl l i).length cx).ownBlock = some k → w3.heap.size ≤ k := fun k hk => (HOq.out.lt k hk).1
            have HB4 : Hid (Below w3.heap.size w3 w4) := (bAlloc HBq.out _).grown hgrow4 (by have := HBq.out.size; simp; omega) hlo
            have hcell4 := V4at.out w4 HB4.out
            obtain ⟨hc4, ht4⟩ := hcell4
            have HT4 := Hid.mk' ht4
            obtain ⟨a4, c4, hv4⟩ := own_shape HO4.out
            subst hv4
            clear hown4 hgrow4 ht4
            go_wp2_with (at_builtin; refine append_srv rfl (.tmp 79) (.tmp 83) 22 rfl w3.heap.size 5 i5 (.int .u8 0) 1 1 Try.underlying22 hi5 hz5 hs5 hb5 rfl (by decide) (.slice a4 S c4) S (bv (l.take S)) rfl HO4.out (.slice ai (ln l i).length ci) (ln l i).length (bv (ln l i)) rfl HT4.out.srv (by rw [bv_length]; omega) (bv_one _) ?q2 ?q3 ?q4 ?_)
            case q2 => have := HLn.out; have := HJL.out; unfold maxLen; omega
            case q3 => have := HLn.out; have := HJL.out; omega
            case q4 => exact HB4.out.size
            intro v5 w5 hown5 hgrow5 _
            have HO5 : Hid (w5.ownsRow w3.heap.size 5 1 v5 (jl l (i + 1)).length (bv (jl l (i + 1)))) := by
              unfold Hid
              rw [← HJ.out, List.length_append, HJL.out]
              have e5 : bv (l.take S ++ ln l i) = bv (l.take S) ++ bv (ln l i) := by simp [bv]
              rw [e5]
              exact hown5
            have HB5 : Hid (Below w3.heap.size w3 w5) := HB4.out.grown hgrow5 HB4.out.size (fun k hk => (HO4.out.lt k hk).1)
            clear hown5 hgrow5
            go_wp2
            go_roundw
            case rel => exact ⟨i + 1, by go_num, by omega, HO5.out, HB5.out⟩
            case measure => first | (simp [intOf]; done) | (simp [intOf]; omega)
    · obtain rfl : i = nl l + 1 := by omega
      have V1 : (convert 22 9 (.slice ax (jl l (nl l + 1)).length cx)).run Try.prog wr = .ok (.string ⟨l.toArray⟩) wr := by
        obtain ⟨a1, c1, e1, h1⟩ := own_tx HO.out (by rw [jl_all, HL.out]; omega)
        rw [e1, conv_tx h1, jl_all]
      have V2 := conv_tx T4.out
      go_wp2
      go_ret
      exact ⟨rfl, bT B3.out HB.out⟩
end Go.Proofs.Ytkdkkbfbdjeoiaa
