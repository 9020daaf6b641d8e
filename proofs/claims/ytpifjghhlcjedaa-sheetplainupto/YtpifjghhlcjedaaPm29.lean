/- quoinlaw04.plain: a list of edits. -/
import Derived.Test.YtpifjghhlcjedaaPm27
namespace Go.Proofs.Ytpifjghhlcjedaa
open Go.RowKit Go.Shelf

set_option maxHeartbeats 1000000 in
theorem same_no (u v : Value) (l m : List UInt8) (w : World) (h1 : Ab.Rd w u l) (h2 : Ab.Rd w v m) (hne : (l == m) = false) : Calls Try.prog 32 #[u, v] w fun e w' => e = .returned (.bool false) ∧ Below w.heap.size w w' := by
  have k1 := conv_rd h1
  have k2 := conv_rd h2
  clear h1 h2
  go_enter Try.func32, Try.ntmps32
  go_wp2
  go_ret
  exact ⟨rfl, Below.refl _ _⟩
theorem own_shape' {w : World} {base e size n : Nat} {v : Value} {xs : List Value} (h : w.ownsRow base e size v n xs) : ∃ ao cap, n ≤ cap ∧ v = .slice ao n cap := by
  rcases h.2 with ⟨rfl, h0⟩ | ⟨g, cap, cur, rfl, _, _, hc, _⟩
  · exact ⟨none, 0, by omega, by rw [h0]⟩
  · exact ⟨_, cap, hc, rfl⟩
/-- a text that is the one that came, or lies in new memory -/
def Nw (W : World) (ta va : Option Addr) (T U : List UInt8) : Prop := (va = ta ∧ U = T) ∨ ∀ a, va = some a → W.heap.size ≤ a.block
theorem own_nw {W w : World} {base e size n m c : Nat} {va ta : Option Addr} {xs : List Value} {T U : List UInt8} (h : w.ownsRow base e size (.slice va m c) n xs) (hb : W.heap.size ≤ base) : Nw W ta va T U := by
  refine .inr fun a ha => ?_
  rcases h.2 with ⟨hv, _⟩ | ⟨g, cap, cur, hv, hg, _⟩
  · cases hv; cases ha
  · cases hv; cases ha; exact Nat.le_trans hb hg
/-- what plain gives -/
def PlGave (ta : Option Addr) (W w' : World) (e' : Ending) (T : List UInt8) (o : Option (List UInt8)) : Prop := ∃ va c, e' = .returned (.tuple #[.slice va (o.getD T).length c, .bool o.isSome]) ∧ (o.getD T).length ≤ c ∧ Ab.Rd w' (.slice va (o.getD T).length c) (o.getD T) ∧ Below W.heap.size W w' ∧ Nw W ta va T (o.getD T)
theorem ap_step {es : List Ed} {k : Nat} {d : Ed} {U : List UInt8} (h : es[k]? = some d) : apT U (es.drop k) = if edB U d then apT (edT U d) (es.drop (k + 1)) else none := by
  obtain ⟨hi, rfl⟩ := List.getElem?_eq_some_iff.1 h
  rw [List.drop_eq_getElem_cons hi]; rfl
theorem ns_step {es : List Ed} {k : Nat} {d : Ed} (h : es[k]? = some d) : nsum (es.drop k) = d.new.length + nsum (es.drop (k + 1)) := by
  obtain ⟨hi, rfl⟩ := List.getElem?_eq_some_iff.1 h
  rw [List.drop_eq_getElem_cons hi]; rfl
set_option maxRecDepth 8000 in
set_option maxHeartbeats 4000000 in
theorem plain2_any (T : List UInt8) (es : List Ed) (ta ae : Option Addr) (tc ce : Nat) (x y : Int) (vp : Value) (W : World) (hR : Hid (Ab.Rd W (.slice ta T.length tc) T)) (hE : Hid (Eds W ae es)) (hz : T.length + nsum es ≤ 1048576) (hm : es.length ≤ 1048576) (hc : T.length ≤ tc) :
    Calls Try.prog 28 #[.slice ta T.length tc, .agg #[.int .i64 2, .int .i64 x, .int .i64 y, vp, .slice ae es.length ce]] W fun e' w' => PlGave ta W w' e' T (apT T es) := by
  obtain ⟨i5, hi5, hz5, hs5, hb5⟩ := info_parts Ab.info5
  have hm0 : (es.length : Int) ≤ 1048576 := by omega
  generalize hX : apT T es = X
  have HX := hid hX
  clear hX
  go_enter Try.func28, Try.ntmps28
  go_wp2_with fail
  go_loopw [6, 75] (fun u v wr => ∃ (k : Nat) (U : List UInt8) (ua : Option Addr) (uc : Nat), v = .int .i64 (k : Int) ∧ u = .slice ua U.length uc ∧ k ≤ es.length ∧ U.length ≤ uc ∧ Ab.Rd wr (.slice ua U.length uc) U ∧ apT U (es.drop k) = X ∧ U.length + nsum (es.drop k) ≤ 1048576 ∧ Below W.heap.size W wr ∧ Nw W ta ua T U) (fun _ v _ => es.length - (intOf v).toNat)
  case atStart => exact ⟨0, T, ta, tc, rfl, rfl, Nat.zero_le _, hc, hR.out.keep (bAlloc (Below.refl _ _) _), HX.out, hz, bAlloc (Below.refl _ _) _, .inl ⟨rfl, rfl⟩⟩
  case round =>
    obtain ⟨k, U, ua, uc, rfl, rfl, hk, huc, hRU, hap, hzU, hB, hNw⟩ := hrel
    have HNW := hid hNw
    clear hNw
    have HR := hid hRU
    have HA := hid hap
    have HB := hid hB
    have HZ := hid hzU
    clear hRU hap hB hzU
    have hk0 : (0 : Int) ≤ (k : Int) := by omega
    by_cases hlt : k < es.length
    · have hk1 : (k : Int) < (es.length : Int) := by omega
      obtain ⟨⟨at', old, new⟩, hd⟩ : ∃ d, es[k]? = some d := ⟨_, List.getElem?_eq_getElem hlt⟩
      obtain ⟨g, o, a1, c1, a2, c2, rfl, q0, q1, q2, hro, hrn⟩ := (hE.out.keep HB.out).cells k _ hd
      have HO := hid hro
      have HN := hid hrn
      have HS := hid (ap_step (U := U) hd)
      rw [HA.out] at HS
      have HL := hid (ns_step hd)
      have PN : Hid (edB U ⟨at', old, new⟩ = false → ∀ w', Below W.heap.size W w' → PlGave ta W w' (.returned (.tuple #[.slice ta T.length tc, .bool false])) T X) := by
        intro hbad w' hb
        rw [hbad, if_neg (by simp)] at HS
        rw [HS.out]
        exact ⟨ta, tc, rfl, hc, hR.out.keep hb, hb, .inl ⟨rfl, rfl⟩⟩
      dsimp only at *
      clear hro hrn hd
      go_upto_region 15 with fail
      have m0 : (wr.alloc (.cells #[.int .i64 at', .slice a1 old.length c1, .slice a2 new.length c2] 69)).cell? ⟨wr.heap.size, 0, none⟩ = some (.int .i64 at') := by simp
      have m1 : (wr.alloc (.cells #[.int .i64 at', .slice a1 old.length c1, .slice a2 new.length c2] 69)).cell? ⟨wr.heap.size, 1, none⟩ = some (.slice a1 old.length c1) := by simp
      have m2 : (wr.alloc (.cells #[.int .i64 at', .slice a1 old.length c1, .slice a2 new.length c2] 69)).cell? ⟨wr.heap.size, 2, none⟩ = some (.slice a2 new.length c2) := by simp
      have B3 := hid (bAlloc (Below.refl wr.heap.size wr) (.cells #[.int .i64 at', .slice a1 old.length c1, .slice a2 new.length c2] 69))
      generalize hW3 : wr.alloc (.cells #[.int .i64 at', .slice a1 old.length c1, .slice a2 new.length c2] 69) = W3 at *
      clear hW3 q0 q1 q2
      have hU : Hid (U.length ≤ 1048576) := by unfold Hid; have := HZ.out; omega
      have hU0 : (U.length : Int) ≤ 1048576 := by have := hU.out; omega
      by_cases hA : at' < 0
      · have hBad : edB U ⟨at', old, new⟩ = false := by unfold edB; simp; omega
        have g1 : decide (at' < 0) = true := by simpa using hA
        go_quiet (fail)
        have B4 := hid (bT B3.out (Ab.below_drewN W3 nq))
        generalize W3.drewN nq = W4 at *
        go_wp2
        exact bodyPost_ret (v := .tuple #[.slice ta T.length tc, .bool false]) (by simp [results, Try.results28, go_sem]) rfl (PN.out hBad _ (bT HB.out B4.out))
      by_cases hA2 : (U.length : Int) < at'
      · have hBad : edB U ⟨at', old, new⟩ = false := by unfold edB; simp; omega
        have g1 : decide (at' < 0) = false := by simpa using hA
        have g2 : decide ((U.length : Int) < at') = true := by simpa using hA2
        go_quiet (fail)
        have B4 := hid (bT B3.out (Ab.below_drewN W3 nq))
        generalize W3.drewN nq = W4 at *
        go_wp2
        exact bodyPost_ret (v := .tuple #[.slice ta T.length tc, .bool false]) (by simp [results, Try.results28, go_sem]) rfl (PN.out hBad _ (bT HB.out B4.out))
      obtain ⟨p, rfl⟩ := Int.eq_ofNat_of_zero_le (a := at') (by omega)
      have hp0 : (0 : Int) ≤ (p : Int) := by omega
      have hp1 : (p : Int) ≤ (U.length : Int) := by omega
      have hw1 : IntKind.i64.wrap ((U.length : Int) - (p : Int)) = (U.length : Int) - (p : Int) := by rw [IntKind.wrap_i64]; omega
      have g1 : decide ((p : Int) < 0) = false := by simp
      have g2 : decide ((U.length : Int) < (p : Int)) = false := by simpa using hA2
      by_cases hA3 : (U.length : Int) - (p : Int) < (old.length : Int)
      · have hBad : edB U ⟨p, old, new⟩ = false := by unfold edB; simp; omega
        have g3 : decide ((U.length : Int) - (p : Int) < (old.length : Int)) = true := by simpa using hA3
        go_quiet (fail)
        have B4 := hid (bT B3.out (Ab.below_drewN W3 nq))
        generalize W3.drewN nq = W4 at *
        go_wp2
        exact bodyPost_ret (v := .tuple #[.slice ta T.length tc, .bool false]) (by simp [results, Try.results28, go_sem]) rfl (PN.out hBad _ (bT HB.out B4.out))
      have hpo : p + old.length ≤ U.length := by omega
      have hw2 : IntKind.i64.wrap ((p : Int) + (old.length : Int)) = (p : Int) + (old.length : Int) := by rw [IntKind.wrap_i64]; omega
      have g3 : decide ((U.length : Int) - (p : Int) < (old.length : Int)) = false := by simpa using hA3
      have hp2 : (p : Int) + (old.length : Int) ≤ (uc : Int) := by omega
      have hp3 : (p : Int) ≤ (p : Int) + (old.length : Int) := by omega
      have hw3 : ((p : Int) + (old.length : Int)).toNat = p + old.length := by omega
      have hp4 : (0 : Int) ≤ (p : Int) + (old.length : Int) := by omega
      have hp5 : (p : Int) ≤ (uc : Int) := by omega
      have hp6 : (p : Int) + (old.length : Int) ≤ (U.length : Int) := by omega
      have hp7 : (U.length : Int) ≤ (uc : Int) := by omega
      have hS2 : Hid (∀ {W' : World}, Below W3.heap.size W3 W' → W'.cell? ⟨wr.heap.size, 0, none⟩ = some (.int .i64 (p : Int)) ∧ W'.cell? ⟨wr.heap.size, 1, none⟩ = some (.slice a1 old.length c1) ∧ W'.cell? ⟨wr.heap.size, 2, none⟩ = some (.slice a2 new.length c2)) := by
        unfold Hid; intro W' hb; exact ⟨cell_later hb m0, cell_later hb m1, cell_later hb m2⟩
      have sD := hS2.out (Below.refl W3.heap.size W3).drew
      by_cases hux : uc = p
      · have ho : old = [] := List.eq_nil_of_length_eq_zero (by omega)
        subst ho
        subst hux
        have hS0 : Hid (∀ {W' : World}, Below W3.heap.size W3 W' → W'.cell? ⟨wr.heap.size, 0, none⟩ = some (.int .i64 (uc : Int)) ∧ W'.cell? ⟨wr.heap.size, 1, none⟩ = some (.slice a1 0 c1) ∧ W'.cell? ⟨wr.heap.size, 2, none⟩ = some (.slice a2 new.length c2)) := hS2
        have HO0 : Hid (Ab.Rd W3 (.slice a1 0 c1) []) := HO.out.keep B3.out
        have hUl : Hid (U.length = uc) := by unfold Hid; omega
        have P0 : Hid (Ab.Rd W3 (.slice ua 0 0) []) := by
          unfold Hid
          have h := rd_tail00 (x := uc) (HR.out.keep B3.out) (by omega) huc rfl
          rwa [List.drop_eq_nil_of_le (by omega)] at h
        have hwu : IntKind.i64.wrap (uc : Int) = (uc : Int) := by rw [IntKind.wrap_i64]; omega
        have hwv : IntKind.i64.wrap ((uc : Int) + 0) = (uc : Int) := by rw [IntKind.wrap_i64]; omega
        have hsub : decide ((U.length : Int) - (uc : Int) < 0) = false := by simp; omega
        clear hw2 g3 hp2 hp3 hw3 hp4 hp6 hA3 hS2 sD m0 m1 m2 hpo
        have sD := hS0.out (Below.refl W3.heap.size W3).drew
        have HC := hid (fun W' (hb : Below W3.heap.size W3 W') => same_yes _ _ _ W' (P0.out.keep hb) (HO0.out.keep hb))
        go_region_held3 (fun w' => w'.cell? ⟨wr.heap.size, 0, none⟩ = some (.int .i64 (uc : Int)) ∧ w'.cell? ⟨wr.heap.size, 1, none⟩ = some (.slice a1 0 c1) ∧ w'.cell? ⟨wr.heap.size, 2, none⟩ = some (.slice a2 new.length c2)) (with_reducible assumption)
          (first | (go_at_call 32; refine (HC.out _ (Below.refl _ _).drew).mono ?_; rintro e5 W5 ⟨rfl, hb5⟩; have B5 : Hid (Below W3.heap.size W3 W5) := (bT (Below.refl _ _).drew hb5); have s5 := hS0.out B5.out; clear hb5) | fail)
        clear sD
        go_upto_region 17 with fail
        have BW := hid (bT B3.out B5.out)
        have hS5 : Hid (∀ {W' : World}, Below W5.heap.size W5 W' → W'.cell? ⟨wr.heap.size, 0, none⟩ = some (.int .i64 (uc : Int)) ∧ W'.cell? ⟨wr.heap.size, 1, none⟩ = some (.slice a1 0 c1) ∧ W'.cell? ⟨wr.heap.size, 2, none⟩ = some (.slice a2 new.length c2)) := by
          unfold Hid; intro W' hb; exact hS0.out (bT B5.out hb)
        have R1 := hid (rd_head (x := uc) (HR.out.keep BW.out) (by omega))
        have R2 := hid (HN.out.keep BW.out)
        have R3 := hid (rd_tail00 (x := uc) (HR.out.keep BW.out) (by omega) huc rfl)
        have hl1 : Hid ((U.take uc).length = uc) := by unfold Hid; rw [List.length_take]; omega
        have hl2 : Hid (new.length = new.length) := rfl
        have hl3 : Hid ((U.drop uc).length = 0) := by unfold Hid; rw [List.length_drop]; omega
        have BA := hid (bAlloc (Below.refl W5.heap.size W5) (.cells #[] 5)).drew
        have EA : Hid ((W5.alloc (.cells #[] 5)).drew.ownsRow W5.heap.size 5 1 (.slice (some ⟨W5.heap.size, 0, none⟩) 0 0) 0 []) := Ab.own_keep (World.ownsRow_made W5 #[] 0 (Nat.le_refl _) (by decide) rfl) (Below.refl _ _).drew
        have sD := hS5.out (Below.refl W5.heap.size W5).drew
        have sA := hS5.out BA.out
        have hnw : new.length ≤ 1048576 := by have := HL.out; have := HZ.out; omega
        have hU1 : U.length ≤ 1048576 := hU.out
        go_region_held3 (fun w' => w'.cell? ⟨wr.heap.size, 0, none⟩ = some (.int .i64 (uc : Int)) ∧ w'.cell? ⟨wr.heap.size, 1, none⟩ = some (.slice a1 0 c1) ∧ w'.cell? ⟨wr.heap.size, 2, none⟩ = some (.slice a2 new.length c2)) (with_reducible assumption)
          (first
            | (refine step_app (by rfl) (.tmp 117) (.tmp 121) 61 (by rfl) W5.heap.size 5 i5 (.int .u8 0) 1 1 Try.underlying61 hi5 hz5 hs5 hb5 (by rfl) (by decide) (.slice (some ⟨W5.heap.size, 0, none⟩) 0 0) 0 [] (by rfl) EA.out (.slice ua uc uc) (uc) (Ab.bv (U.take uc)) (by rfl) (rd_srv' (R1.out.keep BA.out) hl1.out) (by have := hl1.out; rw [Ab.bv_length]; omega) (Ab.bv_one _) (by unfold maxLen; omega) (by omega) BA.out.size ?_
               intro v15 W15 hO15 hG15 _
               have O15 : Hid (W15.ownsRow W5.heap.size 5 1 v15 uc (Ab.bv (U.take uc))) := (by unfold Hid; simpa using hO15)
               have B15 : Hid (Below W5.heap.size W5 W15) := BA.out.grown hG15 BA.out.size (fun k hk => by simp [Value.ownBlock] at hk; omega)
               obtain ⟨a15, c15, e15⟩ := own_shape O15.out
               subst e15
               have s15 := hS5.out B15.out
               clear hO15 hG15)
            | (refine step_app (by rfl) (.tmp 122) (.tmp 124) 61 (by rfl) W5.heap.size 5 i5 (.int .u8 0) 1 1 Try.underlying61 hi5 hz5 hs5 hb5 (by rfl) (by decide) (.slice a15 uc c15) uc (Ab.bv (U.take uc)) (by rfl) O15.out (.slice a2 new.length c2) (new.length) (Ab.bv (new)) (by rfl) (rd_srv' (R2.out.keep B15.out) hl2.out) (by have := hl2.out; rw [Ab.bv_length]; omega) (Ab.bv_one _) (by unfold maxLen; omega) (by omega) B15.out.size ?_
               intro v16 W16 hO16 hG16 _
               have O16 : Hid (W16.ownsRow W5.heap.size 5 1 v16 (uc + (new.length)) ((Ab.bv (U.take uc)) ++ Ab.bv (new))) := hO16
               have B16 : Hid (Below W5.heap.size W5 W16) := B15.out.grown hG16 B15.out.size (fun k hk => (O15.out.lt k hk).1)
               obtain ⟨a16, c16, e16⟩ := own_shape O16.out
               subst e16
               have s16 := hS5.out B16.out
               clear hO16 hG16)
            | (refine step_app (by rfl) (.tmp 125) (.tmp 133) 61 (by rfl) W5.heap.size 5 i5 (.int .u8 0) 1 1 Try.underlying61 hi5 hz5 hs5 hb5 (by rfl) (by decide) (.slice a16 (uc + (new.length)) c16) (uc + (new.length)) ((Ab.bv (U.take uc)) ++ Ab.bv (new)) (by rfl) O16.out (.slice ua 0 0) (0) (Ab.bv (U.drop uc)) (by rfl) (rd_srv' (R3.out.keep B16.out) hl3.out) (by have := hl3.out; rw [Ab.bv_length]; omega) (Ab.bv_one _) (by unfold maxLen; omega) (by omega) B16.out.size ?_
               intro v17 W17 hO17 hG17 _
               have O17 : Hid (W17.ownsRow W5.heap.size 5 1 v17 ((uc + (new.length)) + (0)) (((Ab.bv (U.take uc)) ++ Ab.bv (new)) ++ Ab.bv (U.drop uc))) := hO17
               have B17 : Hid (Below W5.heap.size W5 W17) := B16.out.grown hG17 B16.out.size (fun k hk => (O16.out.lt k hk).1)
               have s17 := hS5.out B17.out
               clear hO17 hG17)
            | fail)
        have hed : edB U ⟨uc, [], new⟩ = true := by unfold edB; simp; omega
        have HT : Hid (edT U ⟨uc, [], new⟩ = U.take uc ++ (new ++ U.drop uc)) := by unfold Hid edT; simp
        have HLn := hid (edT_len hed)
        rw [hed, if_pos rfl] at HS
        rw [HT.out] at HS HLn
        have OW : Hid (W17.ownsRow W5.heap.size 5 1 v17 (U.take uc ++ (new ++ U.drop uc)).length (Ab.bv (U.take uc ++ (new ++ U.drop uc)))) := own_to O17.out (by have a1 := hl1.out; have a3 := hl3.out; rw [List.length_append, List.length_append]; omega) (by simp [Ab.bv])
        obtain ⟨a18, c18, hcap, e18⟩ := own_shape' OW.out
        subst e18
        generalize hU2 : U.take uc ++ (new ++ U.drop uc) = U2 at *
        go_wp2
        go_roundw
        case rel => exact ⟨k + 1, U2, a18, c18, by go_num, rfl, by omega, hcap, Ab.own_rd OW.out, HS.out.symm, by have e1 := HL.out; have e2 := HZ.out; have e3 := HLn.out; dsimp only at e1 e3; omega, bT HB.out (bT BW.out B17.out), own_nw OW.out (by have z1 := HB.out.size; have z2 := BW.out.size; omega)⟩
        case measure => simp [intOf]; omega
      · have P1 := hid (rd_part (HR.out.keep B3.out) (x := p) (y := p + old.length) (by omega) hpo hux (uc - p))
        rw [Nat.add_sub_cancel_left] at P1
        by_cases hE1 : (U.drop p).take old.length = old
        · by_cases hut : uc = p + old.length
          · subst hut
            rw [Nat.add_sub_cancel_left] at P1
            have hon : ¬ old = [] := by rintro rfl; exact hux rfl
            have HC := hid (fun W' (hb : Below W3.heap.size W3 W') => same_yes _ _ _ W' (hE1 ▸ P1.out.keep hb) ((HO.out.keep B3.out).keep hb))
            clear m0 m1 m2
            go_region_held3 (fun w' => w'.cell? ⟨wr.heap.size, 0, none⟩ = some (.int .i64 (p : Int)) ∧ w'.cell? ⟨wr.heap.size, 1, none⟩ = some (.slice a1 old.length c1) ∧ w'.cell? ⟨wr.heap.size, 2, none⟩ = some (.slice a2 new.length c2)) (with_reducible assumption)
              (first | (go_at_call 32; refine (HC.out _ (Below.refl _ _).drew).mono ?_; rintro e5 W5 ⟨rfl, hb5⟩; have B5 : Hid (Below W3.heap.size W3 W5) := (bT (Below.refl _ _).drew hb5); have s5 := hS2.out B5.out; clear hb5) | fail)
            clear sD
            go_upto_region 17 with fail
            have BW := hid (bT B3.out B5.out)
            have hS5 : Hid (∀ {W' : World}, Below W5.heap.size W5 W' → W'.cell? ⟨wr.heap.size, 0, none⟩ = some (.int .i64 (p : Int)) ∧ W'.cell? ⟨wr.heap.size, 1, none⟩ = some (.slice a1 old.length c1) ∧ W'.cell? ⟨wr.heap.size, 2, none⟩ = some (.slice a2 new.length c2)) := by
              unfold Hid; intro W' hb; exact hS2.out (bT B5.out hb)
            have R1 := hid (rd_head (x := p) (HR.out.keep BW.out) (by omega))
            have R2 := hid (HN.out.keep BW.out)
            have R3 := hid (rd_tail00 (x := p + old.length) (HR.out.keep BW.out) (by omega) huc rfl)
            have hl1 : Hid ((U.take p).length = p) := by unfold Hid; rw [List.length_take]; omega
            have hl2 : Hid (new.length = new.length) := rfl
            have hl3 : Hid ((U.drop (p + old.length)).length = 0) := by unfold Hid; rw [List.length_drop]; omega
            have BA := hid (bAlloc (Below.refl W5.heap.size W5) (.cells #[] 5)).drew
            have EA : Hid ((W5.alloc (.cells #[] 5)).drew.ownsRow W5.heap.size 5 1 (.slice (some ⟨W5.heap.size, 0, none⟩) 0 0) 0 []) := Ab.own_keep (World.ownsRow_made W5 #[] 0 (Nat.le_refl _) (by decide) rfl) (Below.refl _ _).drew
            have sD := hS5.out (Below.refl W5.heap.size W5).drew
            have sA := hS5.out BA.out
            have hnw : new.length ≤ 1048576 := by have := HL.out; have := HZ.out; omega
            have hU1 : U.length ≤ 1048576 := hU.out
            go_region_held3 (fun w' => w'.cell? ⟨wr.heap.size, 0, none⟩ = some (.int .i64 (p : Int)) ∧ w'.cell? ⟨wr.heap.size, 1, none⟩ = some (.slice a1 old.length c1) ∧ w'.cell? ⟨wr.heap.size, 2, none⟩ = some (.slice a2 new.length c2)) (with_reducible assumption)
              (first
                | (refine step_app (by rfl) (.tmp 117) (.tmp 121) 61 (by rfl) W5.heap.size 5 i5 (.int .u8 0) 1 1 Try.underlying61 hi5 hz5 hs5 hb5 (by rfl) (by decide) (.slice (some ⟨W5.heap.size, 0, none⟩) 0 0) 0 [] (by rfl) EA.out (.slice ua p (p + old.length)) (p) (Ab.bv (U.take p)) (by rfl) (rd_srv' (R1.out.keep BA.out) hl1.out) (by have := hl1.out; rw [Ab.bv_length]; omega) (Ab.bv_one _) (by unfold maxLen; omega) (by omega) BA.out.size ?_
                   intro v15 W15 hO15 hG15 _
                   have O15 : Hid (W15.ownsRow W5.heap.size 5 1 v15 p (Ab.bv (U.take p))) := (by unfold Hid; simpa using hO15)
                   have B15 : Hid (Below W5.heap.size W5 W15) := BA.out.grown hG15 BA.out.size (fun k hk => by simp [Value.ownBlock] at hk; omega)
                   obtain ⟨a15, c15, e15⟩ := own_shape O15.out
                   subst e15
                   have s15 := hS5.out B15.out
                   clear hO15 hG15)
                | (refine step_app (by rfl) (.tmp 122) (.tmp 124) 61 (by rfl) W5.heap.size 5 i5 (.int .u8 0) 1 1 Try.underlying61 hi5 hz5 hs5 hb5 (by rfl) (by decide) (.slice a15 p c15) p (Ab.bv (U.take p)) (by rfl) O15.out (.slice a2 new.length c2) (new.length) (Ab.bv (new)) (by rfl) (rd_srv' (R2.out.keep B15.out) hl2.out) (by have := hl2.out; rw [Ab.bv_length]; omega) (Ab.bv_one _) (by unfold maxLen; omega) (by omega) B15.out.size ?_
                   intro v16 W16 hO16 hG16 _
                   have O16 : Hid (W16.ownsRow W5.heap.size 5 1 v16 (p + (new.length)) ((Ab.bv (U.take p)) ++ Ab.bv (new))) := hO16
                   have B16 : Hid (Below W5.heap.size W5 W16) := B15.out.grown hG16 B15.out.size (fun k hk => (O15.out.lt k hk).1)
                   obtain ⟨a16, c16, e16⟩ := own_shape O16.out
                   subst e16
                   have s16 := hS5.out B16.out
                   clear hO16 hG16)
                | (refine step_app (by rfl) (.tmp 125) (.tmp 133) 61 (by rfl) W5.heap.size 5 i5 (.int .u8 0) 1 1 Try.underlying61 hi5 hz5 hs5 hb5 (by rfl) (by decide) (.slice a16 (p + (new.length)) c16) (p + (new.length)) ((Ab.bv (U.take p)) ++ Ab.bv (new)) (by rfl) O16.out (.slice ua 0 0) (0) (Ab.bv (U.drop (p + old.length))) (by rfl) (rd_srv' (R3.out.keep B16.out) hl3.out) (by have := hl3.out; rw [Ab.bv_length]; omega) (Ab.bv_one _) (by unfold maxLen; omega) (by omega) B16.out.size ?_
                   intro v17 W17 hO17 hG17 _
                   have O17 : Hid (W17.ownsRow W5.heap.size 5 1 v17 ((p + (new.length)) + (0)) (((Ab.bv (U.take p)) ++ Ab.bv (new)) ++ Ab.bv (U.drop (p + old.length)))) := hO17
                   have B17 : Hid (Below W5.heap.size W5 W17) := B16.out.grown hG17 B16.out.size (fun k hk => (O16.out.lt k hk).1)
                   have s17 := hS5.out B17.out
                   clear hO17 hG17)
                | fail)
            have hed : edB U ⟨p, old, new⟩ = true := by unfold edB; simp only [decide_eq_true_eq]; exact ⟨hp0, hp6, by simpa using hE1⟩
            have HT : Hid (edT U ⟨p, old, new⟩ = U.take p ++ (new ++ U.drop (p + old.length))) := by unfold Hid edT; simp
            have HLn := hid (edT_len hed)
            rw [hed, if_pos rfl] at HS
            rw [HT.out] at HS HLn
            have OW : Hid (W17.ownsRow W5.heap.size 5 1 v17 (U.take p ++ (new ++ U.drop (p + old.length))).length (Ab.bv (U.take p ++ (new ++ U.drop (p + old.length))))) := own_to O17.out (by have a1 := hl1.out; have a3 := hl3.out; rw [List.length_append, List.length_append]; omega) (by simp [Ab.bv])
            obtain ⟨a18, c18, hcap, e18⟩ := own_shape' OW.out
            subst e18
            generalize hU2 : U.take p ++ (new ++ U.drop (p + old.length)) = U2 at *
            go_wp2
            go_roundw
            case rel => exact ⟨k + 1, U2, a18, c18, by go_num, rfl, by omega, hcap, Ab.own_rd OW.out, HS.out.symm, by have e1 := HL.out; have e2 := HZ.out; have e3 := HLn.out; dsimp only at e1 e3; omega, bT HB.out (bT BW.out B17.out), own_nw OW.out (by have z1 := HB.out.size; have z2 := BW.out.size; omega)⟩
            case measure => simp [intOf]; omega
          · have HC := hid (fun W' (hb : Below W3.heap.size W3 W') => same_yes _ _ _ W' (hE1 ▸ P1.out.keep hb) ((HO.out.keep B3.out).keep hb))
            clear m0 m1 m2
            go_region_held3 (fun w' => w'.cell? ⟨wr.heap.size, 0, none⟩ = some (.int .i64 (p : Int)) ∧ w'.cell? ⟨wr.heap.size, 1, none⟩ = some (.slice a1 old.length c1) ∧ w'.cell? ⟨wr.heap.size, 2, none⟩ = some (.slice a2 new.length c2)) (with_reducible assumption)
              (first | (go_at_call 32; refine (HC.out _ (Below.refl _ _).drew).mono ?_; rintro e5 W5 ⟨rfl, hb5⟩; have B5 : Hid (Below W3.heap.size W3 W5) := (bT (Below.refl _ _).drew hb5); have s5 := hS2.out B5.out; clear hb5) | fail)
            clear sD
            go_upto_region 17 with fail
            have BW := hid (bT B3.out B5.out)
            have hS5 : Hid (∀ {W' : World}, Below W5.heap.size W5 W' → W'.cell? ⟨wr.heap.size, 0, none⟩ = some (.int .i64 (p : Int)) ∧ W'.cell? ⟨wr.heap.size, 1, none⟩ = some (.slice a1 old.length c1) ∧ W'.cell? ⟨wr.heap.size, 2, none⟩ = some (.slice a2 new.length c2)) := by
              unfold Hid; intro W' hb; exact hS2.out (bT B5.out hb)
            have R1 := hid (rd_head (x := p) (HR.out.keep BW.out) (by omega))
            have R2 := hid (HN.out.keep BW.out)
            have R3 := hid (rd_tail (x := p + old.length) (HR.out.keep BW.out) (by omega) hut (uc - (p + old.length)))
            have hl1 : Hid ((U.take p).length = p) := by unfold Hid; rw [List.length_take]; omega
            have hl2 : Hid (new.length = new.length) := rfl
            have hl3 : Hid ((U.drop (p + old.length)).length = U.length - (p + old.length)) := by unfold Hid; rw [List.length_drop]
            have BA := hid (bAlloc (Below.refl W5.heap.size W5) (.cells #[] 5)).drew
            have EA : Hid ((W5.alloc (.cells #[] 5)).drew.ownsRow W5.heap.size 5 1 (.slice (some ⟨W5.heap.size, 0, none⟩) 0 0) 0 []) := Ab.own_keep (World.ownsRow_made W5 #[] 0 (Nat.le_refl _) (by decide) rfl) (Below.refl _ _).drew
            have sD := hS5.out (Below.refl W5.heap.size W5).drew
            have sA := hS5.out BA.out
            have hnw : new.length ≤ 1048576 := by have := HL.out; have := HZ.out; omega
            have hU1 : U.length ≤ 1048576 := hU.out
            go_region_held3 (fun w' => w'.cell? ⟨wr.heap.size, 0, none⟩ = some (.int .i64 (p : Int)) ∧ w'.cell? ⟨wr.heap.size, 1, none⟩ = some (.slice a1 old.length c1) ∧ w'.cell? ⟨wr.heap.size, 2, none⟩ = some (.slice a2 new.length c2)) (with_reducible assumption)
              (first
                | (refine step_app (by rfl) (.tmp 117) (.tmp 121) 61 (by rfl) W5.heap.size 5 i5 (.int .u8 0) 1 1 Try.underlying61 hi5 hz5 hs5 hb5 (by rfl) (by decide) (.slice (some ⟨W5.heap.size, 0, none⟩) 0 0) 0 [] (by rfl) EA.out (.slice ua p uc) (p) (Ab.bv (U.take p)) (by rfl) (rd_srv' (R1.out.keep BA.out) hl1.out) (by have := hl1.out; rw [Ab.bv_length]; omega) (Ab.bv_one _) (by unfold maxLen; omega) (by omega) BA.out.size ?_
                   intro v15 W15 hO15 hG15 _
                   have O15 : Hid (W15.ownsRow W5.heap.size 5 1 v15 p (Ab.bv (U.take p))) := (by unfold Hid; simpa using hO15)
                   have B15 : Hid (Below W5.heap.size W5 W15) := BA.out.grown hG15 BA.out.size (fun k hk => by simp [Value.ownBlock] at hk; omega)
                   obtain ⟨a15, c15, e15⟩ := own_shape O15.out
                   subst e15
                   have s15 := hS5.out B15.out
                   clear hO15 hG15)
                | (refine step_app (by rfl) (.tmp 122) (.tmp 124) 61 (by rfl) W5.heap.size 5 i5 (.int .u8 0) 1 1 Try.underlying61 hi5 hz5 hs5 hb5 (by rfl) (by decide) (.slice a15 p c15) p (Ab.bv (U.take p)) (by rfl) O15.out (.slice a2 new.length c2) (new.length) (Ab.bv (new)) (by rfl) (rd_srv' (R2.out.keep B15.out) hl2.out) (by have := hl2.out; rw [Ab.bv_length]; omega) (Ab.bv_one _) (by unfold maxLen; omega) (by omega) B15.out.size ?_
                   intro v16 W16 hO16 hG16 _
                   have O16 : Hid (W16.ownsRow W5.heap.size 5 1 v16 (p + (new.length)) ((Ab.bv (U.take p)) ++ Ab.bv (new))) := hO16
                   have B16 : Hid (Below W5.heap.size W5 W16) := B15.out.grown hG16 B15.out.size (fun k hk => (O15.out.lt k hk).1)
                   obtain ⟨a16, c16, e16⟩ := own_shape O16.out
                   subst e16
                   have s16 := hS5.out B16.out
                   clear hO16 hG16)
                | (refine step_app (by rfl) (.tmp 125) (.tmp 133) 61 (by rfl) W5.heap.size 5 i5 (.int .u8 0) 1 1 Try.underlying61 hi5 hz5 hs5 hb5 (by rfl) (by decide) (.slice a16 (p + (new.length)) c16) (p + (new.length)) ((Ab.bv (U.take p)) ++ Ab.bv (new)) (by rfl) O16.out (.slice (Option.map (fun a => a.add (p + old.length)) ua) (U.length - (p + old.length)) (uc - (p + old.length))) (U.length - (p + old.length)) (Ab.bv (U.drop (p + old.length))) (by rfl) (rd_srv' (R3.out.keep B16.out) hl3.out) (by have := hl3.out; rw [Ab.bv_length]; omega) (Ab.bv_one _) (by unfold maxLen; omega) (by omega) B16.out.size ?_
                   intro v17 W17 hO17 hG17 _
                   have O17 : Hid (W17.ownsRow W5.heap.size 5 1 v17 ((p + (new.length)) + (U.length - (p + old.length))) (((Ab.bv (U.take p)) ++ Ab.bv (new)) ++ Ab.bv (U.drop (p + old.length)))) := hO17
                   have B17 : Hid (Below W5.heap.size W5 W17) := B16.out.grown hG17 B16.out.size (fun k hk => (O16.out.lt k hk).1)
                   have s17 := hS5.out B17.out
                   clear hO17 hG17)
                | fail)
            have hed : edB U ⟨p, old, new⟩ = true := by unfold edB; simp only [decide_eq_true_eq]; exact ⟨hp0, hp6, by simpa using hE1⟩
            have HT : Hid (edT U ⟨p, old, new⟩ = U.take p ++ (new ++ U.drop (p + old.length))) := by unfold Hid edT; simp
            have HLn := hid (edT_len hed)
            rw [hed, if_pos rfl] at HS
            rw [HT.out] at HS HLn
            have OW : Hid (W17.ownsRow W5.heap.size 5 1 v17 (U.take p ++ (new ++ U.drop (p + old.length))).length (Ab.bv (U.take p ++ (new ++ U.drop (p + old.length))))) := own_to O17.out (by have a1 := hl1.out; have a3 := hl3.out; rw [List.length_append, List.length_append]; omega) (by simp [Ab.bv])
            obtain ⟨a18, c18, hcap, e18⟩ := own_shape' OW.out
            subst e18
            generalize hU2 : U.take p ++ (new ++ U.drop (p + old.length)) = U2 at *
            go_wp2
            go_roundw
            case rel => exact ⟨k + 1, U2, a18, c18, by go_num, rfl, by omega, hcap, Ab.own_rd OW.out, HS.out.symm, by have e1 := HL.out; have e2 := HZ.out; have e3 := HLn.out; dsimp only at e1 e3; omega, bT HB.out (bT BW.out B17.out), own_nw OW.out (by have z1 := HB.out.size; have z2 := BW.out.size; omega)⟩
            case measure => simp [intOf]; omega
        · have hBad : edB U ⟨p, old, new⟩ = false := by unfold edB; simp; intro _; simpa using hE1
          have HC := hid (fun W' (hb : Below W3.heap.size W3 W') => same_no _ _ _ _ W' (P1.out.keep hb) ((HO.out.keep B3.out).keep hb) (by simpa using hE1))
          clear m0 m1 m2
          go_region_held3 (fun w' => w'.cell? ⟨wr.heap.size, 0, none⟩ = some (.int .i64 (p : Int)) ∧ w'.cell? ⟨wr.heap.size, 1, none⟩ = some (.slice a1 old.length c1) ∧ w'.cell? ⟨wr.heap.size, 2, none⟩ = some (.slice a2 new.length c2)) (with_reducible assumption)
            (first | (go_at_call 32; refine (HC.out _ (Below.refl _ _).drew).mono ?_; rintro e5 W5 ⟨rfl, hb5⟩; have B5 : Hid (Below W3.heap.size W3 W5) := (bT (Below.refl _ _).drew hb5); have s5 := hS2.out B5.out; clear hb5) | fail)
          go_wp2
          exact bodyPost_ret (v := .tuple #[.slice ta T.length tc, .bool false]) (by simp [results, Try.results28, go_sem]) rfl (PN.out hBad _ (bT HB.out (bT B3.out B5.out)))
    · have hk1 : ¬ ((k : Int) < (es.length : Int)) := by omega
      obtain rfl : k = es.length := by omega
      have HF : Hid (X = some U) := by unfold Hid; rw [← HA.out, List.drop_length]; rfl
      go_wp2
      exact bodyPost_ret (v := .tuple #[.slice ua U.length uc, .bool true]) (by simp [results, Try.results28, go_sem]) rfl (by rw [HF.out]; exact ⟨ua, uc, rfl, huc, HR.out, HB.out, HNW.out⟩)
end Go.Proofs.Ytpifjghhlcjedaa

