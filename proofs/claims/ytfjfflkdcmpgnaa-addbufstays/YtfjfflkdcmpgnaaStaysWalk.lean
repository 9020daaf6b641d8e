/- The walk of quoinlaw01.AddbufStays: it answers true for every text and every list of texts. -/
import Derived.Test.YtfjfflkdcmpgnaaStaysKit
import Derived.Deep.CutRange
namespace Go.Proofs.Ytfjfflkdcmpgnaa
open Go.RowKit

set_option maxRecDepth 100000 in
set_option maxHeartbeats 2000000 in
theorem stays_walk (a0 : Option Addr) (c0 : Nat) (O : List UInt8) (ao : Option Addr) (c1 : Nat) (tv : List Value) (T : List (List UInt8)) (w : World)
    (hO : Hid (Rd w (.slice a0 O.length c0) O)) (hT : Hid (TxAt w ao c1 tv T)) (bO : O.length ≤ 140737488351232) (bT : T.length ≤ 140737488351232) (bE : Hid (∀ i, i < T.length → (txt T i).length ≤ 140737488351232)) :
    Calls Try.prog 6 #[.slice a0 O.length c0, .slice ao T.length c1] w fun e w' => e = .returned (.bool true) ∧ Below w.heap.size w w' := by
  go_enter Try.func6, Try.ntmps6
  go_wp2_with fail
  refine (awake_any _).mono ?_
  rintro e w1 ⟨rfl, L1⟩
  have HL1 : Hid (Below w.heap.size w w1) := L1
  clear L1
  go_wp2_with fail
  go_loop [5, 29] (fun n i => ∃ j : Nat, j ≤ T.length ∧ i = .int .i64 j ∧ n = .int .i64 (tot O T j) ∧ (j = 0 ∨ tot O T j ≤ 1048576)) (fun _ i => T.length - (intOf i).toNat)
  case atStart => exact ⟨0, Nat.zero_le _, rfl, by rw [tot_zero], .inl rfl⟩
  case round =>
    obtain ⟨j, hj, rfl, rfl, htot⟩ := hrel
    have hlo : (tot O T j : Int) ≤ 140737488351232 := by
      rcases htot with h | h
      · subst h; rw [tot_zero]; omega
      · omega
    have HTot : Hid (j = 0 ∨ tot O T j ≤ 1048576) := htot
    clear htot
    by_cases hlt : j < T.length
    · obtain ⟨g, off, ai, ci, hao, hcell, -, -⟩ := (hT.out.keep HL1.out).at hlt
      subst hao
      have hb := bE.out j hlt
      have HS : Hid (tot O T (j + 1) = tot O T j + ((txt T j).length + 1)) := tot_succ O T j hlt
      by_cases hbig : (tot O T j + ((txt T j).length + 1) : Int) > 1048576
      · go_wp2
        go_ret
        exact ⟨rfl, HL1.out⟩
      · go_wp2
        go_round
        case rel => exact ⟨j + 1, by omega, by go_num, by rw [HS.out]; go_num, .inr (by rw [HS.out]; omega)⟩
        case measure => simp [intOf]; omega
    · obtain rfl : j = T.length := by omega
      go_wp2_with fail
      refine (new_any _ O _ (by omega) (hO.out.keep HL1.out)).mono ?_
      rintro e w2 ⟨b, vo, rfl, hB, hb⟩
      have B2 : Hid (BufAt w2 w.heap.size b vo (.slice none 0 0) O []) := hB.lower HL1.out.size
      have HL2 : Hid (Below w.heap.size w w2) := HL1.out.trans (hb.mono HL1.out.size)
      have bT2 : T.length ≤ 1048576 := by
        rcases HTot.out with h | h
        · omega
        · unfold tot at h; omega
      have bF : (flat T T.length).length ≤ 1048576 := by
        rcases HTot.out with h | h
        · rw [h, flat_zero]; simp
        · unfold tot at h; omega
      clear hb hB HL1 HTot
      obtain ⟨i0, hi, hz0, hz1, hz2⟩ := info_parts info22
      have HQ : Hid (((w2.alloc (.cells #[.int .i64 0, .int .i64 0, .int .i64 (O.length : Int)] 33)).alloc (.cells #[.slice a0 O.length c0] 22)).ownsRow w.heap.size 22 1 (.slice (some ⟨w2.heap.size + 1, 0, none⟩) 1 1) 1 [.slice a0 O.length c0]) := by
        have h := World.ownsRow_lit (base := w.heap.size) (e := 22) (size := 1) (w2.alloc (.cells #[.int .i64 0, .int .i64 0, .int .i64 (O.length : Int)] 33)) #[.slice a0 O.length c0] 1 (by have := HL2.out.size; simp; omega) (by unfold maxLen; omega) rfl
        rw [show (w2.alloc (.cells #[.int .i64 0, .int .i64 0, .int .i64 (O.length : Int)] 33)).heap.size = w2.heap.size + 1 from by simp] at h
        exact h
      go_wp2_with (at_builtin; refine append_src rfl (.tmp 50) (.tmp 51) 31 rfl w.heap.size 22 i0 (.slice none 0 0) 1 24 Try.underlying31 hi hz0 hz1 hz2 rfl (by decide) (.slice (some ⟨w2.heap.size + 1, 0, none⟩) 1 1) 1 [.slice a0 O.length c0] rfl HQ.out ao T.length c1 tv rfl ?qc1 ?qc2 ?qc3 ?qc4 ?qc5 ?qc6 ?_)
      case qc1 => have := hT.out.len; omega
      case qc2 =>
        rcases (hT.out.keep (bAlloc (bAlloc HL2.out _) _)).here with ⟨h1, h2, h3⟩ | h
        · exact .inl ⟨h1, by rw [h2]; rfl, h3⟩
        · exact .inr h
      case qc3 =>
        intro u hu
        obtain ⟨i, hi, rfl⟩ := List.mem_iff_getElem.1 hu
        obtain ⟨ai, ci, h1, _⟩ := hT.out.each i (by rw [← hT.out.len]; exact hi)
        rw [List.getElem?_eq_getElem hi] at h1
        rw [Option.some.inj h1]; rfl
      case qc4 => unfold maxLen; omega
      case qc5 => omega
      case qc6 => have := HL2.out.size; simp; omega
      intro vl w3 hall hgrow
      have hz2' := HL2.out.size
      have HL3 : Hid (Below w.heap.size w w3) := (bAlloc (bAlloc HL2.out _) _).grown hgrow (by simp; omega) (by intro k hk; simp [Value.ownBlock] at hk; omega)
      have SP3 : Hid (w3.ownsRow w.heap.size 33 3 (.slice (some ⟨w2.heap.size, 0, none⟩) 1 1) 1 (spCells O T 1)) := by
        have h1 := World.ownsRow_lit (base := w.heap.size) (e := 33) (size := 3) w2 #[.int .i64 0, .int .i64 0, .int .i64 (O.length : Int)] 1 hz2' (by unfold maxLen; omega) rfl
        have h2 := (h1.alloc (.cells #[.slice a0 O.length c0] 22)).kept hgrow (.inr (by simp [Value.ownBlock]))
        unfold Hid
        rw [spCells_one]
        simpa using h2
      have B3 : Hid (BufAt w3 w.heap.size b vo (.slice none 0 0) O (flat T 0)) := by
        have hlt := B2.out.lt
        refine ((B2.out.alloc _).alloc _).grown hgrow (by simp [Value.ownBlock]; omega) ?_ (.inl rfl)
        rcases hv : vo.ownBlock with _ | g
        · exact .inl rfl
        · have := (B2.out.orig.lt g hv).2
          exact .inr (by simp [Value.ownBlock]; omega)
      obtain ⟨al, cl, rfl⟩ := own_shape hall
      have AL3 : Hid (w3.ownsRow w.heap.size 22 1 (.slice al (1 + T.length) cl) (1 + T.length) (.slice a0 O.length c0 :: tv)) := hall
      clear hall hgrow HQ HL2 B2 hz2' hi hz0 hz1 hz2
      go_wp2_with fail
      go_loopw [9, 55] (fun vs i wr => ∃ (j : Nat) (va : Value), j ≤ T.length ∧ i = .int .i64 j ∧ wr.ownsRow w.heap.size 33 3 vs (j + 1) (spCells O T (j + 1)) ∧ BufAt wr w.heap.size b vo va O (flat T j) ∧ wr.ownsRow w.heap.size 22 1 (.slice al (1 + T.length) cl) (1 + T.length) (.slice a0 O.length c0 :: tv) ∧ Below w.heap.size w wr) (fun _ i _ => T.length - (intOf i).toNat)
      case atStart => exact ⟨0, _, Nat.zero_le _, rfl, SP3.out, B3.out, AL3.out, HL3.out⟩
      case round =>
        obtain ⟨j, va, hj, rfl, hS, hB, hA, hL⟩ := hrel
        have HS : Hid (wr.ownsRow w.heap.size 33 3 u9 (j + 1) (spCells O T (j + 1))) := hS
        have HB : Hid (BufAt wr w.heap.size b vo va O (flat T j)) := hB
        have HA : Hid (wr.ownsRow w.heap.size 22 1 (.slice al (1 + T.length) cl) (1 + T.length) (.slice a0 O.length c0 :: tv)) := hA
        have HL : Hid (Below w.heap.size w wr) := hL
        clear hS hB hA hL SP3 B3 AL3 HL3
        by_cases hlt : j < T.length
        · obtain ⟨g, off, ai, ci, hao, hcell, hrd, -⟩ := (hT.out.keep HL.out).at hlt
          subst hao
          have HR : Hid (Rd wr (.slice ai (txt T j).length ci) (txt T j)) := hrd
          have hfl := flat_le T j hlt
          clear hrd
          go_wp2_with fail
          refine (add_any _ b vo va O (flat T j) w.heap.size (txt T j) _ HB.out (by omega) HR.out).mono ?_
          rintro e w4 ⟨va', rfl, hB4, ht, -⟩
          have HB4 : Hid (BufAt w4 w.heap.size b vo va' O (flat T j ++ txt T j)) := hB4
          have HT4 : Hid (Touch wr w4 b va.ownBlock) := ht
          have HS4 : Hid (w4.ownsRow w.heap.size 33 3 u9 (j + 1) (spCells O T (j + 1))) := own_touch HS.out HB.out ht (by decide) (by decide)
          clear hB4 ht hcell HR
          obtain ⟨i1, hi, hz0, hz1, hz2⟩ := info_parts info33
          go_wp2_with (at_builtin; refine wpList_append_own _ rfl (.tmp 59) (.tmp 63) 50 rfl w.heap.size 33 i1 (.agg #[.int .i64 0, .int .i64 0, .int .i64 0]) 3 24 Try.underlying50 hi hz0 hz1 hz2 rfl (by decide) u9 (j + 1) (spCells O T (j + 1)) rfl (HS4.out.alloc _) ⟨w4.heap.size, 0, none⟩ 1 1 [.int .i64 1, .int .i64 ((flat T j).length : Int), .int .i64 ((txt T j).length : Int)] rfl rfl ?qd2 ?qd3 ?qd4 ?qd5 ?qd6 ?_)
          case qd2 => exact fun k u hk => lit_cells w4 _ 33 k u hk
          case qd3 => intro u hu; simp at hu; rcases hu with rfl | rfl | rfl <;> rfl
          case qd4 => unfold maxLen; omega
          case qd5 => omega
          case qd6 => have h1 := HT4.out.size; have h2 := HL.out.size; simp; omega
          intro vs' w5 hown hgrow _
          have R : Hid (w5.ownsRow w.heap.size 33 3 vs' (j + 1 + 1) (spCells O T (j + 1 + 1)) ∧ BufAt w5 w.heap.size b vo va' O (flat T (j + 1)) ∧ w5.ownsRow w.heap.size 22 1 (.slice al (1 + T.length) cl) (1 + T.length) (.slice a0 O.length c0 :: tv) ∧ Below w.heap.size w w5) := stays_round hlt HS.out HB.out HA.out HL.out HB4.out HT4.out hgrow hown
          clear hown hgrow HS HB HA HL HB4 HT4 HS4 hi hz0 hz1 hz2 hfl
          go_wp2
          go_roundw
          case rel => exact ⟨j + 1, va', by omega, by go_num, R.out⟩
          case measure => simp [intOf]; omega
        · obtain rfl : j = T.length := by omega
          obtain ⟨gs, sc, rfl, -, -⟩ := own_some HS.out (by omega)
          obtain ⟨gl, cl', hal, -, -⟩ := own_some HA.out (by omega)
          have hal2 : al = some ⟨gl, 0, none⟩ := by simp at hal; exact hal.1
          subst hal2
          clear hal
          have HT0 : Hid (TxAt wr ao c1 tv T) := hT.out.keep HL.out
          have HO0 : Hid (Rd wr (.slice a0 O.length c0) O) := hO.out.keep HL.out
          obtain ⟨w0, hw0⟩ : ∃ w0 : World, w0 = wr := ⟨_, rfl⟩
          subst hw0
          clear hT hO
          go_wp2_with fail
          go_loopw [68] (fun i wr => ∃ j : Nat, j ≤ T.length + 1 ∧ i = .int .i64 j ∧ Below w0.heap.size w0 wr) (fun i _ => T.length + 1 - (intOf i).toNat)
          case atStart => exact ⟨0, Nat.zero_le _, rfl, Below.refl _ _⟩
          case round =>
            obtain ⟨j, hj, rfl, hb⟩ := hrel
            have K : Hid (Below w0.heap.size w0 wr) := hb
            clear hb
            by_cases hlt : j < T.length + 1
            · have hgs : ∀ k, k < T.length + 1 → wr.cell? ⟨gs, k * 3, none⟩ = some (.int .i64 (spS k)) ∧ wr.cell? ⟨gs, k * 3 + 1, none⟩ = some (.int .i64 (spO T k : Int)) ∧ wr.cell? ⟨gs, k * 3 + 2, none⟩ = some (.int .i64 (spL O T k : Int)) := by
                intro k hk
                have h1 := own_keep HS.out K.out
                rw [h1.cellAt (k * 3) (by omega), h1.cellAt (k * 3 + 1) (by omega), h1.cellAt (k * 3 + 2) (by omega)]
                exact spCells_at O T (T.length + 1) k hk
              obtain ⟨p0, p1, p2⟩ := hgs j hlt
              clear hgs
              have Hs : Hid (sndB (spS j) (spO T j) (spL O T j) = true) := sp_sound O T j hlt (by omega) (by omega)
              have Hh : Hid (spO T j + spL O T j ≤ (which (spS j) O (flat T T.length)).length) := sp_le O T j hlt
              have Hc : Hid (cutL (spS j) (spO T j) (spL O T j) O (flat T T.length) = allT O T j) := sp_cut O T j hlt
              have hbl := spL_le O T j hlt bO bF
              have hbo : (spO T j : Int) + (spL O T j : Int) ≤ 4611686018427387904 := (snd_bd Hs.out).2.2
              go_wp2_with fail
              refine (read_yes (some ⟨b, 0, none⟩) (spS j) (spO T j) (spL O T j) O (flat T T.length) w.heap.size _ Hs.out Hh.out (by omega) (.inr ⟨b, vo, va, rfl, (HB.out.keep K.out).alloc _⟩)).mono ?_
              rintro e w6 ⟨ap, cp, rfl, hown, hb⟩
              have S6 := (SpanAt.new wr (spS j) (spO T j) (spL O T j)).keep hb
              have K6 : Hid (Below w0.heap.size w0 w6) := K.out.trans (((bAlloc (Below.refl _ _) _).trans (hb.mono (by simp))).mono K.out.size)
              have P6 : Hid (w6.ownsRow (wr.heap.size + 1) 5 1 (.slice ap (spL O T j) cp) (spL O T j) (bv (allT O T j))) := by
                unfold Hid
                rw [← Hc.out]
                simpa using hown
              clear hown hb p0 p1 p2
              obtain ⟨sz, s0, s1, s2, -⟩ := id S6
              obtain ⟨aj, cj, hj1, hj2⟩ := all_at (HO0.out.keep K6.out) (HT0.out.keep K6.out) hlt
              have cA : w6.cell? ⟨gl, j, none⟩ = some (.slice aj (spL O T j) cj) := by
                rw [(own_keep HA.out K6.out).cellAt j (by omega)]; exact hj1
              have RJ : Hid (Rd w6 (.slice aj (spL O T j) cj) (allT O T j)) := hj2
              clear hj1 hj2
              have hjl : (j : Int) < 1 + (T.length : Int) := by omega
              have hj0 : (0 : Int) ≤ (j : Int) := by omega
              go_wp2_with fail
              refine (same_yes _ _ (allT O T j) _ (own_rd P6.out) RJ.out).mono ?_
              rintro e w6' ⟨rfl, rfl⟩
              go_wp2_with fail
              refine (holds_any (some ⟨b, 0, none⟩) (spS j) (spO T j) (spL O T j) O (flat T T.length) w.heap.size _ (by omega) (by omega) (.inr ⟨b, vo, va, rfl, HB.out.keep K6.out⟩)).mono ?_
              rw [hd_true Hs.out Hh.out]
              rintro e w7 ⟨rfl, hb⟩
              have S7 := S6.keep hb
              have K7 : Hid (Below w0.heap.size w0 w7) := K6.out.trans (hb.mono K6.out.size)
              have P7 : Hid (w7.ownsRow (wr.heap.size + 1) 5 1 (.slice ap (spL O T j) cp) (spL O T j) (bv (allT O T j))) := own_keep P6.out hb
              clear hb S6 K6 P6 sz s0 s1 s2 cA RJ
              obtain ⟨sz, s0, s1, s2, -⟩ := id S7
              go_wp2_with fail
              refine (lined_any (some ⟨b, 0, none⟩) (spS j) (spO T j) (spL O T j) O (flat T T.length) w.heap.size ap cp _ Hs.out Hh.out (.inr ⟨b, vo, va, rfl, HB.out.keep K7.out⟩) (by rw [Hc.out]; exact own_rdB P7.out)).mono ?_
              rintro e w8 ⟨rfl, hb⟩
              have S8 := S7.keep hb
              have K8 : Hid (Below w0.heap.size w0 w8) := K7.out.trans (hb.mono K7.out.size)
              have P8 : Hid (w8.ownsRow (wr.heap.size + 1) 5 1 (.slice ap (spL O T j) cp) (spL O T j) (bv (allT O T j))) := own_keep P7.out hb
              clear hb S7 K7 P7 sz s0 s1 s2
              by_cases h2 : j < 2
              · have h2' : (j : Int) < 2 := by omega
                go_wp2
                go_roundw
                case rel => exact ⟨j + 1, by omega, by go_num, K8.out⟩
                case measure => simp [intOf]; omega
              · obtain ⟨k, rfl⟩ : ∃ k, j = k + 2 := ⟨j - 2, by omega⟩
                have h2' : (2 : Int) ≤ ((k + 2 : Nat) : Int) := by omega
                obtain ⟨sz, s0, s1, s2, -⟩ := id S8
                have Hs1 : Hid (jnB (spS (k + 1)) (spO T (k + 1)) (spL O T (k + 1)) (spS (k + 2)) (spO T (k + 2)) (spL O T (k + 2)) = true) := sp_joins O T k hlt (by omega) (by omega)
                obtain ⟨q0, q1, q2⟩ : w8.cell? ⟨gs, (k + 1) * 3, none⟩ = some (.int .i64 (spS (k + 1))) ∧ w8.cell? ⟨gs, (k + 1) * 3 + 1, none⟩ = some (.int .i64 (spO T (k + 1) : Int)) ∧ w8.cell? ⟨gs, (k + 1) * 3 + 2, none⟩ = some (.int .i64 (spL O T (k + 1) : Int)) := by
                  have h1 := own_keep HS.out K8.out
                  rw [h1.cellAt ((k + 1) * 3) (by omega), h1.cellAt ((k + 1) * 3 + 1) (by omega), h1.cellAt ((k + 1) * 3 + 2) (by omega)]
                  exact spCells_at O T (T.length + 1) (k + 1) (by omega)
                go_wp2
                go_cut [17, 18, 68] from 68 to 141 (fun x17 x18 x68 wx => ∃ g17, x17 = .pointer (some ⟨g17, 0, none⟩) ∧ x18 = .bool true ∧ x68 = .int .i64 ((k + 2 : Nat) : Int) ∧ SpanAt wx g17 (spS (k + 1)) (spO T (k + 1)) ((spL O T (k + 1) : Int) + (spL O T (k + 2) : Int)) ∧ Below w8.heap.size w8 wx)
                case first =>
                  have hw : IntKind.i64.wrap ((k : Int) + 2 - 1) = (k : Int) + 1 := by rw [IntKind.wrap_i64]; omega
                  have hb1 : (0 : Int) ≤ (k : Int) + 1 := by omega
                  have hb2 : (k : Int) + 1 < (T.length : Int) + 1 := by omega
                  have hb3 : k < T.length := by omega
                  have hb4 : ((k : Int) + 1).toNat = k + 1 := by omega
                  have hgs : gs < w8.heap.size := lt_of_cell q0
                  have hn1 : ¬ w8.heap.size = gs := by omega
                  have hn2 : ¬ w8.heap.size = wr.heap.size := by omega
                  go_region_held3 (fun w' => w'.cell? ⟨gs, (k + 1) * 3, none⟩ = some (.int .i64 (spS (k + 1))) ∧ w'.cell? ⟨gs, (k + 1) * 3 + 1, none⟩ = some (.int .i64 (spO T (k + 1) : Int)) ∧ w'.cell? ⟨gs, (k + 1) * 3 + 2, none⟩ = some (.int .i64 (spL O T (k + 1) : Int)) ∧ w'.cell? ⟨wr.heap.size, 0, none⟩ = some (.int .i64 (spS (k + 2))) ∧ w'.cell? ⟨wr.heap.size, 1, none⟩ = some (.int .i64 (spO T (k + 2) : Int)) ∧ w'.cell? ⟨wr.heap.size, 2, none⟩ = some (.int .i64 (spL O T (k + 2) : Int))) (first | assumption | exact keep6 (bAlloc (Below.refl _ _) _) (by assumption) | simp [*, go_sem])
                    (first | (go_at_call 16; refine (joins_yes _ _ _ _ _ _ _ Hs1.out).mono ?_; rintro e w9 ⟨rfl, hb9⟩; have k9 : w9.cell? ⟨gs, (k + 1) * 3, none⟩ = some (.int .i64 (spS (k + 1))) ∧ w9.cell? ⟨gs, (k + 1) * 3 + 1, none⟩ = some (.int .i64 (spO T (k + 1) : Int)) ∧ w9.cell? ⟨gs, (k + 1) * 3 + 2, none⟩ = some (.int .i64 (spL O T (k + 1) : Int)) ∧ w9.cell? ⟨wr.heap.size, 0, none⟩ = some (.int .i64 (spS (k + 2))) ∧ w9.cell? ⟨wr.heap.size, 1, none⟩ = some (.int .i64 (spO T (k + 2) : Int)) ∧ w9.cell? ⟨wr.heap.size, 2, none⟩ = some (.int .i64 (spL O T (k + 2) : Int)) := keep6 hb9 (by simp [*, go_sem]); obtain ⟨c9, f9⟩ := bcell hb9))
                  · go_wp2_with fail
                    go_meet
                    case rel => exact ⟨_, rfl, rfl, by go_num, meetA hb9 _ _ _⟩
                  · go_wp2_with fail
                    go_meet
                    case rel => exact ⟨_, rfl, rfl, by go_num, meetB hb9 _ _ _⟩
                case rest =>
                  obtain ⟨g17, rfl, rfl, rfl, hS17, hK⟩ := hcut
                  have K9 : Hid (Below w0.heap.size w0 wc) := K8.out.trans (hK.mono K8.out.size)
                  have P9 : Hid (wc.ownsRow (wr.heap.size + 1) 5 1 (.slice ap (spL O T (k + 2)) cp) (spL O T (k + 2)) (bv (allT O T (k + 2)))) := own_keep P8.out hK
                  clear hK K8 P8 S8 sz s0 s1 s2 q0 q1 q2
                  rw [sp_one k] at hS17
                  obtain ⟨jz, j0, j1, j2, -⟩ := id hS17
                  have hbl1 := spL_le O T (k + 1) (by omega) bO bF
                  have hj5 : spO T (k + 1) + (spL O T (k + 1) + spL O T (k + 2)) ≤ (which 1 O (flat T T.length)).length := sp_le2 O T k hlt
                  have hw1 : which 1 O (flat T T.length) = flat T T.length := by simp [which]
                  rw [hw1] at hj5
                  have HJs : Hid (sndB 1 (spO T (k + 1)) ((spL O T (k + 1) + spL O T (k + 2) : Nat) : Int) = true) := decide_eq_true ⟨.inr rfl, by omega, by omega, by omega⟩
                  have HJh : Hid (spO T (k + 1) + (spL O T (k + 1) + spL O T (k + 2)) ≤ (which 1 O (flat T T.length)).length) := sp_le2 O T k hlt
                  have hsum : spL O T (k + 1) + spL O T (k + 2) ≤ 1048576 := by omega
                  have VA : ∀ n, (Op.stringOp .add ⟨(allT O T (k + 1)).toArray⟩ ⟨(allT O T (k + 2)).toArray⟩).run Try.prog n = .ok (.string ⟨(allT O T (k + 1) ++ allT O T (k + 2)).toArray⟩) n := fun n => cat_run _ _ (by have h1 : (allT O T (k + 1)).length = spL O T (k + 1) := rfl; have h2 : (allT O T (k + 2)).length = spL O T (k + 2) := rfl; omega) n
                  clear hw1 hj5
                  go_wp2_with fail
                  refine (read_yesI (some ⟨b, 0, none⟩) 1 (spO T (k + 1)) (spL O T (k + 1) + spL O T (k + 2)) _ (by omega) O (flat T T.length) w.heap.size _ HJs.out HJh.out (by omega) (.inr ⟨b, vo, va, rfl, HB.out.keep K9.out⟩)).mono ?_
                  rintro e wq ⟨aq, cq, rfl, hown, hb⟩
                  have KQ : Hid (Below w0.heap.size w0 wq) := K9.out.trans (hb.mono K9.out.size)
                  have VP : ∀ n, (convert 22 9 (.slice ap (spL O T (k + 2)) cp)).run Try.prog (wq.drewN n) = .ok (.string ⟨(allT O T (k + 2)).toArray⟩) (wq.drewN n) := fun n => conv_rd (((own_rdB P9.out).rd.keep hb).drewN n)
                  have VQ : ∀ n, (convert 22 9 (.slice aq (spL O T (k + 1) + spL O T (k + 2)) cq)).run Try.prog (wq.drewN n) = .ok (.string ⟨(allT O T (k + 1) ++ allT O T (k + 2)).toArray⟩) (wq.drewN n) := fun n => conv_rd (((own_rdB (by rw [← sp_cut2 O T k hlt]; exact hown)).rd).drewN n)
                  obtain ⟨aj, cj, hj1, hj2⟩ := all_at (HO0.out.keep KQ.out) (HT0.out.keep KQ.out) (show k + 1 < T.length + 1 by omega)
                  have cA : wq.cell? ⟨gl, k + 1, none⟩ = some (.slice aj (spL O T (k + 1)) cj) := by
                    rw [(own_keep HA.out KQ.out).cellAt (k + 1) (by omega)]; exact hj1
                  have VJ : ∀ n, (convert 22 9 (.slice aj (spL O T (k + 1)) cj)).run Try.prog (wq.drewN n) = .ok (.string ⟨(allT O T (k + 1)).toArray⟩) (wq.drewN n) := fun n => conv_rd (hj2.drewN n)
                  clear hj1 hj2 hown hb jz j0 j1 j2 hS17 P9 K9
                  have hw : IntKind.i64.wrap ((k : Int) + 2 - 1) = (k : Int) + 1 := by rw [IntKind.wrap_i64]; omega
                  have hb1 : (0 : Int) ≤ (k : Int) + 1 := by omega
                  have hb2 : (k : Int) + 1 < 1 + (T.length : Int) := by omega
                  have hb4 : ((k : Int) + 1).toNat = k + 1 := by omega
                  go_wp2
                  go_quiet (fail)
                  go_wp2
                  go_roundw
                  case rel => exact ⟨k + 2 + 1, by omega, by go_num, KQ.out.trans ((below_drewN wq nq).mono KQ.out.size)⟩
                  case measure => simp [intOf]; omega
            · obtain rfl : j = T.length + 1 := by omega
              have hd : Hid (hdB 1 ((tot O T T.length : Int) + 1) 0 O (flat T T.length) = false) := by
                have h1 := tot_ge O T
                have e1 : which 1 O (flat T T.length) = flat T T.length := by simp [which]
                unfold Hid hdB
                rw [e1, decide_eq_false (by omega), Bool.and_false]
              go_wp2_with fail
              refine (read_no (some ⟨b, 0, none⟩) 1 _ 0 O (flat T T.length) w.heap.size _ (by omega) (by omega) hd.out (.inr ⟨b, vo, va, rfl, HB.out.keep K.out⟩)).mono ?_
              rintro e w6 ⟨rfl, hb⟩
              have K6 : Hid (Below w0.heap.size w0 w6) := K.out.trans (hb.mono K.out.size)
              clear hb
              go_wp2_with fail
              refine (holds_no (some ⟨b, 0, none⟩) 2 0 0 _ (by omega) (by omega) (by decide)).mono ?_
              rintro e w7 ⟨rfl, hb⟩
              have K7 : Hid (Below w0.heap.size w0 w7) := K6.out.trans (hb.mono K6.out.size)
              clear hb
              go_wp2
              go_ret
              exact ⟨rfl, HL.out.trans (K7.out.mono HL.out.size)⟩
end Go.Proofs.Ytfjfflkdcmpgnaa
