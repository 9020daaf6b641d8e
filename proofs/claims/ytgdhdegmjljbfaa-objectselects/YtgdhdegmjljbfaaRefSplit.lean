/- The contract of quoinref05.Split: the lines of a text, each in memory of its own. -/
import Derived.Test.YtgdhdegmjljbfaaLists
namespace Go.Proofs.Ytgdhdegmjljbfaa
open Go.RowKit

set_option maxHeartbeats 2000000 in
theorem refSplit_any (ao : Option Addr) (n c : Nat) (l : List UInt8) (w : World) (hn : n ≤ 4398046511104) (HT : Hid (Tx w ao n c l)) :
    Calls Try.prog 51 #[.slice ao n c] w fun e w' => ∃ v D, e = .returned v ∧ Rws w w' (spl v D) ∧ D.map (·.2) = lns l (nl l + 1) := by
  obtain ⟨i5, hi5, hz5, hs5, hb5⟩ := info_parts info5
  obtain ⟨i22, hi22, hz22, hs22, hb22⟩ := info_parts info22
  have hcap := HT.out.cap
  have hlen := Hid.mk' HT.out.len
  have hnl : nl l ≤ n := by have := nl_le l; rw [hlen.out] at this; exact this
  go_enter Try.func51, Try.ntmps51
  go_wp2_with fail
  go_loopw [3, 4, 5] (fun u x y wr => (∃ (k s i : Nat) (D : List (Value × List UInt8)), x = .int .i64 s ∧ y = .int .i64 i ∧ s ≤ i ∧ i ≤ n ∧ St l k s ∧ (∀ j, s ≤ j → j < i → le (at8 l j) = false) ∧ D.length = k ∧ D.map (·.2) = lns l k ∧ Rws w wr (spl u D)) ∨ (∃ D, y = .int .i64 ((n : Int) + 1) ∧ D.map (·.2) = lns l (nl l + 1) ∧ Rws w wr (spl u D))) (fun _ _ y _ => n + 1 - (intOf y).toNat)
  case atStart => exact .inl ⟨0, 0, 0, [], rfl, rfl, Nat.le_refl _, Nat.zero_le _, St.zero l, fun j h1 h2 => by omega, rfl, rfl, (Rws.nil w).new (Below.refl _ _) (World.ownsRow_nil _ _ _ _)⟩
  case round =>
    rcases hrel with ⟨k, s, i, D, rfl, rfl, hsi, hin, hst, hno, hD, hparts, hR⟩ | ⟨D, rfl, hD, hR⟩
    · have HS := Hid.mk' hst
      have HNo := Hid.mk' hno
      have HD := Hid.mk' hD
      have HP := Hid.mk' hparts
      have HR := Hid.mk' hR
      clear hst hno hD hparts hR
      have T1 := Hid.mk' (HT.out.keep HR.out.bel)
      have hk : k ≤ nl l := HS.out.low
      obtain ⟨ax, cx, hu3⟩ := own_shape (HR.out.own 0 _ rfl)
      have hux : u3 = .slice ax k cx := by rw [← HD.out]; exact hu3
      subst hux
      clear hu3
      have hi0 : (0 : Int) ≤ (i : Int) := by omega
      have hsi' : (s : Int) ≤ (i : Int) := by omega
      have hin' : (i : Int) ≤ (n : Int) := by omega
      have hbig : (n : Int) ≤ 4398046511104 := by omega
      have hic : (i : Int) ≤ (c : Int) := by omega
      have hs0 : (0 : Int) ≤ (s : Int) := by omega
      by_cases hstop : i = n ∨ le (at8 l i) = true
      · have HE : Hid (en l s = i) := en_eq hsi (by rw [hlen.out]; exact hin) HNo.out (by rw [hlen.out]; exact hstop)
        have HLD : Hid (ln l k = (l.drop s).take (i - s)) := by unfold Hid ln; rw [sp_eq HS.out, HE.out]
        have HEL : Hid ((ln l k).length = i - s) := by unfold Hid; rw [ln_length hk, sp_eq HS.out, HE.out]
        have HN : Hid (i < n → St l (k + 1) (i + 1)) := fun h => by have := HS.out.next (by rw [HE.out, hlen.out]; exact h); rwa [HE.out] at this
        have HLS : Hid (i = n → nl l = k) := fun h => HS.out.last (by rw [HE.out, hlen.out]; exact h)
        have hs : s ≤ n := by omega
        cases ao with
        | none =>
          obtain rfl : n = 0 := T1.out.none.1
          obtain rfl : c = 0 := T1.out.none.2.1
          obtain rfl : i = 0 := by omega
          obtain rfl : s = 0 := by omega
          have SR : Hid (Srv wr (.slice none 0 0) 0 (bv (ln l k))) := by
            unfold Hid; rw [HLD.out]
            have := (T1.out.head (i := 0) (Nat.le_refl _)).srv
            simpa using this
          clear hstop
          go_wp2_with (at_builtin; refine append_srv rfl (.tmp 24) (.tmp 28) 22 rfl wr.heap.size 5 i5 (.int .u8 0) 1 1 Try.underlying22 hi5 hz5 hs5 hb5 rfl (by decide) (.slice (some ⟨wr.heap.size, 0, none⟩) 0 0) 0 [] rfl (World.ownsRow_made wr #[] 0 (Nat.le_refl _) (by decide) rfl) (.slice none 0 0) (0) (bv (ln l k)) rfl (SR.out.keep (bAlloc (Below.refl _ _) _)) (by rw [bv_length]; have := HEL.out; omega) (bv_one _) (by unfold maxLen; omega) (by omega) (by simp) ?_)
          intro v1 w2 hown1 hgrow1 hfr1
          have e1 : (ln l k).length = 0 := by have := HEL.out; omega
          have hown1' : w2.ownsRow wr.heap.size 5 1 v1 (ln l k).length (bv (ln l k)) := by rw [e1]; simpa using hown1
          have hbel1 : Below wr.heap.size wr w2 := (bAlloc (Below.refl _ _) _).grown hgrow1 (by simp) (fun k hk => by simp [Value.ownBlock] at hk; omega)
          have HR2 : Hid (Rws w w2 (spl (.slice ax k cx) D ++ [brow (v1, ln l k)])) := HR.out.new hbel1 hown1'
          obtain ⟨a1, c1, ev1⟩ := own_shape hown1'
          subst ev1
          clear hown1' e1 hbel1
          clear hown1 hgrow1 hfr1
          have HO : Hid (w2.ownsRow w.heap.size 22 1 (.slice ax k cx) k (D.map (·.1))) := by have := HR2.out.own 0 _ rfl; unfold Hid; simpa [spl, vrow, HD.out] using this
          go_wp2_with (at_builtin; refine append_srv rfl (.tmp 30) (.tmp 32) 74 rfl w.heap.size 22 i22 (.slice none 0 0) 1 24 Try.underlying74 hi22 hz22 hs22 hb22 rfl (by decide) (.slice ax k cx) k (D.map (·.1)) rfl (HO.out.alloc _) (.slice (some ⟨w2.heap.size, 0, none⟩) 1 1) 1 [(Value.slice a1 (ln l k).length c1)] rfl (.inr ⟨⟨w2.heap.size, 0, none⟩, 1, rfl, fun j t hj => lit_cells w2 _ 22 j t hj⟩) rfl ?r1 ?r2 ?r3 ?r4 ?_)
          case r1 => intro u hu; simp at hu; subst hu; rfl
          case r2 => unfold maxLen; omega
          case r3 => omega
          case r4 => have := HR2.out.bel.size; simp; omega
          intro v2 w3 hown2 hgrow2 hfr2
          have HR3 : Hid (Rws w w3 (spl v2 (D ++ [((Value.slice a1 (ln l k).length c1), ln l k)]))) := by
            have h1 := (HR2.out.alloc (.cells #[(Value.slice a1 (ln l k).length c1)] 22)).grow (i := 0) (r := vrow (.slice ax k cx) D) rfl hgrow2 hown2 (by rcases hfr2 with e | ⟨q, e, hq⟩; exact .inl e; exact .inr ⟨q, e, by simpa using hq⟩)
            have e3 : (spl (.slice ax k cx) D ++ [brow ((Value.slice a1 (ln l k).length c1), ln l k)]).set 0 ⟨22, 1, v2, k + 1, D.map (·.1) ++ [(Value.slice a1 (ln l k).length c1)]⟩ = spl v2 (D ++ [((Value.slice a1 (ln l k).length c1), ln l k)]) := by
              unfold spl vrow
              simp [HD.out]
            rw [e3] at h1
            exact h1
          have HP3 : Hid ((D ++ [((Value.slice a1 (ln l k).length c1), ln l k)]).map (·.2) = lns l (k + 1)) := by unfold Hid; rw [lns_succ, List.map_append, HP.out]; rfl
          have HD3 : Hid ((D ++ [((Value.slice a1 (ln l k).length c1), ln l k)]).length = k + 1) := by unfold Hid; simp [HD.out]
          clear hown2 hgrow2 hfr2 HR HR2 HO
          go_wp2
          go_roundw
          case rel => first | exact .inl ⟨k + 1, i + 1, i + 1, _, by go_num, by go_num, by omega, by omega, HN.out (by omega), fun j h1 h2 => by omega, HD3.out, HP3.out, HR3.out⟩ | exact .inr ⟨_, by go_num, by rw [HP3.out, HLS.out (by first | trivial | rfl | omega)], HR3.out⟩
          case measure => first | (simp [intOf]; done) | (simp [intOf]; omega)
        | some a =>
          by_cases hlt : i < n
          · obtain ⟨g, o, hao, hc⟩ := T1.out.at (by omega)
            have hc0 := hc i hlt
            have e0 : a = ⟨g, o, none⟩ := by simpa using hao
            subst e0
            clear hao hc
            have h10 : (((at8 l i).toNat : Int) == 10) = true := by rcases hstop with h | h; omega; exact h
            have hin2 : (i : Int) < (n : Int) := by omega
            have hin3 : ((i : Int) == (n : Int)) = false := by rw [beq_eq_false_iff_ne]; omega
            have hcs : ¬ c = s := by omega
            have SR : Hid (Srv wr (.slice (some ((⟨g, o, none⟩ : Addr).add s)) (i - s) (c - s)) (i - s) (bv (ln l k))) := by
              unfold Hid; rw [HLD.out]
              exact ((T1.out.tail hs).mid hin hsi).srv
            rw [add_none] at SR
            clear hstop
            go_wp2_with (at_builtin; refine append_srv rfl (.tmp 24) (.tmp 28) 22 rfl wr.heap.size 5 i5 (.int .u8 0) 1 1 Try.underlying22 hi5 hz5 hs5 hb5 rfl (by decide) (.slice (some ⟨wr.heap.size, 0, none⟩) 0 0) 0 [] rfl (World.ownsRow_made wr #[] 0 (Nat.le_refl _) (by decide) rfl) (.slice (some ⟨g, o + s, none⟩) (i - s) (c - s)) (i - s) (bv (ln l k)) rfl (SR.out.keep (bAlloc (Below.refl _ _) _)) (by rw [bv_length]; have := HEL.out; omega) (bv_one _) (by unfold maxLen; omega) (by omega) (by simp) ?_)
            intro v1 w2 hown1 hgrow1 hfr1
            have e1 : (ln l k).length = i - s := by have := HEL.out; omega
            have hown1' : w2.ownsRow wr.heap.size 5 1 v1 (ln l k).length (bv (ln l k)) := by rw [e1]; simpa using hown1
            have hbel1 : Below wr.heap.size wr w2 := (bAlloc (Below.refl _ _) _).grown hgrow1 (by simp) (fun k hk => by simp [Value.ownBlock] at hk; omega)
            have HR2 : Hid (Rws w w2 (spl (.slice ax k cx) D ++ [brow (v1, ln l k)])) := HR.out.new hbel1 hown1'
            obtain ⟨a1, c1, ev1⟩ := own_shape hown1'
            subst ev1
            clear hown1' e1 hbel1
            clear hown1 hgrow1 hfr1
            have HO : Hid (w2.ownsRow w.heap.size 22 1 (.slice ax k cx) k (D.map (·.1))) := by have := HR2.out.own 0 _ rfl; unfold Hid; simpa [spl, vrow, HD.out] using this
            go_wp2_with (at_builtin; refine append_srv rfl (.tmp 30) (.tmp 32) 74 rfl w.heap.size 22 i22 (.slice none 0 0) 1 24 Try.underlying74 hi22 hz22 hs22 hb22 rfl (by decide) (.slice ax k cx) k (D.map (·.1)) rfl (HO.out.alloc _) (.slice (some ⟨w2.heap.size, 0, none⟩) 1 1) 1 [(Value.slice a1 (ln l k).length c1)] rfl (.inr ⟨⟨w2.heap.size, 0, none⟩, 1, rfl, fun j t hj => lit_cells w2 _ 22 j t hj⟩) rfl ?r1 ?r2 ?r3 ?r4 ?_)
            case r1 => intro u hu; simp at hu; subst hu; rfl
            case r2 => unfold maxLen; omega
            case r3 => omega
            case r4 => have := HR2.out.bel.size; simp; omega
            intro v2 w3 hown2 hgrow2 hfr2
            have HR3 : Hid (Rws w w3 (spl v2 (D ++ [((Value.slice a1 (ln l k).length c1), ln l k)]))) := by
              have h1 := (HR2.out.alloc (.cells #[(Value.slice a1 (ln l k).length c1)] 22)).grow (i := 0) (r := vrow (.slice ax k cx) D) rfl hgrow2 hown2 (by rcases hfr2 with e | ⟨q, e, hq⟩; exact .inl e; exact .inr ⟨q, e, by simpa using hq⟩)
              have e3 : (spl (.slice ax k cx) D ++ [brow ((Value.slice a1 (ln l k).length c1), ln l k)]).set 0 ⟨22, 1, v2, k + 1, D.map (·.1) ++ [(Value.slice a1 (ln l k).length c1)]⟩ = spl v2 (D ++ [((Value.slice a1 (ln l k).length c1), ln l k)]) := by
                unfold spl vrow
                simp [HD.out]
              rw [e3] at h1
              exact h1
            have HP3 : Hid ((D ++ [((Value.slice a1 (ln l k).length c1), ln l k)]).map (·.2) = lns l (k + 1)) := by unfold Hid; rw [lns_succ, List.map_append, HP.out]; rfl
            have HD3 : Hid ((D ++ [((Value.slice a1 (ln l k).length c1), ln l k)]).length = k + 1) := by unfold Hid; simp [HD.out]
            clear hown2 hgrow2 hfr2 HR HR2 HO
            go_wp2
            go_roundw
            case rel => first | exact .inl ⟨k + 1, i + 1, i + 1, _, by go_num, by go_num, by omega, by omega, HN.out (by omega), fun j h1 h2 => by omega, HD3.out, HP3.out, HR3.out⟩ | exact .inr ⟨_, by go_num, by rw [HP3.out, HLS.out (by first | trivial | rfl | omega)], HR3.out⟩
            case measure => first | (simp [intOf]; done) | (simp [intOf]; omega)
          · obtain rfl : i = n := by omega
            clear hstop
            by_cases hcs : c = s
            · obtain rfl : s = i := by omega
              obtain rfl : s = c := hcs.symm
              have SR : Hid (Srv wr (.slice (some a) 0 0) 0 (bv (ln l k))) := by
                unfold Hid; rw [HLD.out]
                have := ((T1.out.tail0 hs rfl).mid hin hsi).srv
                simpa using this
              go_wp2_with (at_builtin; refine append_srv rfl (.tmp 24) (.tmp 28) 22 rfl wr.heap.size 5 i5 (.int .u8 0) 1 1 Try.underlying22 hi5 hz5 hs5 hb5 rfl (by decide) (.slice (some ⟨wr.heap.size, 0, none⟩) 0 0) 0 [] rfl (World.ownsRow_made wr #[] 0 (Nat.le_refl _) (by decide) rfl) (.slice (some a) 0 0) (0) (bv (ln l k)) rfl (SR.out.keep (bAlloc (Below.refl _ _) _)) (by rw [bv_length]; have := HEL.out; omega) (bv_one _) (by unfold maxLen; omega) (by omega) (by simp) ?_)
              intro v1 w2 hown1 hgrow1 hfr1
              have e1 : (ln l k).length = 0 := by have := HEL.out; omega
              have hown1' : w2.ownsRow wr.heap.size 5 1 v1 (ln l k).length (bv (ln l k)) := by rw [e1]; simpa using hown1
              have hbel1 : Below wr.heap.size wr w2 := (bAlloc (Below.refl _ _) _).grown hgrow1 (by simp) (fun k hk => by simp [Value.ownBlock] at hk; omega)
              have HR2 : Hid (Rws w w2 (spl (.slice ax k cx) D ++ [brow (v1, ln l k)])) := HR.out.new hbel1 hown1'
              obtain ⟨a1, c1, ev1⟩ := own_shape hown1'
              subst ev1
              clear hown1' e1 hbel1
              clear hown1 hgrow1 hfr1
              have HO : Hid (w2.ownsRow w.heap.size 22 1 (.slice ax k cx) k (D.map (·.1))) := by have := HR2.out.own 0 _ rfl; unfold Hid; simpa [spl, vrow, HD.out] using this
              go_wp2_with (at_builtin; refine append_srv rfl (.tmp 30) (.tmp 32) 74 rfl w.heap.size 22 i22 (.slice none 0 0) 1 24 Try.underlying74 hi22 hz22 hs22 hb22 rfl (by decide) (.slice ax k cx) k (D.map (·.1)) rfl (HO.out.alloc _) (.slice (some ⟨w2.heap.size, 0, none⟩) 1 1) 1 [(Value.slice a1 (ln l k).length c1)] rfl (.inr ⟨⟨w2.heap.size, 0, none⟩, 1, rfl, fun j t hj => lit_cells w2 _ 22 j t hj⟩) rfl ?r1 ?r2 ?r3 ?r4 ?_)
              case r1 => intro u hu; simp at hu; subst hu; rfl
              case r2 => unfold maxLen; omega
              case r3 => omega
              case r4 => have := HR2.out.bel.size; simp; omega
              intro v2 w3 hown2 hgrow2 hfr2
              have HR3 : Hid (Rws w w3 (spl v2 (D ++ [((Value.slice a1 (ln l k).length c1), ln l k)]))) := by
                have h1 := (HR2.out.alloc (.cells #[(Value.slice a1 (ln l k).length c1)] 22)).grow (i := 0) (r := vrow (.slice ax k cx) D) rfl hgrow2 hown2 (by rcases hfr2 with e | ⟨q, e, hq⟩; exact .inl e; exact .inr ⟨q, e, by simpa using hq⟩)
                have e3 : (spl (.slice ax k cx) D ++ [brow ((Value.slice a1 (ln l k).length c1), ln l k)]).set 0 ⟨22, 1, v2, k + 1, D.map (·.1) ++ [(Value.slice a1 (ln l k).length c1)]⟩ = spl v2 (D ++ [((Value.slice a1 (ln l k).length c1), ln l k)]) := by
                  unfold spl vrow
                  simp [HD.out]
                rw [e3] at h1
                exact h1
              have HP3 : Hid ((D ++ [((Value.slice a1 (ln l k).length c1), ln l k)]).map (·.2) = lns l (k + 1)) := by unfold Hid; rw [lns_succ, List.map_append, HP.out]; rfl
              have HD3 : Hid ((D ++ [((Value.slice a1 (ln l k).length c1), ln l k)]).length = k + 1) := by unfold Hid; simp [HD.out]
              clear hown2 hgrow2 hfr2 HR HR2 HO
              go_wp2
              go_roundw
              case rel => first | exact .inl ⟨k + 1, i + 1, i + 1, _, by go_num, by go_num, by omega, by omega, HN.out (by omega), fun j h1 h2 => by omega, HD3.out, HP3.out, HR3.out⟩ | exact .inr ⟨_, by go_num, by rw [HP3.out, HLS.out (by first | trivial | rfl | omega)], HR3.out⟩
              case measure => first | (simp [intOf]; done) | (simp [intOf]; omega)
            · have SR : Hid (Srv wr (.slice (some (a.add s)) (i - s) (c - s)) (i - s) (bv (ln l k))) := by
                unfold Hid; rw [HLD.out]
                exact ((T1.out.tail hs).mid hin hsi).srv
              go_wp2_with (at_builtin; refine append_srv rfl (.tmp 24) (.tmp 28) 22 rfl wr.heap.size 5 i5 (.int .u8 0) 1 1 Try.underlying22 hi5 hz5 hs5 hb5 rfl (by decide) (.slice (some ⟨wr.heap.size, 0, none⟩) 0 0) 0 [] rfl (World.ownsRow_made wr #[] 0 (Nat.le_refl _) (by decide) rfl) (.slice (some (a.add s)) (i - s) (c - s)) (i - s) (bv (ln l k)) rfl (SR.out.keep (bAlloc (Below.refl _ _) _)) (by rw [bv_length]; have := HEL.out; omega) (bv_one _) (by unfold maxLen; omega) (by omega) (by simp) ?_)
              intro v1 w2 hown1 hgrow1 hfr1
              have e1 : (ln l k).length = i - s := by have := HEL.out; omega
              have hown1' : w2.ownsRow wr.heap.size 5 1 v1 (ln l k).length (bv (ln l k)) := by rw [e1]; simpa using hown1
              have hbel1 : Below wr.heap.size wr w2 := (bAlloc (Below.refl _ _) _).grown hgrow1 (by simp) (fun k hk => by simp [Value.ownBlock] at hk; omega)
              have HR2 : Hid (Rws w w2 (spl (.slice ax k cx) D ++ [brow (v1, ln l k)])) := HR.out.new hbel1 hown1'
              obtain ⟨a1, c1, ev1⟩ := own_shape hown1'
              subst ev1
              clear hown1' e1 hbel1
              clear hown1 hgrow1 hfr1
              have HO : Hid (w2.ownsRow w.heap.size 22 1 (.slice ax k cx) k (D.map (·.1))) := by have := HR2.out.own 0 _ rfl; unfold Hid; simpa [spl, vrow, HD.out] using this
              go_wp2_with (at_builtin; refine append_srv rfl (.tmp 30) (.tmp 32) 74 rfl w.heap.size 22 i22 (.slice none 0 0) 1 24 Try.underlying74 hi22 hz22 hs22 hb22 rfl (by decide) (.slice ax k cx) k (D.map (·.1)) rfl (HO.out.alloc _) (.slice (some ⟨w2.heap.size, 0, none⟩) 1 1) 1 [(Value.slice a1 (ln l k).length c1)] rfl (.inr ⟨⟨w2.heap.size, 0, none⟩, 1, rfl, fun j t hj => lit_cells w2 _ 22 j t hj⟩) rfl ?r1 ?r2 ?r3 ?r4 ?_)
              case r1 => intro u hu; simp at hu; subst hu; rfl
              case r2 => unfold maxLen; omega
              case r3 => omega
              case r4 => have := HR2.out.bel.size; simp; omega
              intro v2 w3 hown2 hgrow2 hfr2
              have HR3 : Hid (Rws w w3 (spl v2 (D ++ [((Value.slice a1 (ln l k).length c1), ln l k)]))) := by
                have h1 := (HR2.out.alloc (.cells #[(Value.slice a1 (ln l k).length c1)] 22)).grow (i := 0) (r := vrow (.slice ax k cx) D) rfl hgrow2 hown2 (by rcases hfr2 with e | ⟨q, e, hq⟩; exact .inl e; exact .inr ⟨q, e, by simpa using hq⟩)
                have e3 : (spl (.slice ax k cx) D ++ [brow ((Value.slice a1 (ln l k).length c1), ln l k)]).set 0 ⟨22, 1, v2, k + 1, D.map (·.1) ++ [(Value.slice a1 (ln l k).length c1)]⟩ = spl v2 (D ++ [((Value.slice a1 (ln l k).length c1), ln l k)]) := by
                  unfold spl vrow
                  simp [HD.out]
                rw [e3] at h1
                exact h1
              have HP3 : Hid ((D ++ [((Value.slice a1 (ln l k).length c1), ln l k)]).map (·.2) = lns l (k + 1)) := by unfold Hid; rw [lns_succ, List.map_append, HP.out]; rfl
              have HD3 : Hid ((D ++ [((Value.slice a1 (ln l k).length c1), ln l k)]).length = k + 1) := by unfold Hid; simp [HD.out]
              clear hown2 hgrow2 hfr2 HR HR2 HO
              go_wp2
              go_roundw
              case rel => first | exact .inl ⟨k + 1, i + 1, i + 1, _, by go_num, by go_num, by omega, by omega, HN.out (by omega), fun j h1 h2 => by omega, HD3.out, HP3.out, HR3.out⟩ | exact .inr ⟨_, by go_num, by rw [HP3.out, HLS.out (by first | trivial | rfl | omega)], HR3.out⟩
              case measure => first | (simp [intOf]; done) | (simp [intOf]; omega)
      · have hlt : i < n := by
          rcases Nat.lt_or_ge i n with h | h
          · exact h
          · exact absurd (.inl (by omega)) hstop
        have hno10 : le (at8 l i) = false := by
          cases h : le (at8 l i) with
          | false => rfl
          | true => exact absurd (.inr h) hstop
        obtain ⟨g, o, rfl, hc⟩ := T1.out.at (by omega)
        have hc0 := hc i hlt
        have h10 : (((at8 l i).toNat : Int) == 10) = false := hno10
        have hin2 : (i : Int) < (n : Int) := by omega
        have hin3 : ((i : Int) == (n : Int)) = false := by rw [beq_eq_false_iff_ne]; omega
        have HN2 : Hid (∀ j, s ≤ j → j < i + 1 → le (at8 l j) = false) := fun j h1 h2 => by
          rcases Nat.lt_or_ge j i with h | h
          · exact HNo.out j h1 h
          · obtain rfl : j = i := by omega
            exact hno10
        clear hc hno10 hstop
        go_wp2
        go_roundw
        case rel => exact .inl ⟨k, s, i + 1, D, rfl, by go_num, by omega, by omega, HS.out, HN2.out, HD.out, HP.out, HR.out⟩
        case measure => first | (simp [intOf]; done) | (simp [intOf]; omega)
    · have HR := Hid.mk' hR
      have HD := Hid.mk' hD
      clear hR hD
      have h1 : ¬ ((n : Int) + 1 ≤ (n : Int)) := by omega
      go_wp2
      go_ret
      first | exact ⟨u3, D, rfl, HR.out, HD.out⟩ | exact ⟨u3, rfl, D, HR.out, HD.out⟩
end Go.Proofs.Ytgdhdegmjljbfaa
