/- Rsp9, Rpd -/
import Derived.Test.YtppefcnopkmhbaaGreatDoorPt07
import Derived.Test.YtppefcnopkmhbaaGreatDoorPt20
import Derived.Test.YtppefcnopkmhbaaGreatDoorPt19
import Derived.Test.YtppefcnopkmhbaaGreatDoorPt29
namespace Go.Proofs.YtppefcnopkmhbaaGreatDoor
open Go.RowKit

set_option maxHeartbeats 2000000 in
theorem refSplit_any (ao : Option Addr) (n c : Nat) (l : List UInt8) (w : World) (hn : n ≤ 4398046511104) (HT : Hid (Tx w ao n c l)) :
    Calls Tryz.prog 63 #[.slice ao n c] w fun e w' => ∃ v D, e = .returned v ∧ Rws w w' (spl v D) ∧ D.map (·.2) = lns l (nl l + 1) := by
  obtain ⟨i5, hi5, hz5, hs5, hb5⟩ := info_parts info5
  obtain ⟨i22, hi22, hz22, hs22, hb22⟩ := info_parts info22
  have hcap := HT.out.cap
  have hlen := Hid.mk' HT.out.len
  have hnl : nl l ≤ n := by have := nl_le l; rw [hlen.out] at this; exact this
  go_enter Tryz.func63, Tryz.ntmps63
  go_wp2_with fail
  go_loopw [3, 4, 5] (fun u x y wr => (∃ (k s i : Nat) (D : List (Value × List UInt8)), x = .int .i64 s ∧ y = .int .i64 i ∧ s ≤ i ∧ i ≤ n ∧ St l k s ∧ (∀ j, s ≤ j → j < i → le (at8 l j) = false) ∧ D.length = k ∧ D.map (·.2) = lns l k ∧ Rws w wr (spl u D)) ∨ (∃ D, y = .int .i64 ((n : Int) + 1) ∧ D.map (·.2) = lns l (nl l + 1) ∧ Rws w wr (spl u D))) (fun _ _ y _ => n + 1 - (intOf y).toNat)
  case atStart => exact .inl ⟨0, 0, 0, [], rfl, rfl, Nat.le_refl _, Nat.zero_le _, St.zero l, fun j h1 h2 => by omega, rfl, rfl, (Rws.nil w).new (Below.refl _ _) (World.ownsRow_nil _ _ _ _)⟩
  case round =>
    rcases hrel with ⟨k, s, i, D, rfl, rfl, hsi, hin, hst, hno, hD, hparts, hR⟩ | ⟨D, rfl, hD, hR⟩
    · have HS := Hid.mk' hst
      have HNo := Hid.mk' hno
      have HD := Hid.mk' hD
      have HP := Hid.mk' hparts
      have HR := Hid.mk' hR
      clear hst hno hD hparts hR
      have T1 := Hid.mk' (HT.out.keep HR.out.bel)
      have hk : k ≤ nl l := HS.out.low
      obtain ⟨ax, cx, hu3⟩ := own_shape (HR.out.own 0 _ rfl)
      have hux : u3 = .slice ax k cx := by rw [← HD.out]; exact hu3
      subst hux
      clear hu3
      have hi0 : (0 : Int) ≤ (i : Int) := by omega
      have hsi' : (s : Int) ≤ (i : Int) := by omega
      have hin' : (i : Int) ≤ (n : Int) := by omega
      have hbig : (n : Int) ≤ 4398046511104 := by omega
      have hic : (i : Int) ≤ (c : Int) := by omega
      have hs0 : (0 : Int) ≤ (s : Int) := by omega
      by_cases hstop : i = n ∨ le (at8 l i) = true
      · have HE : Hid (en l s = i) := en_eq hsi (by rw [hlen.out]; exact hin) HNo.out (by rw [hlen.out]; exact hstop)
        have HLD : Hid (ln l k = (l.drop s).take (i - s)) := by unfold Hid ln; rw [sp_eq HS.out, HE.out]
        have HEL : Hid ((ln l k).length = i - s) := by unfold Hid; rw [ln_length hk, sp_eq HS.out, HE.out]
        have HN : Hid (i < n → St l (k + 1) (i + 1)) := fun h => by have := HS.out.next (by rw [HE.out, hlen.out]; exact h); rwa [HE.out] at this
        have HLS : Hid (i = n → nl l = k) := fun h => HS.out.last (by rw [HE.out, hlen.out]; exact h)
        have hs : s ≤ n := by omega
        cases ao with
        | none =>
          obtain rfl : n = 0 := T1.out.none.1
          obtain rfl : c = 0 := T1.out.none.2.1
          obtain rfl : i = 0 := by omega
          obtain rfl : s = 0 := by omega
          have SR : Hid (Srv wr (.slice none 0 0) 0 (bv (ln l k))) := by
            unfold Hid; rw [HLD.out]
            have := (T1.out.head (i := 0) (Nat.le_refl _)).srv
            simpa using this
          clear hstop
          go_wp2_with (at_builtin; refine append_srv rfl (.tmp 24) (.tmp 28) 22 rfl wr.heap.size 5 i5 (.int .u8 0) 1 1 Tryz.underlying22 hi5 hz5 hs5 hb5 rfl (by decide) (.slice (some ⟨wr.heap.size, 0, none⟩) 0 0) 0 [] rfl (World.ownsRow_made wr #[] 0 (Nat.le_refl _) (by decide) rfl) (.slice none 0 0) (0) (bv (ln l k)) rfl (SR.out.keep (bAlloc (Below.refl _ _) _)) (by rw [bv_length]; have := HEL.out; omega) (bv_one _) (by unfold maxLen; omega) (by omega) (by simp) ?_)
          intro v1 w2 hown1 hgrow1 hfr1
          have e1 : (ln l k).length = 0 := by have := HEL.out; omega
          have hown1' : w2.ownsRow wr.heap.size 5 1 v1 (ln l k).length (bv (ln l k)) := by rw [e1]; simpa using hown1
          have hbel1 : Below wr.heap.size wr w2 := (bAlloc (Below.refl _ _) _).grown hgrow1 (by simp) (fun k hk => by simp [Value.ownBlock] at hk; omega)
          have HR2 : Hid (Rws w w2 (spl (.slice ax k cx) D ++ [brow (v1, ln l k)])) := HR.out.new hbel1 hown1'
          obtain ⟨a1, c1, ev1⟩ := own_shape hown1'
          subst ev1
          clear hown1' e1 hbel1
          clear hown1 hgrow1 hfr1
          have HO : Hid (w2.ownsRow w.heap.size 22 1 (.slice ax k cx) k (D.map (·.1))) := by have := HR2.out.own 0 _ rfl; unfold Hid; simpa [spl, vrow, HD.out] using this
          go_wp2_with (at_builtin; refine append_srv rfl (.tmp 30) (.tmp 32) 26 rfl w.heap.size 22 i22 (.slice none 0 0) 1 24 Tryz.underlying26 hi22 hz22 hs22 hb22 rfl (by decide) (.slice ax k cx) k (D.map (·.1)) rfl (HO.out.alloc _) (.slice (some ⟨w2.heap.size, 0, none⟩) 1 1) 1 [(Value.slice a1 (ln l k).length c1)] rfl (.inr ⟨⟨w2.heap.size, 0, none⟩, 1, rfl, fun j t hj => lit_cells w2 _ 22 j t hj⟩) rfl ?r1 ?r2 ?r3 ?r4 ?_)
          case r1 => intro u hu; simp at hu; subst hu; rfl
          case r2 => unfold maxLen; omega
          case r3 => omega
          case r4 => have := HR2.out.bel.size; simp; omega
          intro v2 w3 hown2 hgrow2 hfr2
          have HR3 : Hid (Rws w w3 (spl v2 (D ++ [((Value.slice a1 (ln l k).length c1), ln l k)]))) := by
            have h1 := (HR2.out.alloc (.cells #[(Value.slice a1 (ln l k).length c1)] 22)).grow (i := 0) (r := vrow (.slice ax k cx) D) rfl hgrow2 hown2 (by rcases hfr2 with e | ⟨q, e, hq⟩; exact .inl e; exact .inr ⟨q, e, by simpa using hq⟩)
            have e3 : (spl (.slice ax k cx) D ++ [brow ((Value.slice a1 (ln l k).length c1), ln l k)]).set 0 ⟨22, 1, v2, k + 1, D.map (·.1) ++ [(Value.slice a1 (ln l k).length c1)]⟩ = spl v2 (D ++ [((Value.slice a1 (ln l k).length c1), ln l k)]) := by
              unfold spl vrow
              simp [HD.out]
            rw [e3] at h1
            exact h1
          have HP3 : Hid ((D ++ [((Value.slice a1 (ln l k).length c1), ln l k)]).map (·.2) = lns l (k + 1)) := by unfold Hid; rw [lns_succ, List.map_append, HP.out]; rfl
          have HD3 : Hid ((D ++ [((Value.slice a1 (ln l k).length c1), ln l k)]).length = k + 1) := by unfold Hid; simp [HD.out]
          clear hown2 hgrow2 hfr2 HR HR2 HO
          go_wp2
          go_roundw
          case rel => first | exact .inl ⟨k + 1, i + 1, i + 1, _, by go_num, by go_num, by omega, by omega, HN.out (by omega), fun j h1 h2 => by omega, HD3.out, HP3.out, HR3.out⟩ | exact .inr ⟨_, by go_num, by rw [HP3.out, HLS.out (by first | trivial | rfl | omega)], HR3.out⟩
          case measure => first | (simp [intOf]; done) | (simp [intOf]; omega)
        | some a =>
          by_cases hlt : i < n
          · obtain ⟨g, o, hao, hc⟩ := T1.out.at (by omega)
            have hc0 := hc i hlt
            have e0 : a = ⟨g, o, none⟩ := by simpa using hao
            subst e0
            clear hao hc
            have h10 : (((at8 l i).toNat : Int) == 10) = true := by rcases hstop with h | h; omega; exact h
            have hin2 : (i : Int) < (n : Int) := by omega
            have hin3 : ((i : Int) == (n : Int)) = false := by rw [beq_eq_false_iff_ne]; omega
            have hcs : ¬ c = s := by omega
            have SR : Hid (Srv wr (.slice (some ((⟨g, o, none⟩ : Addr).add s)) (i - s) (c - s)) (i - s) (bv (ln l k))) := by
              unfold Hid; rw [HLD.out]
              exact ((T1.out.tail hs).mid hin hsi).srv
            rw [add_none] at SR
            clear hstop
            go_wp2_with (at_builtin; refine append_srv rfl (.tmp 24) (.tmp 28) 22 rfl wr.heap.size 5 i5 (.int .u8 0) 1 1 Tryz.underlying22 hi5 hz5 hs5 hb5 rfl (by decide) (.slice (some ⟨wr.heap.size, 0, none⟩) 0 0) 0 [] rfl (World.ownsRow_made wr #[] 0 (Nat.le_refl _) (by decide) rfl) (.slice (some ⟨g, o + s, none⟩) (i - s) (c - s)) (i - s) (bv (ln l k)) rfl (SR.out.keep (bAlloc (Below.refl _ _) _)) (by rw [bv_length]; have := HEL.out; omega) (bv_one _) (by unfold maxLen; omega) (by omega) (by simp) ?_)
            intro v1 w2 hown1 hgrow1 hfr1
            have e1 : (ln l k).length = i - s := by have := HEL.out; omega
            have hown1' : w2.ownsRow wr.heap.size 5 1 v1 (ln l k).length (bv (ln l k)) := by rw [e1]; simpa using hown1
            have hbel1 : Below wr.heap.size wr w2 := (bAlloc (Below.refl _ _) _).grown hgrow1 (by simp) (fun k hk => by simp [Value.ownBlock] at hk; omega)
            have HR2 : Hid (Rws w w2 (spl (.slice ax k cx) D ++ [brow (v1, ln l k)])) := HR.out.new hbel1 hown1'
            obtain ⟨a1, c1, ev1⟩ := own_shape hown1'
            subst ev1
            clear hown1' e1 hbel1
            clear hown1 hgrow1 hfr1
            have HO : Hid (w2.ownsRow w.heap.size 22 1 (.slice ax k cx) k (D.map (·.1))) := by have := HR2.out.own 0 _ rfl; unfold Hid; simpa [spl, vrow, HD.out] using this
            go_wp2_with (at_builtin; refine append_srv rfl (.tmp 30) (.tmp 32) 26 rfl w.heap.size 22 i22 (.slice none 0 0) 1 24 Tryz.underlying26 hi22 hz22 hs22 hb22 rfl (by decide) (.slice ax k cx) k (D.map (·.1)) rfl (HO.out.alloc _) (.slice (some ⟨w2.heap.size, 0, none⟩) 1 1) 1 [(Value.slice a1 (ln l k).length c1)] rfl (.inr ⟨⟨w2.heap.size, 0, none⟩, 1, rfl, fun j t hj => lit_cells w2 _ 22 j t hj⟩) rfl ?r1 ?r2 ?r3 ?r4 ?_)
            case r1 => intro u hu; simp at hu; subst hu; rfl
            case r2 => unfold maxLen; omega
            case r3 => omega
            case r4 => have := HR2.out.bel.size; simp; omega
            intro v2 w3 hown2 hgrow2 hfr2
            have HR3 : Hid (Rws w w3 (spl v2 (D ++ [((Value.slice a1 (ln l k).length c1), ln l k)]))) := by
              have h1 := (HR2.out.alloc (.cells #[(Value.slice a1 (ln l k).length c1)] 22)).grow (i := 0) (r := vrow (.slice ax k cx) D) rfl hgrow2 hown2 (by rcases hfr2 with e | ⟨q, e, hq⟩; exact .inl e; exact .inr ⟨q, e, by simpa using hq⟩)
              have e3 : (spl (.slice ax k cx) D ++ [brow ((Value.slice a1 (ln l k).length c1), ln l k)]).set 0 ⟨22, 1, v2, k + 1, D.map (·.1) ++ [(Value.slice a1 (ln l k).length c1)]⟩ = spl v2 (D ++ [((Value.slice a1 (ln l k).length c1), ln l k)]) := by
                unfold spl vrow
                simp [HD.out]
              rw [e3] at h1
              exact h1
            have HP3 : Hid ((D ++ [((Value.slice a1 (ln l k).length c1), ln l k)]).map (·.2) = lns l (k + 1)) := by unfold Hid; rw [lns_succ, List.map_append, HP.out]; rfl
            have HD3 : Hid ((D ++ [((Value.slice a1 (ln l k).length c1), ln l k)]).length = k + 1) := by unfold Hid; simp [HD.out]
            clear hown2 hgrow2 hfr2 HR HR2 HO
            go_wp2
            go_roundw
            case rel => first | exact .inl ⟨k + 1, i + 1, i + 1, _, by go_num, by go_num, by omega, by omega, HN.out (by omega), fun j h1 h2 => by omega, HD3.out, HP3.out, HR3.out⟩ | exact .inr ⟨_, by go_num, by rw [HP3.out, HLS.out (by first | trivial | rfl | omega)], HR3.out⟩
            case measure => first | (simp [intOf]; done) | (simp [intOf]; omega)
          · obtain rfl : i = n := by omega
            clear hstop
            by_cases hcs : c = s
            · obtain rfl : s = i := by omega
              obtain rfl : s = c := hcs.symm
              have SR : Hid (Srv wr (.slice (some a) 0 0) 0 (bv (ln l k))) := by
                unfold Hid; rw [HLD.out]
                have := ((T1.out.tail0 hs rfl).mid hin hsi).srv
                simpa using this
              go_wp2_with (at_builtin; refine append_srv rfl (.tmp 24) (.tmp 28) 22 rfl wr.heap.size 5 i5 (.int .u8 0) 1 1 Tryz.underlying22 hi5 hz5 hs5 hb5 rfl (by decide) (.slice (some ⟨wr.heap.size, 0, none⟩) 0 0) 0 [] rfl (World.ownsRow_made wr #[] 0 (Nat.le_refl _) (by decide) rfl) (.slice (some a) 0 0) (0) (bv (ln l k)) rfl (SR.out.keep (bAlloc (Below.refl _ _) _)) (by rw [bv_length]; have := HEL.out; omega) (bv_one _) (by unfold maxLen; omega) (by omega) (by simp) ?_)
              intro v1 w2 hown1 hgrow1 hfr1
              have e1 : (ln l k).length = 0 := by have := HEL.out; omega
              have hown1' : w2.ownsRow wr.heap.size 5 1 v1 (ln l k).length (bv (ln l k)) := by rw [e1]; simpa using hown1
              have hbel1 : Below wr.heap.size wr w2 := (bAlloc (Below.refl _ _) _).grown hgrow1 (by simp) (fun k hk => by simp [Value.ownBlock] at hk; omega)
              have HR2 : Hid (Rws w w2 (spl (.slice ax k cx) D ++ [brow (v1, ln l k)])) := HR.out.new hbel1 hown1'
              obtain ⟨a1, c1, ev1⟩ := own_shape hown1'
              subst ev1
              clear hown1' e1 hbel1
              clear hown1 hgrow1 hfr1
              have HO : Hid (w2.ownsRow w.heap.size 22 1 (.slice ax k cx) k (D.map (·.1))) := by have := HR2.out.own 0 _ rfl; unfold Hid; simpa [spl, vrow, HD.out] using this
              go_wp2_with (at_builtin; refine append_srv rfl (.tmp 30) (.tmp 32) 26 rfl w.heap.size 22 i22 (.slice none 0 0) 1 24 Tryz.underlying26 hi22 hz22 hs22 hb22 rfl (by decide) (.slice ax k cx) k (D.map (·.1)) rfl (HO.out.alloc _) (.slice (some ⟨w2.heap.size, 0, none⟩) 1 1) 1 [(Value.slice a1 (ln l k).length c1)] rfl (.inr ⟨⟨w2.heap.size, 0, none⟩, 1, rfl, fun j t hj => lit_cells w2 _ 22 j t hj⟩) rfl ?r1 ?r2 ?r3 ?r4 ?_)
              case r1 => intro u hu; simp at hu; subst hu; rfl
              case r2 => unfold maxLen; omega
              case r3 => omega
              case r4 => have := HR2.out.bel.size; simp; omega
              intro v2 w3 hown2 hgrow2 hfr2
              have HR3 : Hid (Rws w w3 (spl v2 (D ++ [((Value.slice a1 (ln l k).length c1), ln l k)]))) := by
                have h1 := (HR2.out.alloc (.cells #[(Value.slice a1 (ln l k).length c1)] 22)).grow (i := 0) (r := vrow (.slice ax k cx) D) rfl hgrow2 hown2 (by rcases hfr2 with e | ⟨q, e, hq⟩; exact .inl e; exact .inr ⟨q, e, by simpa using hq⟩)
                have e3 : (spl (.slice ax k cx) D ++ [brow ((Value.slice a1 (ln l k).length c1), ln l k)]).set 0 ⟨22, 1, v2, k + 1, D.map (·.1) ++ [(Value.slice a1 (ln l k).length c1)]⟩ = spl v2 (D ++ [((Value.slice a1 (ln l k).length c1), ln l k)]) := by
                  unfold spl vrow
                  simp [HD.out]
                rw [e3] at h1
                exact h1
              have HP3 : Hid ((D ++ [((Value.slice a1 (ln l k).length c1), ln l k)]).map (·.2) = lns l (k + 1)) := by unfold Hid; rw [lns_succ, List.map_append, HP.out]; rfl
              have HD3 : Hid ((D ++ [((Value.slice a1 (ln l k).length c1), ln l k)]).length = k + 1) := by unfold Hid; simp [HD.out]
              clear hown2 hgrow2 hfr2 HR HR2 HO
              go_wp2
              go_roundw
              case rel => first | exact .inl ⟨k + 1, i + 1, i + 1, _, by go_num, by go_num, by omega, by omega, HN.out (by omega), fun j h1 h2 => by omega, HD3.out, HP3.out, HR3.out⟩ | exact .inr ⟨_, by go_num, by rw [HP3.out, HLS.out (by first | trivial | rfl | omega)], HR3.out⟩
              case measure => first | (simp [intOf]; done) | (simp [intOf]; omega)
            · have SR : Hid (Srv wr (.slice (some (a.add s)) (i - s) (c - s)) (i - s) (bv (ln l k))) := by
                unfold Hid; rw [HLD.out]
                exact ((T1.out.tail hs).mid hin hsi).srv
              go_wp2_with (at_builtin; refine append_srv rfl (.tmp 24) (.tmp 28) 22 rfl wr.heap.size 5 i5 (.int .u8 0) 1 1 Tryz.underlying22 hi5 hz5 hs5 hb5 rfl (by decide) (.slice (some ⟨wr.heap.size, 0, none⟩) 0 0) 0 [] rfl (World.ownsRow_made wr #[] 0 (Nat.le_refl _) (by decide) rfl) (.slice (some (a.add s)) (i - s) (c - s)) (i - s) (bv (ln l k)) rfl (SR.out.keep (bAlloc (Below.refl _ _) _)) (by rw [bv_length]; have := HEL.out; omega) (bv_one _) (by unfold maxLen; omega) (by omega) (by simp) ?_)
              intro v1 w2 hown1 hgrow1 hfr1
              have e1 : (ln l k).length = i - s := by have := HEL.out; omega
              have hown1' : w2.ownsRow wr.heap.size 5 1 v1 (ln l k).length (bv (ln l k)) := by rw [e1]; simpa using hown1
              have hbel1 : Below wr.heap.size wr w2 := (bAlloc (Below.refl _ _) _).grown hgrow1 (by simp) (fun k hk => by simp [Value.ownBlock] at hk; omega)
              have HR2 : Hid (Rws w w2 (spl (.slice ax k cx) D ++ [brow (v1, ln l k)])) := HR.out.new hbel1 hown1'
              obtain ⟨a1, c1, ev1⟩ := own_shape hown1'
              subst ev1
              clear hown1' e1 hbel1
              clear hown1 hgrow1 hfr1
              have HO : Hid (w2.ownsRow w.heap.size 22 1 (.slice ax k cx) k (D.map (·.1))) := by have := HR2.out.own 0 _ rfl; unfold Hid; simpa [spl, vrow, HD.out] using this
              go_wp2_with (at_builtin; refine append_srv rfl (.tmp 30) (.tmp 32) 26 rfl w.heap.size 22 i22 (.slice none 0 0) 1 24 Tryz.underlying26 hi22 hz22 hs22 hb22 rfl (by decide) (.slice ax k cx) k (D.map (·.1)) rfl (HO.out.alloc _) (.slice (some ⟨w2.heap.size, 0, none⟩) 1 1) 1 [(Value.slice a1 (ln l k).length c1)] rfl (.inr ⟨⟨w2.heap.size, 0, none⟩, 1, rfl, fun j t hj => lit_cells w2 _ 22 j t hj⟩) rfl ?r1 ?r2 ?r3 ?r4 ?_)
              case r1 => intro u hu; simp at hu; subst hu; rfl
              case r2 => unfold maxLen; omega
              case r3 => omega
              case r4 => have := HR2.out.bel.size; simp; omega
              intro v2 w3 hown2 hgrow2 hfr2
              have HR3 : Hid (Rws w w3 (spl v2 (D ++ [((Value.slice a1 (ln l k).length c1), ln l k)]))) := by
                have h1 := (HR2.out.alloc (.cells #[(Value.slice a1 (ln l k).length c1)] 22)).grow (i := 0) (r := vrow (.slice ax k cx) D) rfl hgrow2 hown2 (by rcases hfr2 with e | ⟨q, e, hq⟩; exact .inl e; exact .inr ⟨q, e, by simpa using hq⟩)
                have e3 : (spl (.slice ax k cx) D ++ [brow ((Value.slice a1 (ln l k).length c1), ln l k)]).set 0 ⟨22, 1, v2, k + 1, D.map (·.1) ++ [(Value.slice a1 (ln l k).length c1)]⟩ = spl v2 (D ++ [((Value.slice a1 (ln l k).length c1), ln l k)]) := by
                  unfold spl vrow
                  simp [HD.out]
                rw [e3] at h1
                exact h1
              have HP3 : Hid ((D ++ [((Value.slice a1 (ln l k).length c1), ln l k)]).map (·.2) = lns l (k + 1)) := by unfold Hid; rw [lns_succ, List.map_append, HP.out]; rfl
              have HD3 : Hid ((D ++ [((Value.slice a1 (ln l k).length c1), ln l k)]).length = k + 1) := by unfold Hid; simp [HD.out]
              clear hown2 hgrow2 hfr2 HR HR2 HO
              go_wp2
              go_roundw
              case rel => first | exact .inl ⟨k + 1, i + 1, i + 1, _, by go_num, by go_num, by omega, by omega, HN.out (by omega), fun j h1 h2 => by omega, HD3.out, HP3.out, HR3.out⟩ | exact .inr ⟨_, by go_num, by rw [HP3.out, HLS.out (by first | trivial | rfl | omega)], HR3.out⟩
              case measure => first | (simp [intOf]; done) | (simp [intOf]; omega)
      · have hlt : i < n := by
          rcases Nat.lt_or_ge i n with h | h
          · exact h
          · exact absurd (.inl (by omega)) hstop
        have hno10 : le (at8 l i) = false := by
          cases h : le (at8 l i) with
          | false => rfl
          | true => exact absurd (.inr h) hstop
        obtain ⟨g, o, rfl, hc⟩ := T1.out.at (by omega)
        have hc0 := hc i hlt
        have h10 : (((at8 l i).toNat : Int) == 10) = false := hno10
        have hin2 : (i : Int) < (n : Int) := by omega
        have hin3 : ((i : Int) == (n : Int)) = false := by rw [beq_eq_false_iff_ne]; omega
        have HN2 : Hid (∀ j, s ≤ j → j < i + 1 → le (at8 l j) = false) := fun j h1 h2 => by
          rcases Nat.lt_or_ge j i with h | h
          · exact HNo.out j h1 h
          · obtain rfl : j = i := by omega
            exact hno10
        clear hc hno10 hstop
        go_wp2
        go_roundw
        case rel => exact .inl ⟨k, s, i + 1, D, rfl, by go_num, by omega, by omega, HS.out, HN2.out, HD.out, HP.out, HR.out⟩
        case measure => first | (simp [intOf]; done) | (simp [intOf]; omega)
    · have HR := Hid.mk' hR
      have HD := Hid.mk' hD
      clear hR hD
      have h1 : ¬ ((n : Int) + 1 ≤ (n : Int)) := by omega
      go_wp2
      go_ret
      first | exact ⟨u3, D, rfl, HR.out, HD.out⟩ | exact ⟨u3, rfl, D, HR.out, HD.out⟩
end Go.Proofs.YtppefcnopkmhbaaGreatDoor

namespace Go.Proofs.YtppefcnopkmhbaaGreatDoor
open Go.RowKit

set_option maxRecDepth 8000
theorem own_at {W : World} {base t k : Nat} {v : Value} {xs : List Value} {i : Nat} {x : Value} (h : W.ownsRow base t 1 v k xs) (hx : xs[i]? = some x) : ∃ g c, v = .slice (some ⟨g, 0, none⟩) k c ∧ W.cell? ⟨g, i, none⟩ = some x := by
  have hi := (List.getElem?_eq_some_iff.1 hx).1
  have h1 := h.1
  rcases h.2 with ⟨rfl, rfl⟩ | ⟨g, cap, cur, rfl, h2⟩
  · omega
  · exact ⟨g, cap, rfl, by rw [h.cellAt i (by omega)]; exact hx⟩
/-- the lines of a text, laid as a list of lists -/
def Lnz (W : World) (g : Nat) (l : List UInt8) : Prop := ∀ i, i ≤ nl l → ∃ a c, W.cell? ⟨g, i, none⟩ = some (.slice a (ln l i).length c) ∧ Tx W a (ln l i).length c (ln l i)
theorem Lnz.keep {W W' : World} {g : Nat} {l : List UInt8} (h : Lnz W g l) (hb : Below W.heap.size W W') : Lnz W' g l := fun i hi => by
  obtain ⟨a, c, h1, h2⟩ := h i hi
  exact ⟨a, c, cell_keep h1 hb, h2.keep hb⟩
theorem lnz_of {w W : World} {v : Value} {D : List (Value × List UInt8)} {l : List UInt8} (hl : l.length ≤ 1048576) (h : Rws w W (spl v D)) (hD : D.map (·.2) = lns l (nl l + 1)) : ∃ g c, v = .slice (some ⟨g, 0, none⟩) (nl l + 1) c ∧ Lnz W g l := by
  have hn : D.length = nl l + 1 := by rw [← List.length_map (f := fun x : Value × List UInt8 => x.2), hD, lns_length]
  have h0 : W.ownsRow w.heap.size 22 1 v D.length (D.map (·.1)) := h.own 0 _ rfl
  have hat : ∀ i, i ≤ nl l → ∃ x, D[i]? = some x ∧ x.2 = ln l i := fun i hi => by
    refine ⟨D[i], List.getElem?_eq_getElem (by omega), ?_⟩
    have e : (D.map (·.2))[i]? = (lns l (nl l + 1))[i]? := by rw [hD]
    rw [List.getElem?_map, List.getElem?_eq_getElem (by omega)] at e
    unfold lns at e
    rw [List.getElem?_map, List.getElem?_range (by omega)] at e
    exact Option.some.inj e
  obtain ⟨x, hx, -⟩ := hat 0 (Nat.zero_le _)
  obtain ⟨g, c, rfl, -⟩ := own_at (i := 0) (x := x.1) h0 (by rw [List.getElem?_map, hx]; rfl)
  refine ⟨g, c, by rw [hn], fun i hi => ?_⟩
  obtain ⟨y, hy, hy2⟩ := hat i hi
  obtain ⟨g', c', e, hc⟩ := own_at (i := i) (x := y.1) h0 (by rw [List.getElem?_map, hy]; rfl)
  injection e with e1 e2 e3
  injection e1 with e1
  injection e1 with e1
  subst e1
  have hr := h.own (i + 1) (brow y) (by show (D.map brow)[i]? = _; rw [List.getElem?_map, hy]; rfl)
  obtain ⟨a, b, e4⟩ := own_shape hr
  have e5 : y.1 = .slice a y.2.length b := e4
  rw [hy2] at e5
  rw [e5] at hc
  refine ⟨a, b, hc, ?_⟩
  have hr2 : W.ownsRow w.heap.size 5 1 (.slice a (ln l i).length b) (ln l i).length (bv (ln l i)) := by
    have : W.ownsRow w.heap.size 5 1 y.1 y.2.length (bv y.2) := hr
    rwa [hy2, e5] at this
  exact own_tx' hr2 (by have := ln_length hi; have := en_le (sp_le hi); omega)
/-- a readable list of edits is answered -/
def RpQ (D : List Ed) (w : World) (e : Ending) (w' : World) : Prop := ∃ eo ec F, e = .returned (.slice eo F.length ec) ∧ F.map Er.d = D ∧ Edz w' eo F ∧ Below w.heap.size w w'
theorem hdO_2 (q : Nat) (p : List UInt8) : (hdO q p).2 = 0 := rfl
theorem shf_out (q : Nat) (l : List UInt8) : ∀ (m i : Nat) (g : Int), g ≤ 0 → ∃ D, shf (hdO q) l m i g = some D
  | 0, _, _, _ => ⟨[], rfl⟩
  | m + 1, i, g, h => by
    obtain ⟨D, hD⟩ := shf_out q l m (i + 1) (g + (((hdO q (ln l i)).2 : Int) - ((hdO q (ln l i)).1 : Int))) (by rw [hdO_2]; omega)
    unfold shf
    rw [if_neg (by rw [hdO_2]; omega), hD]
    exact ⟨_, rfl⟩
theorem shf_out_next {q : Nat} {l : List UInt8} {m i : Nat} {g : Int} (hg : g ≤ 0) : shf (hdO q) l (m + 1) i g = (shf (hdO q) l m (i + 1) (g - (mgn (ln l i) q 0 : Int))).map fun D => (if 0 < mgn (ln l i) q 0 then [⟨(sp l i : Int) + g, (ln l i).take (mgn (ln l i) q 0), []⟩] else []) ++ D := by
  conv => lhs; unfold shf
  rw [if_neg (by rw [hdO_2]; omega), hdO_2]
  have e1 : (hdO q (ln l i)).1 = mgn (ln l i) q 0 := rfl
  rw [e1, show g + (((0 : Nat) : Int) - (mgn (ln l i) q 0 : Int)) = g - (mgn (ln l i) q 0 : Int) by omega, Nat.add_zero, rp_nil [9] 0 rfl]
set_option maxHeartbeats 8000000 in
set_option linter.unusedSimpArgs false in
theorem rpulled_any (ao : Option Addr) (n c a b q : Nat) (l : List UInt8) (w : World) (HT : Hid (Tx w ao n c l)) (hbig : n ≤ 1048576) (hab : a ≤ b) (hbn : b ≤ nl l) (hq : q ≤ 9999) {D : List Ed} (hD : shf (hdO q) l (b + 1 - a) a 0 = some D) :
    Calls Tryz.prog 33 #[.slice ao n c, .int .i64 (a : Int), .int .i64 (b : Int), .int .i64 (q : Int)] w fun e w' => RpQ D w e w' := by
  have HLN := Hid.mk' HT.out.len
  have hnl := nl_le l
  rw [HLN.out] at hnl
  have HNL := Hid.mk' hnl
  have HAB := Hid.mk' hab
  have HBN := Hid.mk' hbn
  have HDD := Hid.mk' hD
  have CSP := Hid.mk' (refSplit_any ao n c l w (by omega) HT)
  have CST : Hid (∀ W, Below w.heap.size w W → Calls Tryz.prog 45 #[.slice ao n c, .int .i64 (a : Int)] W fun e w' => e = .returned (.tuple #[.int .i64 (sp l a : Int), .int .i64 0]) ∧ w' = W) := fun W hW => by
    have h := rstart_call (i := a) (HT.out.keep hW) hbig (by omega)
    rw [if_pos (by omega), if_pos (by omega)] at h
    exact h
  clear hD HT
  go_enter Tryz.func33, Tryz.ntmps33
  go_wp2_with fail
  refine CSP.out.mono ?_
  rintro e w2 ⟨v, DD, rfl, hR, hM⟩
  obtain ⟨gl, gc, rfl, hZ⟩ := lnz_of (by rw [HLN.out]; exact hbig) hR hM
  have LZ := Hid.mk' hZ
  have B2 := Hid.mk' hR.bel
  clear hR hM hZ CSP
  go_wp2_with fail
  refine (CST.out w2 B2.out).mono ?_
  rintro e w' ⟨rfl, hw⟩
  have hq9 := hw.symm
  subst hq9
  clear hw CST
  go_wp2_with fail
  obtain ⟨gg, hgg⟩ : ∃ g, b + 1 - a = g := ⟨_, rfl⟩
  have HG := Hid.mk' hgg
  rw [hgg] at HDD
  clear hgg
  have hsa := sp_le (t := l) (n := a) (by omega)
  rw [HLN.out] at hsa
  obtain ⟨ln9, hln9⟩ : ∃ x, nl l + 1 = x := ⟨_, rfl⟩
  rw [hln9]
  go_loopg [10, 11, 13] gg (fun M x10 x11 x13 wx => ∃ (i : Nat) (g pos : Int) (F : List Er) (DD : List Ed) (v0 : Value), x10 = v0 ∧ x11 = .int .i64 pos ∧ x13 = .int .i64 ((a + i : Nat) : Int) ∧ i + M = gg ∧ Hid (0 < M → pos = (sp l (a + i) : Int) + g) ∧ 0 ≤ pos ∧ pos ≤ (n : Int) + 1 ∧ g ≤ 0 ∧ Hid (F.map Er.d = DD) ∧ F.length ≤ i ∧ Hid (some D = (shf (hdO q) l M (a + i) g).map (DD ++ ·)) ∧ Hid (Eds wx w2.heap.size wx.heap.size v0 F) ∧ Hid (Below w2.heap.size w2 wx))
  case atStart => exact ⟨0, 0, (sp l a : Int), [], [], .slice none 0 0, rfl, rfl, rfl, by omega, fun _ => by simp, by omega, by omega, Int.le_refl _, rfl, Nat.le_refl _, by unfold Hid; rw [Nat.add_zero, HDD.out]; rfl, Eds.nil _ _ _, Below.refl _ _⟩
  case round =>
    obtain ⟨i, g, pos, F, DD, v0, rfl, rfl, rfl, him, HPO, hp0, hpn, hg0, HFD, hFi, HSH, KE, KB⟩ := hrel
    have hgb : a + gg = b + 1 := by have := HG.out; have := HAB.out; omega
    cases gk with
    | zero =>
      have hik : ¬ ((a + i : Nat) : Int) ≤ (b : Int) := by omega
      have HD2 : Hid (D = DD) := by have := HSH.out; unfold Hid; simpa [shf] using this
      obtain ⟨eo, ec, rfl, hEz, -⟩ := KE.out.edz
      have EZ := Hid.mk' hEz
      clear hEz HSH HPO HDD KE
      go_wp2
      go_ret
      exact ⟨eo, ec, F, rfl, by rw [HD2.out]; exact HFD.out, EZ.out, bT B2.out KB.out⟩
    | succ go =>
      have hik : ((a + i : Nat) : Int) ≤ (b : Int) := by omega
      have hil : a + i ≤ nl l := by have := HBN.out; omega
      obtain ⟨la, lc, hcell, hTl⟩ := (LZ.out.keep KB.out) (a + i) hil
      have hi0 : (0 : Int) ≤ ((a + i : Nat) : Int) := by omega
      have hin : ((a + i : Nat) : Int) < (ln9 : Int) := by omega
      have hpos := HPO.out (Nat.succ_pos _)
      have hll := ln_length hil
      have hsl := sp_le hil
      have hel := en_le hsl
      have hge := en_ge l (sp l (a + i))
      have HNX : Hid (0 < go → sp l (a + (i + 1)) = en l (sp l (a + i)) + 1) := fun hgo => by
        have := HBN.out
        exact (sp_next (l := l) (i := a + i) (by omega)).2
      have hmg := (mgn_le (ln l (a + i)) q 0 (Nat.zero_le _)).2
      have HSH2 := HSH
      rw [shf_out_next hg0] at HSH2
      rw [HLN.out] at hsl hel
      have HTL := Hid.mk' hTl
      obtain ⟨a3, c3, hs3, hT3⟩ := sl_h hTl hmg
      have T3 := Hid.mk' hT3
      have CH := Hid.mk' (rhead_any la (ln l (a + i)).length lc q (ln l (a + i)) wr HTL (by omega) hq)
      obtain ⟨ee, hee⟩ : ∃ x, en l (sp l (a + i)) = x := ⟨_, rfl⟩
      obtain ⟨s, hs⟩ : ∃ x, sp l (a + i) = x := ⟨_, rfl⟩
      obtain ⟨P, hP⟩ : ∃ x, ln l (a + i) = x := ⟨_, rfl⟩
      obtain ⟨h, hh⟩ : ∃ x, mgn P q 0 = x := ⟨_, rfl⟩
      rw [hP] at hcell hll hmg HSH2 hs3 T3 CH
      rw [hee] at hll hel hge HNX
      rw [hs] at hpos hll hsl hge HSH2
      rw [hh] at hmg HSH2 hs3 T3 CH
      obtain ⟨m, hm⟩ : ∃ x, P.length = x := ⟨_, rfl⟩
      rw [hm] at hcell hll hmg hs3 CH
      have HPL := Hid.mk' hm
      have hPX := Hid.mk' hP
      subst hpos
      have hml : m + s = ee := by omega
      clear hll
      have hw1 : IntKind.i64.wrap (((a + i : Nat) : Int) + 1) = ((a + (i + 1) : Nat) : Int) := by rw [IntKind.wrap_i64]; omega
      have hw2 : IntKind.i64.wrap ((s : Int) + g + (m : Int)) = (s : Int) + g + (m : Int) := by rw [IntKind.wrap_i64]; omega
      have hw3 : IntKind.i64.wrap ((s : Int) + g + (m : Int) - (h : Int)) = (s : Int) + g + (m : Int) - (h : Int) := by rw [IntKind.wrap_i64]; omega
      have hw4 : IntKind.i64.wrap ((s : Int) + g + (m : Int) - (h : Int) + 1) = (s : Int) + g + (m : Int) - (h : Int) + 1 := by rw [IntKind.wrap_i64]; omega
      clear HSH HPO hTl hT3 HTL hee hs hP hh hm
      by_cases h0 : 0 < h
      · have h0' : (0 : Int) < (h : Int) := by omega
        rw [if_pos h0] at HSH2
        have CC := Hid.mk' (rcop_any a3 h c3 (P.take h) wr (by omega) T3)
        have HPT : Hid ((P.take h).length = h) := by unfold Hid; rw [List.length_take, HPL.out]; omega
        go_upto_region 7 with fail
        skip
        go_wp2_with fail
        skip
        refine CH.out.mono ?_
        rintro e w' ⟨rfl, hw⟩
        have hq9 := hw.symm
        subst hq9
        clear hw CH
        go_upto_region 9 with fail
        skip
        go_wp2_with fail
        skip
        refine CC.out.mono ?_
        rintro e w4 ⟨v4, rfl, hO4, hb4⟩
        obtain ⟨p4, d4, rfl⟩ := own_shape hO4
        have W4 : Hid (Wb w4 wr.heap.size w4.heap.size (.slice p4 h d4) (P.take h)) := Wb.new hO4
        have B4 := Hid.mk' hb4
        clear hO4 hb4 CC
        have W5 : Hid (Wb w4 wr.heap.size w4.heap.size (.slice p4 (P.take h).length d4) (P.take h)) := by unfold Hid; rw [HPT.out]; exact W4.out
        obtain ⟨v9, w9, hr9, hE9, hs9, hb9⟩ := ape_step (w3 := wr) (w6 := w4) (m := w4.heap.size) (X := P.take h) (Y := []) (p2 := none) (d2 := 0) KE.out KB.out.size B4.out W5.out (Wb.nil _ _ _) B4.out.size (Nat.le_refl _) (by rw [HPT.out]; omega) (Nat.zero_le _) (by omega) ((s : Int) + g)
        rw [HPT.out] at hr9
        have L9 := Hid.mk' (hb9 w2 w2.heap.size (Nat.le_refl _) KB.out)
        have E9 := Hid.mk' hE9
        obtain ⟨la2, lc2, hcell2, -⟩ := (LZ.out.keep L9.out) (a + i) hil
        rw [hPX.out, HPL.out] at hcell2
        clear hb9 hE9 hs9 W4 W5 T3
        go_wp2_with (first | (at_builtin; refine wl_ape rfl _ _ rfl _ _ rfl rfl hr9 ?_; clear hr9) | fail)
        go_roundg go
        case measure => omega
        case rel =>
          refine ⟨i + 1, g - (h : Int), (s : Int) + g + (m : Int) - (h : Int) + 1, _, DD ++ [⟨(s : Int) + g, P.take h, []⟩], v9, rfl, by go_num, by go_num, by omega, fun hgo => by have := HNX.out hgo; omega, by omega, by omega, by omega, ?_, by rw [List.length_append]; simp; omega, ?_, E9.out, L9.out⟩
          · unfold Hid; rw [List.map_append, HFD.out]; rfl
          · unfold Hid; rw [HSH2.out, Option.map_map, Nat.add_assoc]; congr 1; funext D; simp
      · have h0' : ¬ (0 : Int) < (h : Int) := by omega
        rw [if_neg h0] at HSH2
        go_wp2_with (first | (go_at_call 64; refine CH.out.mono ?_; rintro e w' ⟨rfl, hw⟩; have hq9 := hw.symm; subst hq9; clear hw CH) | fail)
        go_roundg go
        case measure => omega
        case rel =>
          refine ⟨i + 1, g - (h : Int), (s : Int) + g + (m : Int) - (h : Int) + 1, F, DD, _, rfl, by go_num, by go_num, by omega, fun hgo => by have := HNX.out hgo; omega, by omega, by omega, by omega, HFD.out, by omega, ?_, KE.out, KB.out⟩
          · unfold Hid; rw [HSH2.out, Option.map_map, Nat.add_assoc]; (try congr 1); (try (funext D; simp))
end Go.Proofs.YtppefcnopkmhbaaGreatDoor
