/- The walk of quoinlaw06.ClassKeeps: it answers true. -/
import Derived.Test.YtcjlkcpmljddfaaKeepsKit
namespace Go.Proofs.Ytcjlkcpmljddfaa
open Go.RowKit

set_option maxRecDepth 100000 in
set_option maxHeartbeats 4000000 in
theorem classKeeps_walk (ao : Option Addr) (n c : Nat) (l : List UInt8) (big : Bool) (w : World) (hn : n ≤ 1048576) (HT : Hid (Tx w ao n c l)) :
    Calls Try.prog 7 #[.slice ao n c, .bool big] w fun e w' => e = .returned (.bool true) ∧ Below w.heap.size w w' := by
  obtain ⟨i5, hi5, hz5, hs5, hb5⟩ := info_parts info5
  obtain ⟨i3, hi3, hz3, hs3, hb3⟩ := info_parts info3
  have hlen := Hid.mk' HT.out.len
  have HL := Hid.mk' (rn_len (kn l big) n n)
  go_enter Try.func7, Try.ntmps7
  go_wp2_with fail
  refine (awake_any _).mono ?_
  rintro e w' ⟨rfl, hw⟩; have hq := hw.symm; subst hq; clear hw
  go_wp2_with (at_builtin; refine append_srv rfl (.tmp 14) (.tmp 15) 28 rfl w.heap.size 5 i5 (.int .u8 0) 1 1 Try.underlying28 hi5 hz5 hs5 hb5 rfl (by decide) (.slice (some ⟨w.heap.size, 0, none⟩) 0 0) 0 [] rfl (World.ownsRow_made w #[] 0 (Nat.le_refl _) (by decide) rfl) (.slice ao n c) n (bv l) rfl (HT.out.srv.keep (bAlloc (Below.refl _ _) _)) (by rw [bv_length]; have := hlen.out; omega) (bv_one _) (by unfold maxLen; omega) (by omega) (by simp) ?_)
  intro v3 w3 hown3 hgrow3 hfr3
  clear hfr3
  have hbel3 : Below w.heap.size w w3 := (bAlloc (Below.refl _ _) _).grown hgrow3 (by simp) (fun k hk => by simp [Value.ownBlock] at hk; omega)
  have HO3 : Hid (w3.ownsRow w.heap.size 5 1 v3 n (bv l)) := by unfold Hid; simpa using hown3
  have HB3 := Hid.mk' hbel3
  obtain ⟨a3, c3, hv3⟩ := own_shape HO3.out
  subst hv3
  clear hown3 hgrow3 hbel3
  go_wp2_with (at_builtin; refine append_srv rfl (.tmp 16) (.tmp 17) 28 rfl w.heap.size 5 i5 (.int .u8 0) 1 1 Try.underlying28 hi5 hz5 hs5 hb5 rfl (by decide) (.slice a3 n c3) n (bv l) rfl (HO3.out.alloc _) (.slice (some ⟨w3.heap.size, 0, none⟩) 2 2) 2 [.int .u8 200, .int .u8 201] rfl (.inr ⟨⟨w3.heap.size, 0, none⟩, 2, rfl, fun j t hj => lit_cells w3 _ 5 j t hj⟩) rfl (by intro u hu; simp at hu; rcases hu with rfl | rfl <;> rfl) (by unfold maxLen; omega) (by omega) (by have := HB3.out.size; simp; omega) ?_)
  intro v4 w4 hown4 hgrow4 hfr4
  clear hfr4
  have hbel4 : Below w.heap.size w w4 := (bAlloc HB3.out _).grown hgrow4 (by have := HB3.out.size; simp; omega) (fun k hk => (HO3.out.lt k hk).1)
  obtain ⟨gF, cF, hv4, hcF, -⟩ := own_some hown4 (by omega)
  subst hv4
  have RF : Hid (Rws w w4 [⟨5, 1, .slice (some ⟨gF, 0, none⟩) (n + 2) cF, n + 2, bv l ++ [.int .u8 200, .int .u8 201]⟩]) := (Rws.nil w).new hbel4 hown4
  have txF : ∀ W, W.ownsRow w.heap.size 5 1 (.slice (some ⟨gF, 0, none⟩) (n + 2) cF) (n + 2) (bv l ++ [.int .u8 200, .int .u8 201]) → Tx W (some ⟨gF, 0, none⟩) n cF l := fun W hW => by
    refine ⟨hlen.out, by omega, by omega, (fun h => by cases h), fun a ha j hj => ?_⟩
    obtain rfl : (⟨gF, 0, none⟩ : Addr) = a := by simpa using ha
    rw [add_none, Nat.zero_add, hW.cellAt j (by omega), List.getElem?_append_left (by rw [bv_length, hlen.out]; exact hj)]
    exact bv_at l j (by rw [hlen.out]; exact hj)
  have HTF := Hid.mk' txF
  have TF := Hid.mk' (txF w4 hown4)
  clear hown4 hgrow4 hbel4 HO3 HB3 txF
  have hncF : (n : Int) ≤ (cF : Int) := by omega
  have hn0 : (0 : Int) ≤ (n : Int) := by omega
  have hn2 : (n : Int) ≤ 1048576 := by omega
  go_wp2_with fail
  have RD := Hid.mk' RF.out.drew
  have TD := Hid.mk' (HTF.out _ (RD.out.own 0 _ rfl))
  clear RF TF
  go_region_held3 (fun _ => True) (trivial)
    (first | (go_at_call 21; refine (runs_any _ n cF l big _ (by omega) TD).mono ?_; rintro e w5 ⟨va, rfl, hOa, hba⟩; obtain ⟨aa, ca, ea⟩ := own_shape hOa; subst ea; have RA := Hid.mk' (RD.out.new hba hOa); have T5 := Hid.mk' (HTF.out _ (RA.out.own 0 _ rfl)); clear hOa hba RD TD)
           | (go_at_call 21; refine (runs_any _ n cF l big _ (by omega) T5).mono ?_; rintro e w6 ⟨vb, rfl, hOb, hbb⟩; obtain ⟨ab, cb, eb⟩ := own_shape hOb; subst eb; have R6 := Hid.mk' (RA.out.new hbb hOb); clear hOb hbb RA T5))
  generalize hE : rn (kn l big) n n = E at *
  have HE := Hid.mk' hE
  clear hE
  have R6' : Hid (Rws w w6 [⟨5, 1, .slice (some ⟨gF, 0, none⟩) (n + 2) cF, n + 2, bv l ++ [.int .u8 200, .int .u8 201]⟩, ⟨3, 1, .slice aa E.length ca, E.length, iv E⟩, ⟨3, 1, .slice ab E.length cb, E.length, iv E⟩]) := R6.out
  clear R6
  have hEl : (E.length : Int) ≤ 1048576 := by have := HL.out; omega
  have O6 := Hid.mk' (R6'.out.own 0 _ rfl)
  have V1 := conv_drew (HTF.out w6 O6.out)
  have V2 := conv_drew (HT.out.keep R6'.out.bel)
  have c1 : w6.cell? ⟨gF, n, none⟩ = some (.int .u8 200) := by rw [O6.out.cellAt n (by show n < (n + 2) * 1; omega)]; show (bv l ++ [Value.int .u8 200, Value.int .u8 201])[n]? = _; rw [List.getElem?_append_right (by rw [bv_length, hlen.out]; exact Nat.le_refl _), bv_length, hlen.out, Nat.sub_self]; rfl
  have c2 : w6.cell? ⟨gF, n + 1, none⟩ = some (.int .u8 201) := by rw [O6.out.cellAt (n + 1) (by show n + 1 < (n + 2) * 1; omega)]; show (bv l ++ [Value.int .u8 200, Value.int .u8 201])[n + 1]? = _; rw [List.getElem?_append_right (by rw [bv_length, hlen.out]; omega), bv_length, hlen.out, show n + 1 - n = 1 from by omega]; rfl
  have IA := Hid.mk' (own_ir (R6'.out.own 1 _ rfl) rfl)
  have IB := Hid.mk' (own_ir (R6'.out.own 2 _ rfl) rfl)
  have hw1 : IntKind.i64.wrap ((n : Int) + 1) = (n : Int) + 1 := by rw [IntKind.wrap_i64]; omega
  have hnn : (n : Int) < (n : Int) + 2 := by omega
  have hnm : (n : Int) + 1 < (n : Int) + 2 := by omega
  have hn1 : (0 : Int) ≤ (n : Int) + 1 := by omega
  go_wp2
  go_quiet ((go_at_call 20; exact Calls.quiet_of (same_drew _ _ E _ (by omega) (IA.out.keep (below_drewN _ _)) (IB.out.keep (below_drewN _ _)))))
  have R7 := Hid.mk' (R6'.out.keep (below_drewN w6 nq))
  clear R6' O6 V1 V2 c1 c2 IA IB
  generalize w6.drewN nq = w7 at *
  go_wp2_with (at_builtin; refine append_srv rfl (.tmp 62) (.tmp 63) 29 rfl w7.heap.size 3 i3 (.int .i64 0) 1 8 Try.underlying29 hi3 hz3 hs3 hb3 rfl (by decide) (.slice (some ⟨w7.heap.size, 0, none⟩) 0 0) 0 [] rfl (World.ownsRow_made w7 #[] 0 (Nat.le_refl _) (by decide) rfl) (.slice ab E.length cb) E.length (iv E) rfl ((own_srv (R7.out.own 2 _ rfl)).keep (bAlloc (Below.refl _ _) _)) (by rw [iv_length]; omega) (iv_one _) (by unfold maxLen; omega) (by omega) (by simp) ?_)
  intro v8 w8 hown8 hgrow8 hfr8
  clear hfr8
  have hbel8 : Below w7.heap.size w7 w8 := (bAlloc (Below.refl _ _) _).grown hgrow8 (by simp) (fun k hk => by simp [Value.ownBlock] at hk; omega)
  have HO8 : Hid (w8.ownsRow w7.heap.size 3 1 v8 E.length (iv E)) := by unfold Hid; simpa using hown8
  obtain ⟨aw, cw, hv8⟩ := own_shape HO8.out
  subst hv8
  have R8 : Hid (Rws w w8 [⟨5, 1, .slice (some ⟨gF, 0, none⟩) (n + 2) cF, n + 2, bv l ++ [.int .u8 200, .int .u8 201]⟩, ⟨3, 1, .slice aa E.length ca, E.length, iv E⟩, ⟨3, 1, .slice ab E.length cb, E.length, iv E⟩, ⟨3, 1, .slice aw E.length cw, E.length, iv E⟩]) := R7.out.new hbel8 HO8.out
  clear hown8 hgrow8 hbel8 HO8 R7
  go_wp2_with fail
  go_loopw [9] (fun x wr => ∃ (i : Nat) (ys : List Value), x = .int .i64 i ∧ i ≤ E.length ∧ Rws w wr [⟨5, 1, .slice (some ⟨gF, 0, none⟩) (n + 2) cF, n + 2, bv l ++ [.int .u8 200, .int .u8 201]⟩, ⟨3, 1, .slice aa E.length ca, E.length, ys⟩, ⟨3, 1, .slice ab E.length cb, E.length, iv E⟩, ⟨3, 1, .slice aw E.length cw, E.length, iv E⟩]) (fun x _ => E.length - (intOf x).toNat)
  case atStart => exact ⟨0, _, rfl, Nat.zero_le _, R8.out⟩
  case round =>
    obtain ⟨i, ys, rfl, hi, hR⟩ := hrel
    have R9 := Hid.mk' hR
    clear hR R8
    have hi0 : (0 : Int) ≤ (i : Int) := by omega
    by_cases hlt : i < E.length
    · have hi1 : (i : Int) < (E.length : Int) := by omega
      have O9 := Hid.mk' (R9.out.own 1 _ rfl)
      have hyl : Hid (ys.length = E.length) := by have := O9.out.1; unfold Hid; simpa using this
      obtain ⟨ga, ca', hva, -, -⟩ := own_some O9.out (show 1 ≤ E.length by omega)
      have hva2 : aa = some ⟨ga, 0, none⟩ := by simp at hva; exact hva.1
      subst hva2
      have hcz : ∃ z, wr.cell? ⟨ga, i, none⟩ = some z := ⟨_, by rw [O9.out.cellAt i (by show i < E.length * 1; omega)]; exact List.getElem?_eq_getElem (by have := hyl.out; show i < ys.length; omega)⟩
      obtain ⟨z, hcz⟩ := hcz
      have fz := O9.out.frozenAt i
      have R10 := Hid.mk' (R9.out.store (i := 1) rfl i (.int .i64 (-1)))
      clear hva
      go_wp2
      go_roundw
      case rel => exact ⟨i + 1, _, by go_num, by omega, R10.out⟩
      case measure => simp [intOf]; omega
    · have hi1 : ¬ (i : Int) < (E.length : Int) := by omega
      go_wp2_with fail
      go_loopw [6, 10] (fun x y wr => ∃ (k : Nat) (v : Value) (ys : List Value), x = v ∧ y = .int .i64 k ∧ k ≤ 20 ∧ Rws w wr [⟨5, 1, .slice (some ⟨gF, 0, none⟩) (n + 2) cF, n + 2, bv l ++ [.int .u8 200, .int .u8 201]⟩, ⟨3, 1, v, E.length + k, ys⟩, ⟨3, 1, .slice ab E.length cb, E.length, iv E⟩, ⟨3, 1, .slice aw E.length cw, E.length, iv E⟩]) (fun _ y _ => 20 - (intOf y).toNat)
      case atStart => exact ⟨0, _, _, rfl, rfl, Nat.zero_le _, R9.out⟩
      case round =>
        obtain ⟨k, v, ys, rfl, rfl, hk, hR⟩ := hrel
        have R11 := Hid.mk' hR
        clear hR R9
        obtain ⟨ax, cx, hv⟩ := own_shape (R11.out.own 1 _ rfl)
        simp only at hv
        subst hv
        have hk0 : (0 : Int) ≤ (k : Int) := by omega
        by_cases hlk : k < 20
        · have hk1 : (k : Int) < 20 := by omega
          go_wp2_with (at_builtin; refine append_srv rfl (.tmp 78) (.tmp 79) 29 rfl w.heap.size 3 i3 (.int .i64 0) 1 8 Try.underlying29 hi3 hz3 hs3 hb3 rfl (by decide) (.slice ax (E.length + k) cx) (E.length + k) ys rfl ((R11.out.own 1 _ rfl).alloc _) (.slice (some ⟨wr.heap.size, 0, none⟩) 1 1) 1 [.int .i64 (-2)] rfl (.inr ⟨⟨wr.heap.size, 0, none⟩, 1, rfl, fun j t hj => lit_cells wr _ 3 j t hj⟩) rfl ?r1 ?r2 ?r3 ?r4 ?_)
          case r1 => intro u hu; simp at hu; subst hu; rfl
          case r2 => unfold maxLen; omega
          case r3 => omega
          case r4 => have := R11.out.bel.size; simp; omega
          intro v12 w12 hown12 hgrow12 hfr12
          have R12 := Hid.mk' ((R11.out.alloc (.cells #[.int .i64 (-2)] 3)).grow (i := 1) rfl hgrow12 hown12 (by rcases hfr12 with e | ⟨q, e, hq⟩; exact .inl e; exact .inr ⟨q, e, by simpa using hq⟩))
          clear hown12 hgrow12 hfr12 R11
          go_wp2
          go_roundw
          case rel => exact ⟨k + 1, _, _, rfl, by go_num, by omega, R12.out⟩
          case measure => simp [intOf]; omega
        · have hk1 : ¬ (k : Int) < 20 := by omega
          obtain rfl : k = 20 := by omega
          go_wp2_with fail
          go_loopw [11] (fun x wr => ∃ (j : Nat) (zs : List Value), x = .int .i64 j ∧ j ≤ n ∧ Rws w wr [⟨5, 1, .slice (some ⟨gF, 0, none⟩) (n + 2) cF, n + 2, zs⟩, ⟨3, 1, .slice ax (E.length + 20) cx, E.length + 20, ys⟩, ⟨3, 1, .slice ab E.length cb, E.length, iv E⟩, ⟨3, 1, .slice aw E.length cw, E.length, iv E⟩]) (fun x _ => n - (intOf x).toNat)
          case atStart => exact ⟨0, _, rfl, Nat.zero_le _, R11.out⟩
          case round =>
            obtain ⟨j, zs, rfl, hj, hR⟩ := hrel
            have R13 := Hid.mk' hR
            clear hR R11
            have hj0 : (0 : Int) ≤ (j : Int) := by omega
            by_cases hlj : j < n
            · have hj1 : (j : Int) < (n : Int) := by omega
              have hj2 : (j : Int) < (n : Int) + 2 := by omega
              have O13 := Hid.mk' (R13.out.own 0 _ rfl)
              have hzl : Hid (zs.length = n + 2) := by have := O13.out.1; unfold Hid; simpa using this
              have hcz : ∃ z, wr.cell? ⟨gF, j, none⟩ = some z := ⟨_, by rw [O13.out.cellAt j (by show j < (n + 2) * 1; omega)]; exact List.getElem?_eq_getElem (by have := hzl.out; show j < zs.length; omega)⟩
              obtain ⟨z, hcz⟩ := hcz
              have fz := O13.out.frozenAt j
              have R14 := Hid.mk' (R13.out.store (i := 0) rfl j (.int .u8 10))
              go_wp2
              go_roundw
              case rel => exact ⟨j + 1, _, by go_num, by omega, R14.out⟩
              case measure => simp [intOf]; omega
            · have hj1 : ¬ (j : Int) < (n : Int) := by omega
              have IB := Hid.mk' (own_ir (R13.out.own 2 _ rfl) rfl)
              have IW := Hid.mk' (own_ir (R13.out.own 3 _ rfl) rfl)
              have B13 := Hid.mk' R13.out.bel
              clear R13
              go_wp2_with fail
              refine (same_any _ _ E _ (by omega) IB IW).mono ?_
              rintro e w14 ⟨rfl, hb14⟩
              have IW14 := Hid.mk' (IW.out.keep hb14)
              have B14 := Hid.mk' (bT B13.out hb14)
              have T14 := Hid.mk' (HT.out.keep B14.out)
              clear hb14 IB IW B13
              go_wp2_with fail
              refine (runs_any ao n c l big _ (by omega) T14).mono ?_
              rintro e w15 ⟨v15, rfl, hO15, hb15⟩
              rw [HE.out] at hO15
              obtain ⟨a15, c15, e15⟩ := own_shape hO15
              subst e15
              have I15 := Hid.mk' (own_ir hO15 rfl)
              have IW15 := Hid.mk' (IW14.out.keep hb15)
              have B15 := Hid.mk' (bT B14.out hb15)
              clear hO15 hb15 IW14 B14 T14
              go_wp2_with fail
              refine (same_any _ _ E _ (by omega) I15 IW15).mono ?_
              rintro e w16 ⟨rfl, hb16⟩
              have hge : (20 : Int) ≤ (E.length : Int) + 20 := by omega
              go_wp2
              go_ret
              exact ⟨rfl, bT B15.out hb16⟩
end Go.Proofs.Ytcjlkcpmljddfaa
