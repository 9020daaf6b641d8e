/- The walk of quoinlaw03.SpliceKeeps. -/
import Derived.Test.YtjjgloioppjcaaaKeepsKit
namespace Go.Proofs.Ytjjgloioppjcaaa
open Go.RowKit


set_option maxRecDepth 100000 in
set_option maxHeartbeats 8000000 in
theorem keeps_walk (v : Value) (L : List Sp) (a b s o l : Int) (w : World) (hl : l ≤ 9223372036854775807) (hz : L.length ≤ 1048576) (hg : Hid (Rng L)) (hr : Hid (Rdb w v L)) (hn0 : Hid (∀ n c, v = .slice none n c → c = 0)) :
    Calls Try.prog 8 #[v, .int .i64 a, .int .i64 b, .agg #[.int .i64 s, .int .i64 o, .int .i64 l]] w fun e w' => e = .returned (.bool true) ∧ Below w.heap.size w w' := by
  obtain ⟨w0, hw0⟩ : ∃ w0, w0 = w.alloc (.cells #[.int .i64 s, .int .i64 o, .int .i64 l] 39) := ⟨_, rfl⟩
  have HW0 := Hid.mk' hw0
  have hr0 : Hid (Rdb w0 v L) := by unfold Hid; rw [hw0]; exact hr.out.keep (bAlloc (Below.refl _ _) _)
  obtain ⟨i39, hi39, hz0, hz1, hz2⟩ := info_parts info39
  obtain ⟨i22, hi22, hy0, hy1, hy2⟩ := info_parts info22
  have I39 := Hid.mk' (And.intro hi39 (And.intro hz0 (And.intro hz1 hz2)))
  have I22 := Hid.mk' (And.intro hi22 (And.intro hy0 (And.intro hy1 hy2)))
  have hd := Hid.mk' (delcut (L := L) a b hz)
  have HD : Hid (∀ W, Below w0.heap.size w0 W → W.cell? ⟨w.heap.size, 0, none⟩ = some (.int .i64 s) ∧ W.cell? ⟨w.heap.size, 1, none⟩ = some (.int .i64 o) ∧ W.cell? ⟨w.heap.size, 2, none⟩ = some (.int .i64 l)) := by (unfold Hid; rw [hw0]; exact fun W h => three h)
  clear hw0 hi39 hz0 hz1 hz2 hi22 hy0 hy1 hy2
  obtain ⟨av, cv, hv⟩ : ∃ av cv, v = .slice av L.length cv := rdb_shape hr.out
  subst hv
  go_enter Try.func8, Try.ntmps8
  go_wp2_with (first | (go_at_call 9; (have Q := awake_any w0); (rw [HW0.out] at Q); refine Q.mono ?_; clear Q; rintro e w9 ⟨rfl, k9⟩; (have H9 : Hid (Rws w0 w9 []) := by (unfold Hid; rw [HW0.out]; exact (Rws.nil _).keep k9)); clear k9)
                     | (at_builtin; refine append_srv rfl (.tmp 38) (.tmp 39) 22 rfl w9.heap.size 39 i39 (.agg #[.int .i64 0, .int .i64 0, .int .i64 0]) 3 24 Try.underlying22 I39.out.1 I39.out.2.1 I39.out.2.2.1 I39.out.2.2.2 rfl (by decide) (.slice (some ⟨w9.heap.size, 0, none⟩) 0 0) 0 [] rfl (World.ownsRow_made w9 #[] 0 (Nat.le_refl _) (by decide) rfl) (.slice av L.length cv) L.length (cells L) rfl ((rdb_srv (hr0.out.keep H9.out.bel) hn0.out).keep (bAlloc (Below.refl _ _) _)) (cells_length L) (cells_one L) ?qa1 ?qa2 (by simp) ?_))
  case qa1 => unfold maxLen; omega
  case qa2 => omega
  intro v1 w1 hown1 hgrow1 hf1
  have A1 : Hid (w1.ownsRow w9.heap.size 39 3 v1 L.length (cells L) ∧ Below w9.heap.size w9 w1) := ⟨by simpa using hown1, (bAlloc (Below.refl _ _) _).grown hgrow1 (by simp) (fun k hk => by simp [Value.ownBlock] at hk; omega)⟩
  clear hown1 hgrow1 hf1
  go_wp2_with (at_builtin; refine append_srv rfl (.tmp 40) (.tmp 43) 22 rfl w9.heap.size 39 i39 (.agg #[.int .i64 0, .int .i64 0, .int .i64 0]) 3 24 Try.underlying22 I39.out.1 I39.out.2.1 I39.out.2.2.1 I39.out.2.2.2 rfl (by decide) v1 L.length (cells L) rfl (A1.out.1.alloc _) (.slice (some ⟨w1.heap.size, 0, none⟩) 2 2) 2 (cells marks) rfl (.inr ⟨⟨w1.heap.size, 0, none⟩, 2, rfl, fun j t hj => lit_cells w1 _ 39 j t hj⟩) rfl (cells_one marks) ?qb1 ?qb2 ?qb3 ?_)
  case qb1 => unfold maxLen; omega
  case qb2 => omega
  case qb3 => have := A1.out.2.size; simp; omega
  intro v2 w2 hown2 hgrow2 hf2
  rw [← cells_append] at hown2
  have A2 : Hid (w2.ownsRow w9.heap.size 39 3 v2 (L.length + 2) (cells (L ++ marks)) ∧ Below w9.heap.size w9 w2) := ⟨hown2, (bAlloc A1.out.2 _).grown hgrow2 (by have := A1.out.2.size; simp; omega) (fun k hk => (A1.out.1.lt k hk).1)⟩
  clear hown2 hgrow2 hf2 A1
  obtain ⟨gR, cR, hv2, hc1, hc2⟩ : ∃ g c, v2 = .slice (some ⟨g, 0, none⟩) (L.length + 2) c ∧ L.length + 2 ≤ c ∧ c ≤ maxLen := by
    rcases A2.out.1.2 with ⟨_, h0⟩ | ⟨g, c, cur, e, _, _, h1, h2, _⟩
    · omega
    · exact ⟨g, c, e, h1, h2⟩
  subst hv2
  have RR : Hid (Rws w0 w2 (St (rooms gR cR L) (.slice none 0 0) (.slice none 0 0) [] [])) := by
    have h1 := H9.out.new A2.out.2 A2.out.1
    have h2 := (h1.new (Below.refl _ _) (World.ownsRow_nil _ _ 22 1)).new (Below.refl _ _) (World.ownsRow_nil _ _ 22 1)
    have e : (L ++ marks).length = L.length + 2 := by simp [marks]
    unfold Hid
    unfold St rooms sprow vrow
    rw [e]
    exact h2
  clear A2 H9
  have j1 : (0 : Int) ≤ (L.length : Int) := by omega
  have j2 : (L.length : Int) ≤ (cR : Int) := by omega
  clear hc1
  have l1 := packA_length L
  have l2 := cut1_length L a
  have l3 := cut2_length L a
  have l4 := insL_length L a ⟨s, o, l⟩
  have l5 := delL_length L a b
  have l6 := slcL_length L a b
  generalize h1 : packA L = A1 at *
  generalize h2 : cut1 L a = A2 at *
  generalize h3 : cut2 L a = A3 at *
  generalize h4 : insL L a ⟨s, o, l⟩ = A4 at *
  generalize h5 : delL L a b = A5 at *
  generalize h6 : slcL L a b = A6 at *
  generalize h7 : rfs L a a = R1 at *
  have hrb : rfs L a b = rfs L a b := rfl
  generalize h8 : rfs L a b = R2 at *
  generalize h9 : insE L a ⟨s, o, l⟩ = R3 at *
  have E1 := Hid.mk' h1
  have E2 := Hid.mk' h2
  have E3 := Hid.mk' h3
  have E4 := Hid.mk' h4
  have E5 := Hid.mk' h5
  have E6 := Hid.mk' h6
  have E7 := Hid.mk' h7
  have E8 := Hid.mk' h8
  have E9 := Hid.mk' h9
  clear h1 h2 h3 h4 h5 h6 h7 h8 h9 hrb
  go_wp2_with fail
  go_loopw [11, 13] (fun x i wr => ∃ k : Nat, k ≤ 2 ∧ i = .int .i64 k ∧ ∃ D : List (Value × List Sp), D.map (·.2) = (List.replicate k [A1, A2, A3, A4, A5, A6]).flatten ∧ Rws w0 wr (St (rooms gR cR L) x (.slice none 0 0) D [])) (fun _ i _ => 2 - (intOf i).toNat)
  case atStart => exact ⟨0, by omega, rfl, [], rfl, RR.out⟩
  case round =>
    obtain ⟨k, hk, rfl, D, hD, hR⟩ := hrel
    have HD1 := Hid.mk' hD
    have HR := Hid.mk' hR
    clear hD hR RR
    have hlD : D.length = 6 * k := by
      have := congrArg List.length HD1.out
      rw [List.length_map] at this
      rw [this, List.length_flatten, List.map_replicate, List.sum_replicate_nat]
      simp; omega
    have HLD := Hid.mk' hlD
    clear hlD
    by_cases hk2 : k < 2
    · go_wp2_with (first | (go_at_call 13; (have Q := Pack_rdb (by omega) hg.out (in_rdb HR.out)); rw [E1.out] at Q; refine Q.mono ?_; clear Q; rintro e w3 ⟨v14, rfl, h1, k1, _⟩; (obtain ⟨p1, q1, rfl⟩ := own_shape h1); (have H3 := Hid.mk' (HR.out.new k1 h1)); clear h1 k1)
                           | (go_at_call 18; (have Q := Cut_rdb a (by omega) hg (in_rdb H3.out)); rw [E2.out, E3.out, E7.out] at Q; refine Q.mono ?_; clear Q; rintro e w4 ⟨v15, v16, rfl, h1, h2, hf, k1⟩; (obtain ⟨p2, q2, rfl⟩ := own_shape h1); (obtain ⟨p3, q3, rfl⟩ := own_shape h2); (have H4 := Hid.mk' (H3.out.new2 k1 h1 h2 hf)); (obtain ⟨d0, d1, d2⟩ := HD.out w4 H4.out.bel); clear h1 h2 hf k1)
                           | (go_at_call 22; (have Q := Insert_rdb a s o l hl hz hg (in_rdb H4.out)); rw [E4.out, E9.out] at Q; refine Q.mono ?_; clear Q; rintro e w5 ⟨v18, rfl, h1, k1⟩; (obtain ⟨p4, q4, rfl⟩ := own_shape h1); (have H5 := Hid.mk' (H4.out.new k1 h1)); clear h1 k1)
                           | (go_at_call 19; (have Q := Delete_rdb a b (by omega) (by rw [E8.out]; exact hd.out) hg (in_rdb H5.out)); rw [E5.out, E8.out] at Q; refine Q.mono ?_; clear Q; rintro e w6 ⟨v20, rfl, h1, k1⟩; (obtain ⟨p5, q5, rfl⟩ := own_shape h1); (have H6 := Hid.mk' (H5.out.new k1 h1)); clear h1 k1)
                           | (go_at_call 20; (have Q := Slice_rdb a b (by omega) hg (in_rdb H6.out)); rw [E6.out, E8.out] at Q; refine Q.mono ?_; clear Q; rintro e w7 ⟨v22, rfl, h1, k1⟩; (obtain ⟨p6, q6, rfl⟩ := own_shape h1); (have H7 := Hid.mk' (H6.out.new k1 h1)); clear h1 k1)
                           | (at_builtin; refine append_grew rfl (.tmp 83) (.tmp 90) 47 rfl w0.heap.size 22 i22 (.slice none 0 0) 1 24 Try.underlying47 I22.out.1 I22.out.2.1 I22.out.2.2.1 I22.out.2.2.2 rfl (by decide) u11 D.length (D.map (·.1)) rfl ((H7.out.own 1 _ rfl).alloc _) ⟨w7.heap.size, 0, none⟩ 6 6 [.slice p1 A1.length q1, .slice p2 A2.length q2, .slice p3 A3.length q3, .slice p4 A4.length q4, .slice p5 A5.length q5, .slice p6 A6.length q6] rfl rfl (by omega) (fun j t hj => lit_cells w7 _ 22 j t hj) ?qc0 ?qc1 ?qc2 ?qc3 ?_))
      case qc0 => intro u hu; simp at hu; rcases hu with rfl | rfl | rfl | rfl | rfl | rfl <;> rfl
      case qc1 => have := HLD.out; unfold maxLen; omega
      case qc2 => have := HLD.out; omega
      case qc3 => have := H7.out.size; simp; omega
      intro v8 w8 hown8 hgrew8
      have H8 := Hid.mk' ((H7.out.alloc _).grow (i := 1) rfl hgrew8.grown hown8 hgrew8.fresh)
      have H9 : Hid (Rws w0 w8 (St (rooms gR cR L) v8 (.slice none 0 0) (D ++ [(.slice p1 A1.length q1, A1), (.slice p2 A2.length q2, A2), (.slice p3 A3.length q3, A3), (.slice p4 A4.length q4, A4), (.slice p5 A5.length q5, A5), (.slice p6 A6.length q6, A6)]) [])) := by
        have := H8.out
        unfold Hid
        simpa [St, vrow, sprow, List.append_assoc] using this
      have HD2 : Hid ((D ++ [(Value.slice p1 A1.length q1, A1), (.slice p2 A2.length q2, A2), (.slice p3 A3.length q3, A3), (.slice p4 A4.length q4, A4), (.slice p5 A5.length q5, A5), (.slice p6 A6.length q6, A6)]).map (·.2) = (List.replicate (k + 1) [A1, A2, A3, A4, A5, A6]).flatten) := by
        unfold Hid
        rw [List.map_append, HD1.out, List.replicate_succ', List.flatten_append]
        simp
      clear hown8 hgrew8 H3 H4 H5 H6 H7 H8 d0 d1 d2
      go_wp2
      go_roundw
      case rel => exact ⟨k + 1, by omega, by go_num, _, HD2.out, H9.out⟩
      case measure => simp [intOf]; omega
    · obtain rfl : k = 2 := by omega
      rw [show ((2 : Nat) : Int) = 2 from rfl]
      have HD3 : Hid (D.map (·.2) = [A1, A2, A3, A4, A5, A6] ++ [A1, A2, A3, A4, A5, A6]) := HD1.out
      have hlD : D.length = 12 := HLD.out
      have HLD2 := Hid.mk' hlD
      clear HD1 HLD
      obtain ⟨gl, cl, hx, hc3, hc4⟩ : ∃ g c, u11 = .slice (some ⟨g, 0, none⟩) 12 c ∧ 12 ≤ c ∧ c ≤ maxLen := by
        have h := HR.out.own 1 _ rfl
        unfold vrow at h
        dsimp only at h
        rw [hlD] at h
        rcases h.2 with ⟨_, h0⟩ | ⟨g, c, cur, e, _, _, h1, h2, _⟩
        · omega
        · exact ⟨g, c, e, h1, h2⟩
      subst hx
      clear hlD hk
      go_wp2_with fail
      go_loopw [12, 24] (fun y i wr => ∃ k : Nat, k ≤ 12 ∧ i = .int .i64 k ∧ ∃ E : List (Value × List Sp), E.map (·.2) = (D.map (·.2)).take k ∧ Rws w0 wr (St (rooms gR cR L) (.slice (some ⟨gl, 0, none⟩) 12 cl) y D E)) (fun _ i _ => 12 - (intOf i).toNat)
      case atStart => exact ⟨0, by omega, rfl, [], rfl, HR.out⟩
      case round =>
        obtain ⟨k, hk, rfl, E, hE, hR⟩ := hrel
        have HE := Hid.mk' hE
        have HRE := Hid.mk' hR
        clear hE hR HR
        have hlE : E.length = k := by
          have := congrArg List.length HE.out
          rw [List.length_map, List.length_take, List.length_map, HLD2.out] at this
          omega
        have HLE := Hid.mk' hlE
        clear hlE
        by_cases hk2 : k < 12
        · obtain ⟨X, Z, hX⟩ : ∃ X Z, D[k]? = some (X, Z) := ⟨_, _, List.getElem?_eq_getElem (by rw [HLD2.out]; exact hk2)⟩
          have HX := Hid.mk' hX
          clear hX
          have hown := HRE.out.own (3 + k) (sprow (X, Z)) (by rw [St.at3]; rw [List.getElem?_append_left (by rw [HLD2.out]; exact hk2), HX.out]; rfl)
          obtain ⟨ax, cx, hXs⟩ := own_shape hown
          have hXs2 : X = .slice ax Z.length cx := hXs
          subst hXs2
          have HO : Hid (wr.ownsRow w0.heap.size 39 3 (.slice ax Z.length cx) Z.length (cells Z)) := hown
          have hZl : Z.length ≤ 2097153 := by
            have h1 : Z ∈ D.map (·.2) := by
              have := List.mem_of_getElem? HX.out
              exact List.mem_map_of_mem this
            rw [HD3.out] at h1
            simp at h1
            rcases h1 with rfl | rfl | rfl | rfl | rfl | rfl | rfl | rfl | rfl | rfl | rfl | rfl <;> omega
          have hcell : wr.cell? ⟨gl, k, none⟩ = some (.slice ax Z.length cx) := by
            have h := HRE.out.own 1 _ rfl
            unfold vrow at h
            dsimp only at h
            rw [HLD2.out] at h
            rw [h.cellAt k (by omega), List.getElem?_map, HX.out]; rfl
          have hgl : gl < wr.heap.size := cell_lt hcell
          have hcell2 : ∀ x : Obj, (wr.alloc x).cell? ⟨gl, k, none⟩ = some (.slice ax Z.length cx) := fun x => by rw [(bAlloc (Below.refl wr.heap.size wr) x).cell hgl]; exact hcell
          clear hown hXs hcell
          have hk0 : (0 : Int) ≤ (k : Int) := by omega
          have hk1 : (k : Int) < 12 := by omega
          go_wp2_with (at_builtin; refine append_srv rfl (.tmp 99) (.tmp 103) 22 rfl wr.heap.size 39 i39 (.agg #[.int .i64 0, .int .i64 0, .int .i64 0]) 3 24 Try.underlying22 I39.out.1 I39.out.2.1 I39.out.2.2.1 I39.out.2.2.2 rfl (by decide) (.slice (some ⟨wr.heap.size, 0, none⟩) 0 0) 0 [] rfl (World.ownsRow_made wr #[] 0 (Nat.le_refl _) (by decide) rfl) (.slice ax Z.length cx) Z.length (cells Z) rfl ((own_srv HO.out).keep (bAlloc (Below.refl _ _) _)) (cells_length Z) (cells_one Z) ?qd1 ?qd2 (by simp) ?_)
          case qd1 => unfold maxLen; omega
          case qd2 => omega
          intro v1' w1' hown1 hgrow1 hf1
          have hb1 : Below wr.heap.size wr w1' := (bAlloc (Below.refl _ _) _).grown hgrow1 (by simp) (fun k hk => by simp [Value.ownBlock] at hk; omega)
          have hown2 : w1'.ownsRow wr.heap.size 39 3 v1' Z.length (cells Z) := by simpa using hown1
          obtain ⟨a1, c1, hs1⟩ := own_shape hown2
          subst hs1
          have F1 := Hid.mk' (HRE.out.new hb1 hown2)
          clear hown1 hgrow1 hf1 hb1 hown2
          go_wp2_with (at_builtin; refine append_grew rfl (.tmp 98) (.tmp 105) 47 rfl w0.heap.size 22 i22 (.slice none 0 0) 1 24 Try.underlying47 I22.out.1 I22.out.2.1 I22.out.2.2.1 I22.out.2.2.2 rfl (by decide) u12 E.length (E.map (·.1)) rfl ((F1.out.own 2 _ rfl).alloc _) ⟨w1'.heap.size, 0, none⟩ 1 1 [.slice a1 Z.length c1] rfl rfl (by omega) (fun j t hj => lit_cells w1' _ 22 j t hj) ?qe0 ?qe1 ?qe2 ?qe3 ?_)
          case qe0 => intro u hu; simp at hu; rw [hu]; rfl
          case qe1 => have := HLE.out; unfold maxLen; omega
          case qe2 => have := HLE.out; omega
          case qe3 => have := F1.out.size; simp; omega
          intro v2' w2' hown2 hgrew2
          have F2 := Hid.mk' ((F1.out.alloc _).grow (i := 2) rfl hgrew2.grown hown2 hgrew2.fresh)
          have F3 : Hid (Rws w0 w2' (St (rooms gR cR L) (.slice (some ⟨gl, 0, none⟩) 12 cl) v2' D (E ++ [(.slice a1 Z.length c1, Z)]))) := by
            have := F2.out
            unfold Hid
            simpa [St, vrow, sprow, List.append_assoc] using this
          have HE2 : Hid ((E ++ [(Value.slice a1 Z.length c1, Z)]).map (·.2) = (D.map (·.2)).take (k + 1)) := by
            unfold Hid
            rw [List.map_append, HE.out, List.take_succ_eq_append_getElem (by rw [List.length_map, HLD2.out]; exact hk2)]
            congr 1
            have := List.getElem?_eq_some_iff.1 HX.out
            simp [this.2]
          clear hown2 hgrew2 F1 F2
          go_wp2
          go_roundw
          case rel => exact ⟨k + 1, by omega, by go_num, _, HE2.out, F3.out⟩
          case measure => simp [intOf]; omega
        · obtain rfl : k = 12 := by omega
          rw [show ((12 : Nat) : Int) = 12 from rfl]
          have HE3 : Hid (E.map (·.2) = [A1, A2, A3, A4, A5, A6] ++ [A1, A2, A3, A4, A5, A6]) := by
            unfold Hid; rw [HE.out, List.take_of_length_le (by rw [List.length_map, HLD2.out]; exact Nat.le_refl _)]; exact HD3.out
          clear HE
          obtain ⟨gw, cw, hy, hc5, hc6⟩ : ∃ g c, u12 = .slice (some ⟨g, 0, none⟩) 12 c ∧ 12 ≤ c ∧ c ≤ maxLen := by
            have h := HRE.out.own 2 _ rfl
            unfold vrow at h
            dsimp only at h
            rw [HLE.out] at h
            rcases h.2 with ⟨_, h0⟩ | ⟨g, c, cur, e, _, _, h1, h2, _⟩
            · omega
            · exact ⟨g, c, e, h1, h2⟩
          subst hy
          clear hk hk2
          obtain ⟨wm, hwm⟩ : ∃ wm : World, wm = wr := ⟨_, rfl⟩
          subst hwm
          go_wp2_with fail
          go_loopw [25] (fun i wr => ∃ k : Nat, k ≤ 6 ∧ i = .int .i64 k ∧ Rws w0 wr (St (rooms gR cR L) (.slice (some ⟨gl, 0, none⟩) 12 cl) (.slice (some ⟨gw, 0, none⟩) 12 cw) D E)) (fun i _ => 6 - (intOf i).toNat)
          case atStart => exact ⟨0, by omega, rfl, HRE.out⟩
          case round =>
            obtain ⟨k, hk, rfl, hR⟩ := hrel
            have HR3 := Hid.mk' hR
            clear hR HRE
            by_cases hk2 : k < 6
            · obtain ⟨X1, X2, Z, hX1, hX2⟩ := pair_at HE3.out hk2
              have o1 := HR3.out.ownE HLD2.out hX1
              have o2 := HR3.out.ownE HLD2.out hX2
              have c1 := HR3.out.cellE HLE.out hX1
              have c2 := HR3.out.cellE HLE.out hX2
              obtain ⟨a1, b1, e1⟩ := own_shape o1
              obtain ⟨a2, b2, e2⟩ := own_shape o2
              subst e1 e2
              have hZl : Z.length ≤ 2097153 := by
                have h1 : Z ∈ E.map (·.2) := List.mem_map_of_mem (List.mem_of_getElem? hX1)
                rw [HE3.out] at h1
                simp at h1
                rcases h1 with rfl | rfl | rfl | rfl | rfl | rfl | rfl | rfl | rfl | rfl | rfl | rfl <;> omega
              have O1 := Hid.mk' (own_rdb (own_drew o1))
              have O2 := Hid.mk' (own_rdb (own_drew o2))
              have hk0 : (0 : Int) ≤ (k : Int) := by omega
              have hk1 : (k : Int) < 12 := by omega
              have hk3 : (k : Int) + 6 < 12 := by omega
              have hk4 : (0 : Int) ≤ (k : Int) + 6 := by omega
              have hk5 : IntKind.i64.wrap ((k : Int) + 6) = (k : Int) + 6 := wrap_in (by omega) (by omega)
              have e6 : ((k : Int) + 6).toNat = k + 6 := by omega
              have c3 : wr.cell? ⟨gw, ((k : Int) + 6).toNat, none⟩ = some (.slice a2 Z.length b2) := by rw [e6]; exact c2
              clear o1 o2 hX1 hX2 e6 c2
              go_wp2_with fail
              go_region_held3 (fun w' => w'.cell? ⟨gw, k, none⟩ = some (.slice a1 Z.length b1) ∧ w'.cell? ⟨gw, ((k : Int) + 6).toNat, none⟩ = some (.slice a2 Z.length b2)) (first | assumption | exact ⟨c1, c3⟩ | exact ⟨by assumption, by assumption⟩)
                (first | (go_at_call 12; (have Q := same_rdb (L := Z) (by omega) O1.out O2.out); refine Q.mono ?_; clear Q; rintro e w3 ⟨rfl, k3⟩; (have K3 : w3.cell? ⟨gw, k, none⟩ = some (.slice a1 Z.length b1) ∧ w3.cell? ⟨gw, ((k : Int) + 6).toNat, none⟩ = some (.slice a2 Z.length b2) := ⟨by rw [k3.cell (p := ⟨gw, k, none⟩) (cell_lt c1)]; exact c1, by rw [k3.cell (p := ⟨gw, ((k : Int) + 6).toNat, none⟩) (cell_lt c3)]; exact c3⟩); (have H3 := Hid.mk' (HR3.out.drew.keep k3)); clear k3))
              go_wp2
              go_roundw
              case rel => exact ⟨k + 1, by omega, by go_num, H3.out⟩
              case measure => simp [intOf]; omega
            · obtain rfl : k = 6 := by omega
              rw [show ((6 : Nat) : Int) = 6 from rfl]
              clear hk hk2
              have j3 : (L.length : Int) < (L.length : Int) + 2 := by omega
              have j4 : (L.length : Int) + 1 < (L.length : Int) + 2 := by omega
              have j5 : (0 : Int) ≤ (L.length : Int) + 1 := by omega
              go_wp2_with (go_at_call 12; (have Q := same_rdb (L := L) (by omega) (in_rdb HR3.out) (hr0.out.keep HR3.out.bel)); refine Q.mono ?_; clear Q; rintro e w4 ⟨rfl, k4⟩; (have H4 := Hid.mk' (HR3.out.keep k4)); (obtain ⟨m0, m1⟩ := room_marks H4.out); clear k4)
              clear m0 m1 HR3
              go_wp2_with fail
              go_loopw [26] (fun i wr => ∃ k : Nat, k ≤ L.length ∧ i = .int .i64 k ∧ ∃ zs : List Value, zs.length = (L.length + 2) * 3 ∧ Rws w0 wr (St ⟨39, 3, .slice (some ⟨gR, 0, none⟩) (L.length + 2) cR, L.length + 2, zs⟩ (.slice (some ⟨gl, 0, none⟩) 12 cl) (.slice (some ⟨gw, 0, none⟩) 12 cw) D E)) (fun i _ => L.length - (intOf i).toNat)
              case atStart => exact ⟨0, by omega, rfl, cells (L ++ marks), by rw [cells_length]; simp [marks], rooms_eq H4.out⟩
              case round =>
                obtain ⟨k, hk, rfl, zs, hzs, hR⟩ := hrel
                have HR4 := Hid.mk' hR
                have HZS := Hid.mk' hzs
                clear hR H4 hzs
                by_cases hk2 : k < L.length
                · have hk0 : (0 : Int) ≤ (k : Int) := by omega
                  have hk1 : (k : Int) < (L.length : Int) := by omega
                  have hown := HR4.out.own 0 _ rfl
                  dsimp only at hown
                  obtain ⟨t0, s0⟩ : ∃ t, wr.cell? ⟨gR, k * 3, none⟩ = some t := ⟨_, by rw [hown.cellAt _ (by omega)]; exact List.getElem?_eq_getElem (by rw [HZS.out]; omega)⟩
                  obtain ⟨t1, s1⟩ : ∃ t, wr.cell? ⟨gR, k * 3 + 1, none⟩ = some t := ⟨_, by rw [hown.cellAt _ (by omega)]; exact List.getElem?_eq_getElem (by rw [HZS.out]; omega)⟩
                  obtain ⟨t2, s2⟩ : ∃ t, wr.cell? ⟨gR, k * 3 + 2, none⟩ = some t := ⟨_, by rw [hown.cellAt _ (by omega)]; exact List.getElem?_eq_getElem (by rw [HZS.out]; omega)⟩
                  have f0 := hown.frozenAt (k * 3)
                  have f1 := hown.frozenAt (k * 3 + 1)
                  have f2 := hown.frozenAt (k * 3 + 2)
                  have RS := Hid.mk' (HR4.out.store3 (i := 0) rfl (k * 3) (.int .i64 (-9)) (.int .i64 0) (.int .i64 0))
                  clear hown
                  go_wp2
                  go_roundw
                  case rel => exact ⟨k + 1, by omega, by go_num, _, by simp only [List.length_set]; exact HZS.out, RS.out⟩
                  case measure => simp [intOf]; omega
                · obtain rfl : k = L.length := by omega
                  clear hk hk2
                  obtain ⟨wn, hwn⟩ : ∃ wn : World, wn = wr := ⟨_, rfl⟩
                  subst hwn
                  go_wp2_with fail
                  go_loopw [27] (fun i wr => ∃ k : Nat, k ≤ 12 ∧ i = .int .i64 k ∧ Rws w0 wr (St ⟨39, 3, .slice (some ⟨gR, 0, none⟩) (L.length + 2) cR, L.length + 2, zs⟩ (.slice (some ⟨gl, 0, none⟩) 12 cl) (.slice (some ⟨gw, 0, none⟩) 12 cw) (mark k D) E)) (fun i _ => 12 - (intOf i).toNat)
                  case atStart => exact ⟨0, by omega, rfl, by rw [mark_zero]; exact HR4.out⟩
                  case round =>
                    obtain ⟨k, hk, rfl, hR⟩ := hrel
                    have HR5 := Hid.mk' hR
                    clear hR HR4
                    by_cases hk2 : k < 12
                    · obtain ⟨X, Z, hX⟩ : ∃ X Z, D[k]? = some (X, Z) := ⟨_, _, List.getElem?_eq_getElem (by rw [HLD2.out]; exact hk2)⟩
                      obtain ⟨Y, hY⟩ := same_snd (HD3.out.trans HE3.out.symm) hX
                      have o1 := HR5.out.ownD (mark_old hX (by omega))
                      have o2 := HR5.out.ownE (by rw [mark_len]; exact HLD2.out) hY
                      have c1 := HR5.out.cellD (by rw [mark_len]; exact HLD2.out) (mark_old hX (by omega))
                      have c2 := HR5.out.cellE HLE.out hY
                      obtain ⟨a1, b1, e1⟩ := own_shape o1
                      obtain ⟨a2, b2, e2⟩ := own_shape o2
                      subst e1 e2
                      have hZl : Z.length ≤ 2097153 := by
                        have h1 : Z ∈ D.map (·.2) := List.mem_map_of_mem (List.mem_of_getElem? hX)
                        rw [HD3.out] at h1
                        simp at h1
                        rcases h1 with rfl | rfl | rfl | rfl | rfl | rfl | rfl | rfl | rfl | rfl | rfl | rfl <;> omega
                      have O1 := Hid.mk' (own_rdb (own_drew o1))
                      have O2 := Hid.mk' (own_rdb (own_drew o2))
                      have HX := Hid.mk' hX
                      have hk0 : (0 : Int) ≤ (k : Int) := by omega
                      have hk1 : (k : Int) < 12 := by omega
                      clear o1 o2 hX hY
                      go_wp2_with fail
                      go_region_held3 (fun w' => w'.cell? ⟨gl, k, none⟩ = some (.slice a1 Z.length b1) ∧ w'.cell? ⟨gw, k, none⟩ = some (.slice a2 Z.length b2)) (first | assumption | exact ⟨c1, c2⟩ | exact ⟨by assumption, by assumption⟩)
                        (first | (go_at_call 12; (have Q := same_rdb (L := Z) (by omega) O1.out O2.out); refine Q.mono ?_; clear Q; rintro e w5 ⟨rfl, k5⟩; (have K5 : w5.cell? ⟨gl, k, none⟩ = some (.slice a1 Z.length b1) ∧ w5.cell? ⟨gw, k, none⟩ = some (.slice a2 Z.length b2) := ⟨by rw [k5.cell (p := ⟨gl, k, none⟩) (cell_lt c1)]; exact c1, by rw [k5.cell (p := ⟨gw, k, none⟩) (cell_lt c2)]; exact c2⟩); (have H5 := Hid.mk' (HR5.out.drew.keep k5)); clear k5))
                      clear K5 c1 c2 O1 O2 HR5
                      go_wp2_with fail
                      go_loopw [28] (fun i wr => ∃ j : Nat, j ≤ Z.length ∧ i = .int .i64 j ∧ Rws w0 wr (St ⟨39, 3, .slice (some ⟨gR, 0, none⟩) (L.length + 2) cR, L.length + 2, zs⟩ (.slice (some ⟨gl, 0, none⟩) 12 cl) (.slice (some ⟨gw, 0, none⟩) 12 cw) ((mark k D).set k (.slice a1 Z.length b1, List.replicate j (mrk k) ++ Z.drop j)) E)) (fun i _ => Z.length - (intOf i).toNat)
                      case atStart => exact ⟨0, by omega, rfl, by rw [List.replicate_zero, List.drop_zero, List.nil_append, set_self (mark_old HX.out (by omega))]; exact H5.out⟩
                      case round =>
                        obtain ⟨j, hj, rfl, hR⟩ := hrel
                        have HR6 := Hid.mk' hR
                        clear hR H5
                        have hlk : k < (mark k D).length := by rw [mark_len, HLD2.out]; exact hk2
                        have at0 := List.getElem?_set_self (a := (Value.slice a1 Z.length b1, List.replicate j (mrk k) ++ Z.drop j)) hlk
                        have c1 := HR6.out.cellD (by rw [List.length_set, mark_len]; exact HLD2.out) at0
                        have hlj : (List.replicate j (mrk k) ++ Z.drop j).length = Z.length := by rw [List.length_append, List.length_replicate, List.length_drop]; omega
                        by_cases hj2 : j < Z.length
                        · have o1 := HR6.out.ownD at0
                          rw [hlj] at o1
                          obtain ⟨gx, cx, hx0, -, -⟩ := own_some' o1 (by omega)
                          simp at hx0
                          obtain ⟨rfl, rfl⟩ := hx0
                          have hxl : (cells (List.replicate j (mrk k) ++ Z.drop j)).length = Z.length * 3 := by rw [cells_length, hlj]
                          obtain ⟨t0, s0⟩ : ∃ t, wr.cell? ⟨gx, j * 3, none⟩ = some t := ⟨_, by rw [o1.cellAt _ (by omega)]; exact List.getElem?_eq_getElem (by rw [hxl]; omega)⟩
                          obtain ⟨t1, s1⟩ : ∃ t, wr.cell? ⟨gx, j * 3 + 1, none⟩ = some t := ⟨_, by rw [o1.cellAt _ (by omega)]; exact List.getElem?_eq_getElem (by rw [hxl]; omega)⟩
                          obtain ⟨t2, s2⟩ : ∃ t, wr.cell? ⟨gx, j * 3 + 2, none⟩ = some t := ⟨_, by rw [o1.cellAt _ (by omega)]; exact List.getElem?_eq_getElem (by rw [hxl]; omega)⟩
                          have f0 := o1.frozenAt (j * 3)
                          have f1 := o1.frozenAt (j * 3 + 1)
                          have f2 := o1.frozenAt (j * 3 + 2)
                          have hj0 : (0 : Int) ≤ (j : Int) := by omega
                          have hj1 : (j : Int) < (Z.length : Int) := by omega
                          have RS : Hid (Rws w0 (((wr.setCell ⟨gx, j * 3, none⟩ (.int .i64 (100 + (k : Int)))).setCell ⟨gx, j * 3 + 1, none⟩ (.int .i64 0)).setCell ⟨gx, j * 3 + 2, none⟩ (.int .i64 0)) (St ⟨39, 3, .slice (some ⟨gR, 0, none⟩) (L.length + 2) cR, L.length + 2, zs⟩ (.slice (some ⟨gl, 0, none⟩) 12 cl) (.slice (some ⟨gw, 0, none⟩) 12 cw) ((mark k D).set k (.slice (some ⟨gx, 0, none⟩) Z.length b1, List.replicate (j + 1) (mrk k) ++ Z.drop (j + 1))) E)) := by
                            have h := HR6.out.mark3 (p := mrk k) at0 hlj (j := j) hj2
                            rw [List.set_set, rep_set Z j (mrk k) hj2] at h
                            exact h
                          clear o1 hxl at0 hlj
                          go_wp2
                          go_roundw
                          case rel => exact ⟨j + 1, by omega, by go_num, RS.out⟩
                          case measure => simp [intOf]; omega
                        · obtain rfl : j = Z.length := by omega
                          have HR7 : Hid (Rws w0 wr (St ⟨39, 3, .slice (some ⟨gR, 0, none⟩) (L.length + 2) cR, L.length + 2, zs⟩ (.slice (some ⟨gl, 0, none⟩) 12 cl) (.slice (some ⟨gw, 0, none⟩) 12 cw) (mark (k + 1) D) E)) := by
                            have h := HR6.out
                            rw [List.drop_of_length_le (Nat.le_refl _), List.append_nil, mark_succ HX.out] at h
                            exact h
                          clear at0 hlj HR6
                          go_wp2
                          go_roundw
                          case rel => exact ⟨k + 1, by omega, by go_num, HR7.out⟩
                          case measure => simp [intOf]; omega
                    · obtain rfl : k = 12 := by omega
                      rw [show ((12 : Nat) : Int) = 12 from rfl]
                      clear hk hk2
                      obtain ⟨wo, hwo⟩ : ∃ wo : World, wo = wr := ⟨_, rfl⟩
                      subst hwo
                      go_wp2_with fail
                      go_loopw [29] (fun i wr => ∃ k : Nat, k ≤ 2 ∧ i = .int .i64 k ∧ Rws w0 wr (St ⟨39, 3, .slice (some ⟨gR, 0, none⟩) (L.length + 2) cR, L.length + 2, zs⟩ (.slice (some ⟨gl, 0, none⟩) 12 cl) (.slice (some ⟨gw, 0, none⟩) 12 cw) (mark 12 D) E)) (fun i _ => 2 - (intOf i).toNat)
                      case atStart => exact ⟨0, by omega, rfl, HR5.out⟩
                      case round =>
                        obtain ⟨t, ht, rfl, hR⟩ := hrel
                        have HR8 := Hid.mk' hR
                        clear hR HR5
                        obtain ⟨wp', hwp⟩ : ∃ wp' : World, wp' = wr := ⟨_, rfl⟩
                        subst hwp
                        by_cases ht2 : t < 2
                        · have ht3 : (t : Int) < 2 := by omega
                          go_wp2_with fail
                          go_loopw [30] (fun i wr => ∃ k : Nat, k ≤ 12 ∧ i = .int .i64 k ∧ Rws w0 wr (St ⟨39, 3, .slice (some ⟨gR, 0, none⟩) (L.length + 2) cR, L.length + 2, zs⟩ (.slice (some ⟨gl, 0, none⟩) 12 cl) (.slice (some ⟨gw, 0, none⟩) 12 cw) (mark 12 D) E)) (fun i _ => 12 - (intOf i).toNat)
                          case atStart => exact ⟨0, by omega, rfl, HR8.out⟩
                          case round =>
                            obtain ⟨k, hk, rfl, hR⟩ := hrel
                            have HR9 := Hid.mk' hR
                            clear hR HR8
                            obtain ⟨wq, hwq⟩ : ∃ wq : World, wq = wr := ⟨_, rfl⟩
                            subst hwq
                            by_cases hk2 : k < 12
                            · obtain ⟨X, Z, hX⟩ : ∃ X Z, D[k]? = some (X, Z) := ⟨_, _, List.getElem?_eq_getElem (by rw [HLD2.out]; exact hk2)⟩
                              have hXm := mark_new hX hk2
                              have o1 := HR9.out.ownD hXm
                              rw [List.length_replicate] at o1
                              have c1 := HR9.out.cellD (by rw [mark_len]; exact HLD2.out) hXm
                              obtain ⟨a1, b1, e1⟩ := own_shape o1
                              subst e1
                              have hZl : Z.length ≤ 2097153 := by
                                have h1 : Z ∈ D.map (·.2) := List.mem_map_of_mem (List.mem_of_getElem? hX)
                                rw [HD3.out] at h1
                                simp at h1
                                rcases h1 with rfl | rfl | rfl | rfl | rfl | rfl | rfl | rfl | rfl | rfl | rfl | rfl <;> omega
                              have HXM := Hid.mk' hXm
                              have O1 := Hid.mk' o1
                              have AT : Hid ((St ⟨39, 3, .slice (some ⟨gR, 0, none⟩) (L.length + 2) cR, L.length + 2, zs⟩ (.slice (some ⟨gl, 0, none⟩) 12 cl) (.slice (some ⟨gw, 0, none⟩) 12 cw) (mark 12 D) E)[3 + k]? = some (sprow (.slice a1 Z.length b1, List.replicate Z.length (mrk k)))) := by
                                unfold Hid; rw [St.at3, List.getElem?_append_left (List.getElem?_eq_some_iff.1 hXm).1, hXm]; rfl
                              generalize hn : Z.length = n at *
                              clear hn hX hXm o1
                              have hk0 : (0 : Int) ≤ (k : Int) := by omega
                              have hk1 : (k : Int) < 12 := by omega
                              go_wp2_with fail
                              go_loop [32] (fun i => ∃ j : Nat, j ≤ n ∧ i = .int .i64 j) (fun i => n - (intOf i).toNat)
                              case atStart => exact ⟨0, by omega, rfl⟩
                              case round =>
                                obtain ⟨j, hj, rfl⟩ := hrel
                                by_cases hj2 : j < n
                                · obtain ⟨gx, cx, hx0, -, -⟩ := own_some' O1.out (by omega)
                                  simp at hx0
                                  obtain ⟨rfl, rfl⟩ := hx0
                                  have s0 : wq.cell? ⟨gx, j * 3, none⟩ = some (.int .i64 (100 + (k : Int))) := by
                                    have h1 : (List.replicate n (mrk k))[j]? = some (mrk k) := by simp [hj2]
                                    have h2 := cells_at h1 0 (by omega)
                                    rw [Nat.add_zero] at h2
                                    exact (O1.out.cellAt _ (by omega)).trans h2
                                  have hj0 : (0 : Int) ≤ (j : Int) := by omega
                                  have hj1 : (j : Int) < (n : Int) := by omega
                                  go_wp2
                                  go_round
                                  case rel => exact ⟨j + 1, by omega, by go_num⟩
                                  case measure => simp [intOf]; omega
                                · obtain rfl : j = n := by omega
                                  clear c1
                                  go_wp2_with fail
                                  go_loopw [31, 33] (fun l i wr => ∃ q : Nat, q ≤ 20 ∧ i = .int .i64 q ∧ Rws w0 wr (St ⟨39, 3, .slice (some ⟨gR, 0, none⟩) (L.length + 2) cR, L.length + 2, zs⟩ (.slice (some ⟨gl, 0, none⟩) 12 cl) (.slice (some ⟨gw, 0, none⟩) 12 cw) (mark 12 D) E) ∧ wr.ownsRow w0.heap.size 39 3 l (j + q) (cells (List.replicate j (mrk k)) ++ cells (List.replicate q ⟨99, 0, 0⟩)) ∧ Link (.slice a1 j b1) l ∧ ∀ (z : Nat) (r : Rw), z ≠ 3 + k → (St ⟨39, 3, .slice (some ⟨gR, 0, none⟩) (L.length + 2) cR, L.length + 2, zs⟩ (.slice (some ⟨gl, 0, none⟩) 12 cl) (.slice (some ⟨gw, 0, none⟩) 12 cw) (mark 12 D) E)[z]? = some r → Far r.v l) (fun _ i _ => 20 - (intOf i).toNat)
                                  case atStart => exact ⟨0, by omega, rfl, HR9.out, by simpa [cells] using O1.out, Link.self O1.out, fun z r hz hr => HR9.out.far z (3 + k) r _ hz hr AT.out⟩
                                  case round =>
                                    obtain ⟨q, hq, rfl, hR, hO, hLk, hFa⟩ := hrel
                                    have HRA := Hid.mk' hR
                                    have HOA := Hid.mk' hO
                                    have HLA := Hid.mk' hLk
                                    have HFA := Hid.mk' hFa
                                    clear hR hO hLk hFa
                                    by_cases hq2 : q < 20
                                    · go_wp2_with (at_builtin; refine append_grew rfl (.tmp 221) (.tmp 223) 22 rfl w0.heap.size 39 i39 (.agg #[.int .i64 0, .int .i64 0, .int .i64 0]) 3 24 Try.underlying22 I39.out.1 I39.out.2.1 I39.out.2.2.1 I39.out.2.2.2 rfl (by decide) u31 (j + q) (cells (List.replicate j (mrk k)) ++ cells (List.replicate q ⟨99, 0, 0⟩)) rfl (HOA.out.alloc _) ⟨wr.heap.size, 0, none⟩ 1 1 (cells [⟨99, 0, 0⟩]) rfl rfl (by omega) (fun j t hj => lit_cells wr _ 39 j t hj) (cells_one _) ?qf1 ?qf2 ?qf3 ?_)
                                      case qf1 => unfold maxLen; omega
                                      case qf2 => omega
                                      case qf3 => have := HRA.out.size; simp; omega
                                      intro v8' w8' hown8 hgrew8
                                      rw [← cells_append, ← List.replicate_succ'] at hown8
                                      have RL := Hid.mk' ((HRA.out.alloc _).link AT.out HLA.out HFA.out hgrew8 (fun z hz => (HOA.out.lt z hz).1) hown8)
                                      have OL : Hid (w8'.ownsRow w0.heap.size 39 3 v8' (j + (q + 1)) (cells (List.replicate j (mrk k)) ++ cells (List.replicate (q + 1) ⟨99, 0, 0⟩))) := hown8
                                      clear hown8 hgrew8
                                      go_wp2
                                      go_roundw
                                      case rel => exact ⟨q + 1, by omega, by go_num, RL.out.1, OL.out, RL.out.2.1, RL.out.2.2⟩
                                      case measure => simp [intOf]; omega
                                    · obtain rfl : q = 20 := by omega
                                      rw [show ((20 : Nat) : Int) = 20 from rfl]
                                      clear HOA HLA HFA
                                      go_wp2
                                      go_roundw
                                      case rel => exact ⟨k + 1, by omega, by go_num, HRA.out⟩
                                      case measure => simp [intOf]; omega
                            · obtain rfl : k = 12 := by omega
                              rw [show ((12 : Nat) : Int) = 12 from rfl]
                              go_wp2
                              go_roundw
                              case rel => exact ⟨t + 1, by omega, by go_num, HR9.out⟩
                              case measure => simp [intOf]; omega
                        · obtain rfl : t = 2 := by omega
                          rw [show ((2 : Nat) : Int) = 2 from rfl]
                          clear ht ht2
                          obtain ⟨d0, d1, d2⟩ := HD.out wp' HR8.out.bel
                          have atE0 := at_first HE3.out
                          obtain ⟨Y0, hY0⟩ := atE0.1
                          obtain ⟨Y3, hY3⟩ := atE0.2
                          have o0 := HR8.out.ownE (by rw [mark_len]; exact HLD2.out) hY0
                          have o3 := HR8.out.ownE (by rw [mark_len]; exact HLD2.out) hY3
                          have c0 := HR8.out.cellE HLE.out hY0
                          have c3 := HR8.out.cellE HLE.out hY3
                          obtain ⟨a0, b0, e0⟩ := own_shape o0
                          obtain ⟨a3, b3, e3⟩ := own_shape o3
                          subst e0 e3
                          have O0 := Hid.mk' (And.intro (own_rdb o0) (own_rdb o3))
                          have C0 := Hid.mk' (And.intro c0 c3)
                          clear o0 o3 c0 c3 hY0 hY3 atE0
                          go_wp2_with (go_at_call 22; (have Q := Insert_rdb a s o l hl hz hg (hr0.out.keep HR8.out.bel)); rw [E4.out, E9.out] at Q; refine Q.mono ?_; clear Q; rintro e wz ⟨vz, rfl, hz1, kz⟩; (obtain ⟨pz, qz, rfl⟩ := own_shape hz1); (have HZ : Hid (Rdb wz (.slice pz A4.length qz) A4 ∧ Rdb wz (.slice a0 A1.length b0) A1 ∧ Rdb wz (.slice a3 A4.length b3) A4 ∧ Below w0.heap.size w0 wz) := ⟨own_rdb hz1, O0.out.1.keep kz, O0.out.2.keep kz, bT HR8.out.bel kz⟩); (have z0 : wz.cell? ⟨gw, 0, none⟩ = some (.slice a0 A1.length b0) := by (rw [kz.cell (p := ⟨gw, 0, none⟩) (cell_lt C0.out.1)]; exact C0.out.1)); (have z3 : wz.cell? ⟨gw, 3, none⟩ = some (.slice a3 A4.length b3) := by (rw [kz.cell (p := ⟨gw, 3, none⟩) (cell_lt C0.out.2)]; exact C0.out.2)); clear hz1 kz)
                          go_region_held3 (fun w' => w'.cell? ⟨gw, 0, none⟩ = some (.slice a0 A1.length b0) ∧ w'.cell? ⟨gw, 3, none⟩ = some (.slice a3 A4.length b3)) (first | assumption | exact ⟨z0, z3⟩ | exact ⟨by assumption, by assumption⟩)
                            (first | (go_at_call 13; (have Q := Pack_rdb (w := wz.drew) (by omega) hg.out (hr0.out.keep HZ.out.2.2.2.drew)); rw [E1.out] at Q; refine Q.mono ?_; clear Q; rintro e wy ⟨vy, rfl, hy1, ky, _⟩; (obtain ⟨py, qy, rfl⟩ := own_shape hy1); (have HY : Hid (Rdb wy (.slice py A1.length qy) A1 ∧ Rdb wy (.slice pz A4.length qz) A4 ∧ Rdb wy (.slice a0 A1.length b0) A1 ∧ Rdb wy (.slice a3 A4.length b3) A4 ∧ Below w0.heap.size w0 wy) := ⟨own_rdb hy1, HZ.out.1.keep (bD ky), HZ.out.2.1.keep (bD ky), HZ.out.2.2.1.keep (bD ky), bT HZ.out.2.2.2 (bD ky)⟩); (have KY : wy.cell? ⟨gw, 0, none⟩ = some (.slice a0 A1.length b0) ∧ wy.cell? ⟨gw, 3, none⟩ = some (.slice a3 A4.length b3) := ⟨by rw [(bD ky).cell (p := ⟨gw, 0, none⟩) (cell_lt z0)]; exact z0, by rw [(bD ky).cell (p := ⟨gw, 3, none⟩) (cell_lt z3)]; exact z3⟩); clear hy1 ky)
                                   | (go_at_call_of 12 (Value.slice py A1.length qy); (have Q := same_rdb (L := A1) (by omega) HY.out.1 HY.out.2.2.1); refine Q.mono ?_; clear Q; rintro e wx ⟨rfl, kx⟩; (have HXX : Hid (Rdb wx (.slice pz A4.length qz) A4 ∧ Rdb wx (.slice a3 A4.length b3) A4 ∧ Below w0.heap.size w0 wx) := ⟨HY.out.2.1.keep kx, HY.out.2.2.2.1.keep kx, bT HY.out.2.2.2.2 kx⟩); (have KX : wx.cell? ⟨gw, 0, none⟩ = some (.slice a0 A1.length b0) ∧ wx.cell? ⟨gw, 3, none⟩ = some (.slice a3 A4.length b3) := ⟨by rw [kx.cell (p := ⟨gw, 0, none⟩) (cell_lt KY.1)]; exact KY.1, by rw [kx.cell (p := ⟨gw, 3, none⟩) (cell_lt KY.2)]; exact KY.2⟩); clear kx)
                                   | (go_at_call_of 12 (Value.slice pz A4.length qz); (have Q := same_rdb (L := A4) (by omega) HXX.out.1 HXX.out.2.1); refine Q.mono ?_; clear Q; rintro e wv ⟨rfl, kv⟩; (have HV := Hid.mk' (bT HXX.out.2.2 kv)); (have KV : wv.cell? ⟨gw, 0, none⟩ = some (.slice a0 A1.length b0) ∧ wv.cell? ⟨gw, 3, none⟩ = some (.slice a3 A4.length b3) := ⟨by rw [kv.cell (p := ⟨gw, 0, none⟩) (cell_lt KX.1)]; exact KX.1, by rw [kv.cell (p := ⟨gw, 3, none⟩) (cell_lt KX.2)]; exact KX.2⟩); clear kv))
                          go_wp2
                          go_ret
                          refine ⟨rfl, ?_⟩
                          have h := HV.out
                          rw [HW0.out] at h
                          exact bA h
end Go.Proofs.Ytjjgloioppjcaaa
