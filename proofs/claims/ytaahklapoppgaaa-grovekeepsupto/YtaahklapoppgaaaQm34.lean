/- The reference's Check. -/
import Derived.Test.YtaahklapoppgaaaQm33
import Derived.Test.YtaahklapoppgaaaQm21
namespace Go.Proofs.Ytaahklapoppgaaa
open Go.RowKit

set_option maxRecDepth 8000
/-- what Check has seen of the changes up to number i -/
def RkI (D : List Nd) (i : Nat) : Prop := ∀ (k : Nat) (n : Nd), k < i → D[k]? = some n → (0 < k → (0 ≤ n.par ∧ n.par < (k : Int)) ∧ Sound n) ∧ Lead D k n
theorem RkI.step {D : List Nd} {i : Nat} {n : Nd} (h : RkI D i) (hi : D[i]? = some n) (h1 : (0 < i → (0 ≤ n.par ∧ n.par < (i : Int)) ∧ Sound n) ∧ Lead D i n) : RkI D (i + 1) := fun k m hk hm => by
  by_cases e : k = i
  · subst e; rw [hi] at hm; cases hm; exact h1
  · exact h k m (by omega) hm
theorem RkI.all {D : List Nd} {i : Nat} (h : RkI D i) (hi : D.length ≤ i) : Hangs D ∧ Leads D := ⟨fun k n h0 hk => (h k n (by have := (List.getElem?_eq_some_iff.1 hk).1; omega) hk).1 h0, fun k n hk => (h k n (by have := (List.getElem?_eq_some_iff.1 hk).1; omega) hk).2⟩
theorem lead_no1 {D : List Nd} {i : Nat} {n : Nd} (h : n.nxt < 0) : ¬ Lead D i n := by
  rintro (h1 | ⟨k, h1, -⟩) <;> omega
theorem lead_no2 {D : List Nd} {i : Nat} {n : Nd} (h0 : 0 < n.nxt) (h : (D.length : Int) ≤ n.nxt) : ¬ Lead D i n := by
  rintro (h1 | ⟨k, h1, m, h2, -⟩)
  · omega
  · have := (List.getElem?_eq_some_iff.1 h2).1; omega
theorem lead_no3 {D : List Nd} {i k : Nat} {n m : Nd} (h0 : 0 < k) (h : n.nxt = (k : Int)) (hm : D[k]? = some m) (hp : m.par ≠ (i : Int)) : ¬ Lead D i n := by
  rintro (h1 | ⟨j, h1, m', h2, h3⟩)
  · omega
  · obtain rfl : j = k := by omega
    rw [hm] at h2; cases h2; exact hp h3
set_option maxHeartbeats 16000000 in
set_option linter.unusedSimpArgs false in
theorem rcheck_walk (Z : Nr) (hZ : Z.cs.length = 58) (hz63 : ∀ w, (zeroValue 63).run Try.prog w = .ok (.agg (nd Z)) w) (ao : Option Addr) (n c : Nat) (now : Int) (G : List Nr) (w : World) (HG : Hid (Grz w ao G)) (hn : G.length = n) : Calls Try.prog 14 #[.agg #[.slice ao n c, .int .i64 now]] w fun e w' => e = .returned (.int .i64 (ti (Right (G.map Nr.d) now) 0 180)) ∧ Below w.heap.size w w' := by
  generalize hW1 : w.alloc (.cells #[.slice ao n c, .int .i64 now] 24) = W1
  have L1 : Hid (Below w.heap.size w W1) := by subst hW1; exact bAlloc (Below.refl _ _) _
  have K1 : Hid (Blk W1 w.heap.size 24 #[.slice ao n c, .int .i64 now]) := by subst hW1; exact Blk.new w 24 _
  have a1 : W1.cell? ⟨w.heap.size, 0, none⟩ = some (.slice ao n c) := K1.out.cell rfl
  have b1 : W1.cell? ⟨w.heap.size, 1, none⟩ = some (.int .i64 now) := K1.out.cell rfl
  obtain ⟨b, hb⟩ : ∃ b, w.heap.size = b := ⟨_, rfl⟩
  have HBb := mkH hb
  rw [hb] at K1 a1 b1
  obtain ⟨T, hT⟩ : ∃ T, ti (Right (G.map Nr.d) now) 0 180 = T := ⟨_, rfl⟩
  have HNO : Hid (¬ Right (G.map Nr.d) now → T = 180) := fun h => by rw [← hT]; exact ti_f h
  have HYE : Hid (Right (G.map Nr.d) now → T = 0) := fun h => by rw [← hT]; exact ti_t h
  rw [hT]
  have HN := mkH hn
  have HLD : Hid ((G.map Nr.d).length = n) := by unfold Hid; rw [List.length_map, hn]
  obtain ⟨D, hD⟩ : ∃ D, G.map Nr.d = D := ⟨_, rfl⟩
  rw [hD] at HNO HYE HLD
  have HD := mkH hD
  clear hT hn hD
  have HZ63 := mkH hz63
  clear hz63
  go_enter Try.func14, Try.ntmps14
  go_upto_region 2 with fail
  clear hW1 hb
  by_cases s0 : (n : Int) < 1
  · skip
    have hq : Hid (T = 180) := HNO.out (fun h => by have := h.sz; unfold Sized at this; have := HLD.out; omega)
    go_wp2
    go_ret
    exact ⟨by rw [hq.out]; rfl, L1.out⟩
  · skip
    by_cases s1 : 4097 < (n : Int)
    · skip
      have hq : Hid (T = 180) := HNO.out (fun h => by have := h.sz; unfold Sized at this; have := HLD.out; omega)
      go_wp2
      go_ret
      exact ⟨by rw [hq.out]; rfl, L1.out⟩
    · skip
      by_cases s2 : now < 0
      · skip
        have hq : Hid (T = 180) := HNO.out (fun h => by have := h.sz; unfold Sized at this; have := HLD.out; omega)
        go_wp2
        go_ret
        exact ⟨by rw [hq.out]; rfl, L1.out⟩
      · skip
        by_cases s3 : (n : Int) ≤ now
        · skip
          have hq : Hid (T = 180) := HNO.out (fun h => by have := h.sz; unfold Sized at this; have := HLD.out; omega)
          go_wp2
          go_ret
          exact ⟨by rw [hq.out]; rfl, L1.out⟩
        · skip
          obtain ⟨k0, rfl⟩ : ∃ k : Nat, now = (k : Int) := ⟨now.toNat, by omega⟩
          have HS : Hid (0 < n ∧ n ≤ 4097 ∧ k0 < n) := by unfold Hid; omega
          obtain ⟨g, o, rfl, hat0⟩ := HG.out.base (by have := HN.out; omega)
          have HA := mkH hat0
          obtain ⟨r, hr⟩ : ∃ r, G[0]? = some r := ⟨_, List.getElem?_eq_getElem (by have := HN.out; omega)⟩
          have HR0 : Hid (at' D 0 = r.d) := by unfold Hid; rw [← HD.out]; exact at'_eq (by rw [List.getElem?_map, hr]; rfl)
          have hz := HG.out.nds 0 r hr
          have hcl := hz.cl
          have HRG : Hid (W1.rangeAt g o r.cs) := by
            have := range_keep (hat0 0 r hr).all L1.out
            rwa [Nat.zero_mul, Nat.add_zero] at this
          have hn' : (0 : Int) < (n : Int) := by omega
          obtain ⟨W2, hW2⟩ : ∃ x, W1.alloc (.cells (nd Z) 63) = x := ⟨_, rfl⟩
          obtain ⟨q, hq0⟩ : ∃ q, W1.heap.size = q := ⟨_, rfl⟩
          have KZ : Hid (Blk W2 q 63 (nd Z)) := by unfold Hid; rw [← hW2, ← hq0]; exact Blk.new W1 63 _
          have LZ : Hid (Below W1.heap.size W1 W2) := by unfold Hid; rw [← hW2]; exact bAlloc (Below.refl _ _) _
          have HRG2 := mkH (range_keep HRG.out LZ.out)
          have L2 : Hid (Below w.heap.size w (W2.setCells q 0 r.cs)) := by
            have := below_setCells (Nat.le_of_eq hq0) r.cs 0 LZ.out
            exact L1.out.trans (this.mono L1.out.size)
          have K2 : Hid (Blk (W2.setCells q 0 r.cs) q 63 (nd r)) := put_blk (cs := r.cs) (old := Z.cs) (by rw [hZ, hcl]) KZ.out
          have KX : Hid (Blk (W2.setCells q 0 r.cs) b 24 #[.slice (some ⟨g, o, none⟩) n c, .int .i64 (k0 : Int)]) := by
            have := below_setCells (Nat.le_of_eq hq0) r.cs 0 LZ.out
            exact K1.out.keep this
          have HT58 : Hid (W2.there q 0 58) := by have := there_blk (cs := Z.cs) KZ.out; unfold Hid; rwa [hZ] at this
          have hz63 := HZ63.out
          clear hr hat0
          go_upto_region 5 with (first | refine wl_ld63 (B := g) (o := o) (.tmp 30) rfl rfl rfl hcl HRG.out ?_ | refine wl_st63 (B := q) (o := 0) (r := r) (.tmp 4) (.tmp 31) rfl rfl rfl rfl hcl HT58.out ?_ | fail)
          clear hW2 hq0 hz63 s0 s1 s2 s3
          obtain ⟨V, hV⟩ : ∃ x, W2.setCells q 0 r.cs = x := ⟨_, rfl⟩
          rw [hV] at L2 K2 KX
          rw [hV]
          have NB := mkH (Nb.of K2.out hz.ww.len)
          have c0 := NB.out.c0
          have c2 := NB.out.c2
          have c3 := NB.out.c3
          have M1 := mkH NB.out.m1
          have M2 := mkH NB.out.m2
          have hwl := hz.ww.len
          have hml := hz.wm.len
          have HEL := mkH hz.len
          have CA := fun W => rnoMark_any r.was hwl W
          have CB := fun W => rnoMark_any r.made hml W
          have HZR : Hid (Zero (at' D 0) ↔ r.par = 0 ∧ r.E.map Er.d = [] ∧ r.cur = 0 ∧ r.was = zm ∧ r.made = zm) := by unfold Hid; rw [HR0.out]; exact Iff.rfl
          obtain ⟨par, nxt, ea, en, ec, E, cur, was, made⟩ := r
          dsimp only at c0 c2 c3 M1 M2 hwl hml HEL CA CB HZR
          clear hV a1 b1 HRG HRG2 K1 K2 hcl hz HR0 NB L1 LZ KZ HT58
          obtain ⟨zl, hzl⟩ : ∃ z, zm = z := ⟨_, rfl⟩
          rw [hzl] at CA CB HZR
          have HZL := mkH hzl
          clear hzl
          by_cases p0 : par ≠ 0
          · skip
            have hq : Hid (T = 180) := HNO.out (fun h => p0 (HZR.out.1 h.beg).1)
            have z0 : (par != 0) = true := by simpa using p0
            clear CA CB
            go_wp2
            go_ret
            exact ⟨by rw [hq.out]; rfl, L2.out⟩
          · skip
            replace p0 : par = 0 := Classical.not_not.1 p0
            subst p0
            by_cases p1 : cur ≠ 0
            · skip
              have hq : Hid (T = 180) := HNO.out (fun h => p1 (HZR.out.1 h.beg).2.2.1)
              have z1 : (cur != 0) = true := by simpa using p1
              clear CA CB
              go_wp2
              go_ret
              exact ⟨by rw [hq.out]; rfl, L2.out⟩
            · skip
              replace p1 : cur = 0 := Classical.not_not.1 p1
              subst p1
              by_cases p2 : en ≠ 0
              · skip
                have hq : Hid (T = 180) := HNO.out (fun h => by have h1 := (HZR.out.1 h.beg).2.1; have h2 := HEL.out; have h3 := congrArg List.length h1; rw [List.length_map, h2] at h3; exact p2 h3)
                have z2 : ((en : Int) != 0) = true := by simp [bne]; omega
                clear CA CB
                go_wp2
                go_ret
                exact ⟨by rw [hq.out]; rfl, L2.out⟩
              · skip
                replace p2 : en = 0 := Classical.not_not.1 p2
                subst p2
                by_cases p3 : was ≠ zl
                · skip
                  have hq : Hid (T = 180) := HNO.out (fun h => p3 (HZR.out.1 h.beg).2.2.2.1)
                  rw [decide_eq_false p3] at CA
                  replace CA := mkH CA
                  clear p3
                  go_wp2_with (first | refine wl_ld41g (B := q) (o := 31) (.tmp 53) rfl rfl rfl hml MB.out ?_ | refine wl_ld41g (B := q) (o := 4) (.tmp 47) rfl rfl rfl hwl M1.out ?_ | (go_at_call 41; refine (CB.out w2).mono ?_; rintro e w3 ⟨rfl, hb3⟩; have HB3 := mkH (bT HB2.out hb3); clear hb3) | (go_at_call 41; refine (CA.out V).mono ?_; rintro e w2 ⟨rfl, hb2⟩; have MB := mkH (range_keep M2.out hb2); have HB2 := mkH hb2; clear hb2) | fail)
                  go_ret
                  exact ⟨by rw [hq.out]; rfl, (bT L2.out HB2.out)⟩
                · skip
                  replace p3 : was = zl := Classical.not_not.1 p3
                  rw [decide_eq_true p3] at CA
                  replace CA := mkH CA
                  by_cases p4 : made ≠ zl
                  · skip
                    have hq : Hid (T = 180) := HNO.out (fun h => p4 (HZR.out.1 h.beg).2.2.2.2)
                    rw [decide_eq_false p4] at CB
                    replace CB := mkH CB
                    clear p3 p4
                    go_wp2_with (first | refine wl_ld41g (B := q) (o := 31) (.tmp 53) rfl rfl rfl hml MB.out ?_ | refine wl_ld41g (B := q) (o := 4) (.tmp 47) rfl rfl rfl hwl M1.out ?_ | (go_at_call 41; refine (CB.out w2).mono ?_; rintro e w3 ⟨rfl, hb3⟩; have HB3 := mkH (bT HB2.out hb3); clear hb3) | (go_at_call 41; refine (CA.out V).mono ?_; rintro e w2 ⟨rfl, hb2⟩; have MB := mkH (range_keep M2.out hb2); have HB2 := mkH hb2; clear hb2) | fail)
                    go_ret
                    exact ⟨by rw [hq.out]; rfl, (bT L2.out HB3.out)⟩
                  · skip
                    replace p4 : made = zl := Classical.not_not.1 p4
                    rw [decide_eq_true p4] at CB
                    replace CB := mkH CB
                    have HBG : Hid (Zero (at' D 0)) := HZR.out.2 ⟨rfl, List.map_eq_nil_iff.2 (List.eq_nil_of_length_eq_zero HEL.out), rfl, p3, p4⟩
                    clear p3 p4 HZR HEL
                    go_upto_region 7 with (first | refine wl_ld41g (B := q) (o := 31) (.tmp 53) rfl rfl rfl hml MB.out ?_ | refine wl_ld41g (B := q) (o := 4) (.tmp 47) rfl rfl rfl hwl M1.out ?_ | (go_at_call 41; refine (CB.out w2).mono ?_; rintro e w3 ⟨rfl, hb3⟩; have HB3 := mkH (bT HB2.out hb3); clear hb3) | (go_at_call 41; refine (CA.out V).mono ?_; rintro e w2 ⟨rfl, hb2⟩; have MB := mkH (range_keep M2.out hb2); have HB2 := mkH hb2; clear hb2) | fail)
                    have L3 := mkH (bT L2.out HB3.out)
                    have K3 := mkH (KX.out.keep HB3.out)
                    clear CA CB HB2 HB3 MB M1 M2 c0 c2 c3 L2 KX
                    go_wp2
                    go_loopg [5, 6] n (fun m x5 x6 wx => ∃ i : Nat, x5 = .int .i64 (i : Int) ∧ i + m = n ∧ Hid (RkI D i) ∧ Hid (Below w.heap.size w wx) ∧ Hid (Blk wx b 24 #[.slice (some ⟨g, o, none⟩) n c, .int .i64 (k0 : Int)]))
                    case atStart => exact ⟨0, rfl, by omega, (fun k x hk => by omega), L3.out, K3.out⟩
                    case round =>
                      obtain ⟨i, rfl, him, KI, KB, KK⟩ := hrel
                      obtain ⟨go, hgo⟩ : ∃ g, g = gk - 1 := ⟨_, rfl⟩
                      by_cases hi : i < n
                      · have hi' : (i : Int) < (n : Int) := by omega
                        have hi0 : (0 : Int) ≤ (i : Int) := by omega
                        have hw8 : IntKind.i64.wrap ((i : Int) + 1) = ((i + 1 : Nat) : Int) := by rw [IntKind.wrap_i64]; have := HS.out; omega
                        obtain ⟨r, hr⟩ : ∃ r, G[i]? = some r := ⟨_, List.getElem?_eq_getElem (by have := HN.out; omega)⟩
                        have HRD : Hid (D[i]? = some r.d) := by unfold Hid; rw [← HD.out, List.getElem?_map, hr]; rfl
                        have hz := HG.out.nds i r hr
                        have hcl := hz.cl
                        have HRG := mkH (range_keep (HA.out i r hr).all KB.out)
                        obtain ⟨W4, hW4⟩ : ∃ x, wr.alloc (.cells (nd Z) 63) = x := ⟨_, rfl⟩
                        obtain ⟨p, hp0⟩ : ∃ q, wr.heap.size = q := ⟨_, rfl⟩
                        have KZ : Hid (Blk W4 p 63 (nd Z)) := by unfold Hid; rw [← hW4, ← hp0]; exact Blk.new wr 63 _
                        have LZ : Hid (Below wr.heap.size wr W4) := by unfold Hid; rw [← hW4]; exact bAlloc (Below.refl _ _) _
                        have LY : Hid (Below wr.heap.size wr (W4.setCells p 0 r.cs)) := below_setCells (Nat.le_of_eq hp0) r.cs 0 LZ.out
                        have L4 := mkH (bT KB.out LY.out)
                        have K5 : Hid (Blk (W4.setCells p 0 r.cs) p 63 (nd r)) := put_blk (cs := r.cs) (old := Z.cs) (by rw [hZ, hcl]) KZ.out
                        have K4 := mkH (KK.out.keep LY.out)
                        have HT58 : Hid (W4.there p 0 58) := by have := there_blk (cs := Z.cs) KZ.out; unfold Hid; rwa [hZ] at this
                        have hz63 := HZ63.out
                        have a4 := blk_cell0 KK.out
                        clear LY LZ KZ
                        go_upto_region 11 with (first | refine wl_ld63 (B := g) (o := o + i * 58) (.tmp 66) rfl rfl rfl hcl HRG.out ?_ | refine wl_st63 (B := p) (o := 0) (r := r) (.tmp 6) (.tmp 67) rfl rfl rfl rfl hcl HT58.out ?_ | fail)
                        clear hW4 hp0 hz63 a4
                        obtain ⟨V4, hV⟩ : ∃ x, W4.setCells p 0 r.cs = x := ⟨_, rfl⟩
                        rw [hV] at L4 K4 K5
                        rw [hV]
                        have NB := mkH (Nb.of K5.out hz.ww.len)
                        have c1 := NB.out.c1
                        have HAL := mkH NB.out.all
                        have a4 := blk_cell0 K4.out
                        have CN := rnode_any r (i : Int) V4 (hz.keep L4.out)
                        obtain ⟨nx, hnx⟩ : ∃ x, r.nxt = x := ⟨_, rfl⟩
                        have HNX : Hid (r.d.nxt = nx) := hnx
                        rw [hnx] at c1
                        clear hV hnx NB hz KB KK hr K5 HRG HT58
                        by_cases hi1 : i = 0
                        · have hi2 : ¬ (0 : Int) < (i : Int) := by omega
                          have HSD : Hid (0 < i → (0 ≤ r.d.par ∧ r.d.par < (i : Int)) ∧ Sound r.d) := fun h => absurd h (by omega)
                          clear CN
                          by_cases x0 : nx < 0
                          · skip
                            have hq : Hid (T = 180) := HNO.out (fun h => lead_no1 (by rw [HNX.out]; exact x0) (h.lds i _ HRD.out))
                            go_wp2
                            go_ret
                            exact ⟨by rw [hq.out]; rfl, L4.out⟩
                          · skip
                            by_cases x1 : (n : Int) ≤ nx
                            · skip
                              have hq : Hid (T = 180) := HNO.out (fun h => lead_no2 (by rw [HNX.out]; omega) (by rw [HNX.out, HLD.out]; exact x1) (h.lds i _ HRD.out))
                              go_wp2
                              go_ret
                              exact ⟨by rw [hq.out]; rfl, L4.out⟩
                            · skip
                              by_cases x2 : nx = 0
                              · subst x2
                                have KJ := mkH (KI.out.step HRD.out ⟨HSD.out, .inl HNX.out⟩)
                                go_wp2
                                go_roundg go
                                case measure => omega
                                case rel => exact ⟨i + 1, by go_num, by omega, KJ.out, L4.out, K4.out⟩
                              · skip
                                obtain ⟨k, hk⟩ : ∃ k : Nat, nx = (k : Int) := ⟨nx.toNat, by omega⟩
                                subst hk
                                have hk0 : (0 : Int) < (k : Int) := by omega
                                have hk1 : (0 : Int) ≤ (k : Int) := by omega
                                have hkn : (k : Int) < (n : Int) := by omega
                                obtain ⟨s, hs⟩ : ∃ r, G[k]? = some r := ⟨_, List.getElem?_eq_getElem (by have := HN.out; omega)⟩
                                have HSE : Hid (D[k]? = some s.d) := by unfold Hid; rw [← HD.out, List.getElem?_map, hs]; rfl
                                have HTT : Hid (∀ W, Below w.heap.size w W → W.cell? ⟨g, o + k * 58, none⟩ = some (.int .i64 s.par)) := fun W hW => cell_keep (HA.out k s hs).c0 hW
                                obtain ⟨pa, hpa⟩ : ∃ x, s.par = x := ⟨_, rfl⟩
                                have HPA : Hid (s.d.par = pa) := hpa
                                rw [hpa] at HTT
                                clear hpa hs
                                have T4 := HTT.out V4 L4.out
                                by_cases x3 : pa ≠ (i : Int)
                                · skip
                                  have hq : Hid (T = 180) := HNO.out (fun h => lead_no3 (by omega) HNX.out HSE.out (by rw [HPA.out]; exact x3) (h.lds i _ HRD.out))
                                  have x4 : (pa != (i : Int)) = true := by simpa using x3
                                  clear x3
                                  go_wp2
                                  go_ret
                                  exact ⟨by rw [hq.out]; rfl, L4.out⟩
                                · skip
                                  replace x3 : pa = (i : Int) := Classical.not_not.1 x3
                                  have KJ := mkH (KI.out.step HRD.out ⟨HSD.out, .inr ⟨k, HNX.out, _, HSE.out, HPA.out.trans x3⟩⟩)
                                  subst x3
                                  go_wp2
                                  go_roundg go
                                  case measure => omega
                                  case rel => exact ⟨i + 1, by go_num, by omega, KJ.out, L4.out, K4.out⟩
                        · skip
                          have hi2 : (0 : Int) < (i : Int) := by omega
                          have HI3 : Hid (0 < i) := by unfold Hid; omega
                          by_cases hs : ¬ ((0 ≤ r.par ∧ r.par < (i : Int)) ∧ Sound r.d)
                          · skip
                            have hq : Hid (T = 180) := HNO.out (fun h => hs (h.hng i _ (by omega) HRD.out))
                            rw [tb_f hs] at CN
                            replace CN := mkH CN
                            clear hs
                            have HTT : Hid (∀ W, Below w.heap.size w W → True) := fun _ _ => trivial
                            go_wp2_with (refine wl_ld63g (B := p) (o := 0) (r := r) (.tmp 6) (by simp [Region.wanted, yielded]; exact HI3.out) rfl rfl hcl HAL.out ?_)
                            go_at_call 42
                            refine CN.out.mono ?_
                            rintro e w5 ⟨rfl, hb5⟩
                            have L5 := mkH (bT L4.out hb5)
                            have K5 := mkH (K4.out.keep hb5)
                            have c5 := cell_keep c1 hb5
                            have a5 := cell_keep a4 hb5
                            have T5 := HTT.out w5 L5.out
                            clear hb5 CN c1 a4 hcl HAL K4 HTT
                            dsimp only
                            go_wp2
                            go_ret
                            exact ⟨by rw [hq.out]; rfl, L5.out⟩
                          · skip
                            replace hs := Classical.not_not.1 hs
                            rw [tb_t hs] at CN
                            have HSD : Hid (0 < i → (0 ≤ r.d.par ∧ r.d.par < (i : Int)) ∧ Sound r.d) := fun _ => hs
                            clear hs
                            replace CN := mkH CN
                            by_cases x0 : nx < 0
                            · skip
                              have hq : Hid (T = 180) := HNO.out (fun h => lead_no1 (by rw [HNX.out]; exact x0) (h.lds i _ HRD.out))
                              have HTT : Hid (∀ W, Below w.heap.size w W → True) := fun _ _ => trivial
                              go_wp2_with (refine wl_ld63g (B := p) (o := 0) (r := r) (.tmp 6) (by simp [Region.wanted, yielded]; exact HI3.out) rfl rfl hcl HAL.out ?_)
                              go_at_call 42
                              refine CN.out.mono ?_
                              rintro e w5 ⟨rfl, hb5⟩
                              have L5 := mkH (bT L4.out hb5)
                              have K5 := mkH (K4.out.keep hb5)
                              have c5 := cell_keep c1 hb5
                              have a5 := cell_keep a4 hb5
                              have T5 := HTT.out w5 L5.out
                              clear hb5 CN c1 a4 hcl HAL K4 HTT
                              dsimp only
                              go_wp2
                              go_ret
                              exact ⟨by rw [hq.out]; rfl, L5.out⟩
                            · skip
                              by_cases x1 : (n : Int) ≤ nx
                              · skip
                                have hq : Hid (T = 180) := HNO.out (fun h => lead_no2 (by rw [HNX.out]; omega) (by rw [HNX.out, HLD.out]; exact x1) (h.lds i _ HRD.out))
                                have HTT : Hid (∀ W, Below w.heap.size w W → True) := fun _ _ => trivial
                                go_wp2_with (refine wl_ld63g (B := p) (o := 0) (r := r) (.tmp 6) (by simp [Region.wanted, yielded]; exact HI3.out) rfl rfl hcl HAL.out ?_)
                                go_at_call 42
                                refine CN.out.mono ?_
                                rintro e w5 ⟨rfl, hb5⟩
                                have L5 := mkH (bT L4.out hb5)
                                have K5 := mkH (K4.out.keep hb5)
                                have c5 := cell_keep c1 hb5
                                have a5 := cell_keep a4 hb5
                                have T5 := HTT.out w5 L5.out
                                clear hb5 CN c1 a4 hcl HAL K4 HTT
                                dsimp only
                                go_wp2
                                go_ret
                                exact ⟨by rw [hq.out]; rfl, L5.out⟩
                              · skip
                                by_cases x2 : nx = 0
                                · subst x2
                                  have HTT : Hid (∀ W, Below w.heap.size w W → True) := fun _ _ => trivial
                                  have KJ := mkH (KI.out.step HRD.out ⟨HSD.out, .inl HNX.out⟩)
                                  go_wp2_with (refine wl_ld63g (B := p) (o := 0) (r := r) (.tmp 6) (by simp [Region.wanted, yielded]; exact HI3.out) rfl rfl hcl HAL.out ?_)
                                  go_at_call 42
                                  refine CN.out.mono ?_
                                  rintro e w5 ⟨rfl, hb5⟩
                                  have L5 := mkH (bT L4.out hb5)
                                  have K5 := mkH (K4.out.keep hb5)
                                  have c5 := cell_keep c1 hb5
                                  have a5 := cell_keep a4 hb5
                                  have T5 := HTT.out w5 L5.out
                                  clear hb5 CN c1 a4 hcl HAL K4 HTT
                                  dsimp only
                                  go_wp2
                                  go_roundg go
                                  case measure => omega
                                  case rel => exact ⟨i + 1, by go_num, by omega, KJ.out, L5.out, K5.out⟩
                                · skip
                                  obtain ⟨k, hk⟩ : ∃ k : Nat, nx = (k : Int) := ⟨nx.toNat, by omega⟩
                                  subst hk
                                  have hk0 : (0 : Int) < (k : Int) := by omega
                                  have hk1 : (0 : Int) ≤ (k : Int) := by omega
                                  have hkn : (k : Int) < (n : Int) := by omega
                                  obtain ⟨s, hs⟩ : ∃ r, G[k]? = some r := ⟨_, List.getElem?_eq_getElem (by have := HN.out; omega)⟩
                                  have HSE : Hid (D[k]? = some s.d) := by unfold Hid; rw [← HD.out, List.getElem?_map, hs]; rfl
                                  have HTT : Hid (∀ W, Below w.heap.size w W → W.cell? ⟨g, o + k * 58, none⟩ = some (.int .i64 s.par)) := fun W hW => cell_keep (HA.out k s hs).c0 hW
                                  obtain ⟨pa, hpa⟩ : ∃ x, s.par = x := ⟨_, rfl⟩
                                  have HPA : Hid (s.d.par = pa) := hpa
                                  rw [hpa] at HTT
                                  clear hpa hs
                                  by_cases x3 : pa ≠ (i : Int)
                                  · skip
                                    have hq : Hid (T = 180) := HNO.out (fun h => lead_no3 (by omega) HNX.out HSE.out (by rw [HPA.out]; exact x3) (h.lds i _ HRD.out))
                                    have x4 : (pa != (i : Int)) = true := by simpa using x3
                                    clear x3
                                    go_wp2_with (refine wl_ld63g (B := p) (o := 0) (r := r) (.tmp 6) (by simp [Region.wanted, yielded]; exact HI3.out) rfl rfl hcl HAL.out ?_)
                                    go_at_call 42
                                    refine CN.out.mono ?_
                                    rintro e w5 ⟨rfl, hb5⟩
                                    have L5 := mkH (bT L4.out hb5)
                                    have K5 := mkH (K4.out.keep hb5)
                                    have c5 := cell_keep c1 hb5
                                    have a5 := cell_keep a4 hb5
                                    have T5 := HTT.out w5 L5.out
                                    clear hb5 CN c1 a4 hcl HAL K4 HTT
                                    dsimp only
                                    go_wp2
                                    go_ret
                                    exact ⟨by rw [hq.out]; rfl, L5.out⟩
                                  · skip
                                    replace x3 : pa = (i : Int) := Classical.not_not.1 x3
                                    have KJ := mkH (KI.out.step HRD.out ⟨HSD.out, .inr ⟨k, HNX.out, _, HSE.out, HPA.out.trans x3⟩⟩)
                                    subst x3
                                    go_wp2_with (refine wl_ld63g (B := p) (o := 0) (r := r) (.tmp 6) (by simp [Region.wanted, yielded]; exact HI3.out) rfl rfl hcl HAL.out ?_)
                                    go_at_call 42
                                    refine CN.out.mono ?_
                                    rintro e w5 ⟨rfl, hb5⟩
                                    have L5 := mkH (bT L4.out hb5)
                                    have K5 := mkH (K4.out.keep hb5)
                                    have c5 := cell_keep c1 hb5
                                    have a5 := cell_keep a4 hb5
                                    have T5 := HTT.out w5 L5.out
                                    clear hb5 CN c1 a4 hcl HAL K4 HTT
                                    dsimp only
                                    go_wp2
                                    go_roundg go
                                    case measure => omega
                                    case rel => exact ⟨i + 1, by go_num, by omega, KJ.out, L5.out, K5.out⟩
                      · have hi' : ¬ (i : Int) < (n : Int) := by omega
                        obtain ⟨HHG, HLS⟩ : Hangs D ∧ Leads D := KI.out.all (by have := HLD.out; omega)
                        have HHG' := mkH HHG
                        have HLS' := mkH HLS
                        have HP : Hid (Low (pr D) D.length) := HHG.low
                        have b6 : wr.cell? ⟨b, 1, none⟩ = some (.int .i64 (k0 : Int)) := KK.out.cell rfl
                        clear HHG HLS hgo KI
                        go_wp2
                        clear b6
                        go_loopg [7] k0 (fun m x7 wx => x7 = .int .i64 (m : Int) ∧ m < n ∧ Hid (RcI D k0 m) ∧ Hid (Below w.heap.size w wx) ∧ Hid (Blk wx b 24 #[.slice (some ⟨g, o, none⟩) n c, .int .i64 (k0 : Int)]))
                        case atStart => exact ⟨rfl, by have := HS.out; omega, RcI.start _ _, KB.out, KK.out⟩
                        case round =>
                          obtain ⟨rfl, hgn, HF, KB, KK⟩ := hrel
                          by_cases hz : gk = 0
                          · subst hz
                            have hq : Hid (T = 0) := HYE.out ⟨⟨by have := HLD.out; have := HS.out; omega, by omega, by have := HLD.out; have := HS.out; omega⟩, HBG.out, HHG'.out, HLS'.out, HF.out.done⟩
                            go_wp2
                            go_ret
                            exact ⟨by rw [hq.out]; rfl, KB.out⟩
                          · have hz1 : (0 : Int) < (gk : Int) := by omega
                            have hi' : (gk : Int) < (n : Int) := by omega
                            have hi0 : (0 : Int) ≤ (gk : Int) := by omega
                            obtain ⟨r, hr⟩ : ∃ r, G[gk]? = some r := ⟨_, List.getElem?_eq_getElem (by have := HN.out; omega)⟩
                            obtain ⟨k, hk1, hk2, hk3⟩ := par_at HD.out.symm HHG'.out hr (by omega)
                            obtain ⟨s, hs⟩ : ∃ r, G[k]? = some r := ⟨_, List.getElem?_eq_getElem (by have := HN.out; omega)⟩
                            have hkn : (k : Int) < (n : Int) := by omega
                            have hkn0 : (0 : Int) ≤ (k : Int) := by omega
                            have HX : Hid ((at' D (pr D gk)).nxt = s.nxt) := by unfold Hid; rw [← hk2, ← HD.out, map_at hs]; rfl
                            have U0 := (HA.out gk r hr).c0
                            have U1 := (HA.out k s hs).c1
                            rw [hk1] at U0
                            obtain ⟨nx, hnx⟩ : ∃ x, s.nxt = x := ⟨_, rfl⟩
                            rw [hnx] at U1 HX
                            have HK2 := mkH hk2
                            have HLN : Hid (gk < D.length) := by unfold Hid; rw [HLD.out]; omega
                            have HG0 : Hid (0 < gk) := by unfold Hid; omega
                            have T0 : Hid (wr.drew.cell? ⟨g, o + gk * 58, none⟩ = some (.int .i64 (k : Int))) := cell_keep U0 KB.out.drew
                            have T1 : Hid (wr.drew.cell? ⟨g, o + k * 58 + 1, none⟩ = some (.int .i64 nx)) := cell_keep U1 KB.out.drew
                            have KD : Hid (Blk wr.drew b 24 #[.slice (some ⟨g, o, none⟩) n c, .int .i64 (k0 : Int)]) := KK.out
                            have LD : Hid (Below w.heap.size w wr.drew) := KB.out.drew
                            clear hnx hk1 hk2 hr hs U0 U1 hz
                            go_upto_region 16 with fail
                            by_cases he : nx = (gk : Int)
                            · have he1 : (nx == (gk : Int)) = true := by simpa using he
                              have he2 : (nx != (gk : Int)) = false := by simp [bne, he1]
                              have HR := mkH (HF.out.step HP.out HLN.out HG0.out (HX.out.trans he))
                              clear he
                              refine wp_region_held (S := fun w' => Blk w' b 24 #[.slice (some ⟨g, o, none⟩) n c, .int .i64 (k0 : Int)] ∧ w'.cell? ⟨g, o + gk * 58, none⟩ = some (.int .i64 (k : Int)) ∧ w'.cell? ⟨g, o + k * 58 + 1, none⟩ = some (.int .i64 nx)) (by kernel_rfl) ?_
                              change wpAnyH _ _ _ _ _ _ _ _ (World.drew _)
                              generalize wr.drew = V3 at *
                              refine tk 0 (.pointer (some ⟨b, 0, none⟩)) ⟨KD.out, T0.out, T1.out⟩ ?_
                              refine ta 1 (.slice (some ⟨g, o, none⟩) n c) rfl (Or.inl ⟨by rfl, fun w9 h9 => by obtain ⟨h0, h1, h2⟩ := h9; have h3 := blk_cell0 h0; go_simp⟩) ⟨KD.out, T0.out, T1.out⟩ ?_
                              refine tk 2 (.pointer (some ⟨b, 0, none⟩)) ⟨KD.out, T0.out, T1.out⟩ ?_
                              refine ta 3 (.slice (some ⟨g, o, none⟩) n c) rfl (Or.inl ⟨by rfl, fun w9 h9 => by obtain ⟨h0, h1, h2⟩ := h9; have h3 := blk_cell0 h0; go_simp⟩) ⟨KD.out, T0.out, T1.out⟩ ?_
                              try simp only [Act.put, jj1, jj2, jj3, jj4, jj5, jj6]
                              refine tk 4 (.int .i64 (gk : Int)) ⟨KD.out, T0.out, T1.out⟩ ?_
                              refine tk 5 (.pointer (some ⟨g, o + gk * 58, none⟩)) ⟨KD.out, T0.out, T1.out⟩ ?_
                              refine tk 6 (.pointer (some ⟨g, o + gk * 58, none⟩)) ⟨KD.out, T0.out, T1.out⟩ ?_
                              refine ta 7 (.int .i64 (k : Int)) rfl (Or.inl ⟨by rfl, fun w9 h9 => by obtain ⟨h0, h1, h2⟩ := h9; have h3 := blk_cell0 h0; go_simp⟩) ⟨KD.out, T0.out, T1.out⟩ ?_
                              try simp only [Act.put, jj1, jj2, jj3, jj4, jj5, jj6]
                              refine tk 8 (.pointer (some ⟨g, o + k * 58, none⟩)) ⟨KD.out, T0.out, T1.out⟩ ?_
                              refine tk 9 (.pointer (some ⟨g, o + k * 58 + 1, none⟩)) ⟨KD.out, T0.out, T1.out⟩ ?_
                              refine ta 10 (.int .i64 nx) rfl (Or.inl ⟨by rfl, fun w9 h9 => by obtain ⟨h0, h1, h2⟩ := h9; have h3 := blk_cell0 h0; go_simp⟩) ⟨KD.out, T0.out, T1.out⟩ ?_
                              refine tk 11 (.int .i64 (gk : Int)) ⟨KD.out, T0.out, T1.out⟩ ?_
                              try simp only [Act.put, jj1, jj2, jj3, jj4, jj5, jj6]
                              refine tk 12 (.bool false) ⟨KD.out, T0.out, T1.out⟩ ?_
                              try simp only [Act.put, jj1, jj2, jj3, jj4, jj5, jj6]
                              refine wpAnyH_done (by kernel_rfl) ?_ _
                              have t0 := T0.out
                              have t3 := blk_cell0 KD.out
                              clear HP HX
                              go_wp2
                              go_roundg k
                              case measure => omega
                              case rel => exact ⟨rfl, by omega, by rw [HK2.out]; exact HR.out, LD.out, KD.out⟩
                            · have he1 : (nx == (gk : Int)) = false := by simpa using he
                              have he2 : (nx != (gk : Int)) = true := by simp [bne, he1]
                              have hq : Hid (T = 180) := HNO.out (fun h => HF.out.no HP.out HLN.out HG0.out (by rw [HX.out]; exact he) h.rch)
                              clear he
                              refine wp_region_held (S := fun w' => Blk w' b 24 #[.slice (some ⟨g, o, none⟩) n c, .int .i64 (k0 : Int)] ∧ w'.cell? ⟨g, o + gk * 58, none⟩ = some (.int .i64 (k : Int)) ∧ w'.cell? ⟨g, o + k * 58 + 1, none⟩ = some (.int .i64 nx)) (by kernel_rfl) ?_
                              change wpAnyH _ _ _ _ _ _ _ _ (World.drew _)
                              generalize wr.drew = V3 at *
                              refine tk 0 (.pointer (some ⟨b, 0, none⟩)) ⟨KD.out, T0.out, T1.out⟩ ?_
                              refine ta 1 (.slice (some ⟨g, o, none⟩) n c) rfl (Or.inl ⟨by rfl, fun w9 h9 => by obtain ⟨h0, h1, h2⟩ := h9; have h3 := blk_cell0 h0; go_simp⟩) ⟨KD.out, T0.out, T1.out⟩ ?_
                              refine tk 2 (.pointer (some ⟨b, 0, none⟩)) ⟨KD.out, T0.out, T1.out⟩ ?_
                              refine ta 3 (.slice (some ⟨g, o, none⟩) n c) rfl (Or.inl ⟨by rfl, fun w9 h9 => by obtain ⟨h0, h1, h2⟩ := h9; have h3 := blk_cell0 h0; go_simp⟩) ⟨KD.out, T0.out, T1.out⟩ ?_
                              try simp only [Act.put, jj1, jj2, jj3, jj4, jj5, jj6]
                              refine tk 4 (.int .i64 (gk : Int)) ⟨KD.out, T0.out, T1.out⟩ ?_
                              refine tk 5 (.pointer (some ⟨g, o + gk * 58, none⟩)) ⟨KD.out, T0.out, T1.out⟩ ?_
                              refine tk 6 (.pointer (some ⟨g, o + gk * 58, none⟩)) ⟨KD.out, T0.out, T1.out⟩ ?_
                              refine ta 7 (.int .i64 (k : Int)) rfl (Or.inl ⟨by rfl, fun w9 h9 => by obtain ⟨h0, h1, h2⟩ := h9; have h3 := blk_cell0 h0; go_simp⟩) ⟨KD.out, T0.out, T1.out⟩ ?_
                              try simp only [Act.put, jj1, jj2, jj3, jj4, jj5, jj6]
                              refine tk 8 (.pointer (some ⟨g, o + k * 58, none⟩)) ⟨KD.out, T0.out, T1.out⟩ ?_
                              refine tk 9 (.pointer (some ⟨g, o + k * 58 + 1, none⟩)) ⟨KD.out, T0.out, T1.out⟩ ?_
                              refine ta 10 (.int .i64 nx) rfl (Or.inl ⟨by rfl, fun w9 h9 => by obtain ⟨h0, h1, h2⟩ := h9; have h3 := blk_cell0 h0; go_simp⟩) ⟨KD.out, T0.out, T1.out⟩ ?_
                              refine tk 11 (.int .i64 (gk : Int)) ⟨KD.out, T0.out, T1.out⟩ ?_
                              try simp only [Act.put, jj1, jj2, jj3, jj4, jj5, jj6]
                              refine tk 12 (.bool true) ⟨KD.out, T0.out, T1.out⟩ ?_
                              try simp only [Act.put, jj1, jj2, jj3, jj4, jj5, jj6]
                              refine wpAnyH_done (by kernel_rfl) ?_ _
                              clear HP HX
                              go_wp2
                              go_ret
                              exact ⟨by rw [hq.out]; rfl, LD.out⟩
theorem rcheck_any (ao : Option Addr) (n c : Nat) (now : Int) (G : List Nr) (w : World) (HG : Hid (Grz w ao G)) (hn : G.length = n) : Calls Try.prog 14 #[.agg #[.slice ao n c, .int .i64 now]] w fun e w' => e = .returned (.int .i64 (ti (Right (G.map Nr.d) now) 0 180)) ∧ Below w.heap.size w w' := rcheck_walk zr rfl z63 ao n c now G w HG hn
end Go.Proofs.Ytaahklapoppgaaa

